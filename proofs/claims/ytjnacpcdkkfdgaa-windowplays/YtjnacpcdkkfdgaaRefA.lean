/-
  What Add of the document's window does, as a contract. Conditions: the ticks lie where they are said to lie; they are cut and do not fall, and are at most 900; the span is one that may be.
-/
import Derived.Test.YtjnacpcdkkfdgaaRefC
namespace Go.Proofs.Ytjnacpcdkkfdgaa
open Go.ChangeShapes Go.WideShapes Go.ChangeAt Go.RowKit

theorem owns_base {w : World} {base base' : Nat} {e : TypeId} {size : Nat} {v : Value} {n : Nat} {xs : List Value} (h : w.ownsRow base e size v n xs) (hb : base' ≤ base) : w.ownsRow base' e size v n xs := by
  refine ⟨h.1, ?_⟩
  rcases h.2 with hn | ⟨g, cap, cur, rfl, hbg, hgg, rest⟩
  · exact .inl hn
  · exact .inr ⟨g, cap, cur, rfl, Nat.le_trans hb hbg, hgg, rest⟩

set_option maxHeartbeats 1000000 in
set_option maxRecDepth 100000 in
theorem rraise_any (w : World) (s t : Int) (a : Option Addr) (n c : Nat) (zs : List Int) (x : Int) (hz : IntsAt w a n c zs) (hs : 1 ≤ s ∧ s ≤ 1048576) (hr : Row zs) (hn : n ≤ 900) (L : List Int) (hL : allR s t zs = L) (y T : Int) (hy : max (cut x) (lastI L) = y) (hT : max t (cut y) = T) (N : Nat) (hN : (allR s T (L ++ [y])).length = N) :
    Calls Try.prog 13 #[.agg #[.int .i64 s, .slice a n c, .int .i64 t], .int .i64 x] w fun e w' => ∃ a' c', e = .returned (.tuple #[.agg #[.int .i64 s, .slice a' (L.length + 1) c', .int .i64 T], .int .i64 N]) ∧
      IntsAt w' a' (L.length + 1) c' (L ++ [y]) ∧ (∀ p, a' = some p → w.heap.size ≤ p.block ∧ p.block < w'.heap.size) ∧ Below w.heap.size w w' := by
  have hb : Below w.heap.size w ((w.alloc (.cells #[.int .i64 s, .slice a n c, .int .i64 t] 28)).alloc (.cells #[.int .i64 0, .slice none 0 0, .int .i64 0] 28)) := ((Below.refl _ w).alloc (Nat.le_refl _) _).alloc (by simp) _
  have hb0 : ((w.alloc (.cells #[.int .i64 s, .slice a n c, .int .i64 t] 28)).alloc (.cells #[.int .i64 0, .slice none 0 0, .int .i64 0] 28)).heap[w.heap.size]? = some (.cells #[.int .i64 s, .slice a n c, .int .i64 t] 28 (0, 0)) := by
    rw [Below.heap_alloc _ _ _ (by simp)]; exact heap_alloc_new _ _
  have hb1 : ((w.alloc (.cells #[.int .i64 s, .slice a n c, .int .i64 t] 28)).alloc (.cells #[.int .i64 0, .slice none 0 0, .int .i64 0] 28)).heap[w.heap.size + 1]? = some (.cells #[.int .i64 0, .slice none 0 0, .int .i64 0] 28 (0, 0)) := by
    have := heap_alloc_new (w.alloc (.cells #[.int .i64 s, .slice a n c, .int .i64 t] 28)) (.cells #[.int .i64 0, .slice none 0 0, .int .i64 0] 28)
    simpa using this
  have hsz : ((w.alloc (.cells #[.int .i64 s, .slice a n c, .int .i64 t] 28)).alloc (.cells #[.int .i64 0, .slice none 0 0, .int .i64 0] 28)).heap.size = w.heap.size + 2 := by simp
  have hz2 := hz.below hb
  have hrL : Row L := by rw [← hL]; exact hr.all s t
  have hyt : Tk y := by
    have h1 := last_tk hrL
    have h2 := tk_cut x
    rcases Int.le_total (cut x) (lastI L) with h | h
    · rw [← hy, Int.max_eq_right h]; exact h1
    · rw [← hy, Int.max_eq_left h]; exact h2
  have hry : ∀ z ∈ L ++ [y], Tk z := fun z hz => by
    rcases List.mem_append.1 hz with h | h
    · exact hrL.tk z h
    · rw [List.mem_singleton.1 h]; exact hyt
  have hLn : L.length ≤ n := by rw [← hL, ← hz.hlen]; exact all_length _ _ _
  clear hz hyt
  go_enter Try.func13, Try.ntmps13
  go_wp2_with fail
  refine (rcut_any _ _).mono ?_
  rintro e w' ⟨rfl, hw'⟩
  obtain rfl := hw'
  generalize (w.alloc (.cells #[.int .i64 s, .slice a n c, .int .i64 t] 28)).alloc (.cells #[.int .i64 0, .slice none 0 0, .int .i64 0] 28) = w2 at *
  generalize hg : w.heap.size = g at *
  have HG : Hid (w.heap.size = g) := hg
  clear hg
  obtain ⟨d0, d1, d2, -⟩ := blk3 hb0
  have hal := rall_any _ s t a n c zs hz2 hs hr.tk (by omega)
  rw [hL, hsz] at hal
  have HF : Hid (w2.heap[g]? = some (.cells #[.int .i64 s, .slice a n c, .int .i64 t] 28 (0, 0)) ∧ w2.heap[g + 1]? = some (.cells #[.int .i64 0, .slice none 0 0, .int .i64 0] 28 (0, 0))) := ⟨hb0, hb1⟩
  have HB : Hid (Below g w w2 ∧ w2.heap.size = g + 2) := ⟨hb, hsz⟩
  clear hb0 hb1 hb hz2 hsz hr
  go_wp2_with fail
  refine hal.mono ?_
  rintro e w4 ⟨v, rfl, hrow, hb4⟩
  have k0 : w4.heap[g]? = some (.cells #[.int .i64 s, .slice a n c, .int .i64 t] 28 (0, 0)) := (hb4.block g (by have := HB.out.2; omega)).trans HF.out.1
  have k1 : w4.heap[g + 1]? = some (.cells #[.int .i64 0, .slice none 0 0, .int .i64 0] 28 (0, 0)) := (hb4.block (g + 1) (by have := HB.out.2; omega)).trans HF.out.2
  have HB4 : Hid (Below g w w4) := HB.out.1.trans (hb4.mono (by have := HB.out.2; omega))
  have hgs : g + 2 ≤ w4.heap.size := by have := hb4.size; have := HB.out.2; omega
  obtain ⟨a4, c4, rfl, hi4, -⟩ := owns_ints hrow
  have h41 := hi4.hle
  have h42 := hi4.hcap
  unfold maxLen at h42
  have HKK : Hid (w4.heap[g]? = some (.cells #[.int .i64 s, .slice a n c, .int .i64 t] 28 (0, 0)) ∧ w4.heap[g + 1]? = some (.cells #[.int .i64 0, .slice none 0 0, .int .i64 0] 28 (0, 0))) := ⟨k0, k1⟩
  have HROW : Hid (w4.ownsRow (g + 2) 3 1 (.slice a4 L.length c4) L.length (ic L)) := owns_base hrow (by omega)
  have HRY : Hid (∀ z ∈ L ++ [y], Tk z) := hry
  have hpre : ((0 < L.length) ∧ ∃ b off, a4 = some ⟨b, off, none⟩ ∧ w4.cell? ⟨b, off + (L.length - 1), none⟩ = some (.int .i64 (lastI L)) ∧ (if cut x < lastI L then lastI L else cut x) = y) ∨ (L.length = 0 ∧ cut x = y) := by
    by_cases h0 : 0 < L.length
    · obtain ⟨b, off, e, -, hc⟩ := hi4.at_ (L.length - 1) (by omega)
      rw [last_nth] at hc
      exact .inl ⟨h0, b, off, e, hc, by rw [← hy]; split <;> omega⟩
    · have hLe : L = [] := List.length_eq_zero_iff.1 (by omega)
      have h2 := cut_lo x
      exact .inr ⟨by omega, by rw [← hy, hLe]; show cut x = max (cut x) 0; omega⟩
  have HCN : Hid (∀ (w5 : World) (a5 : Option Addr) (c5 : Nat), IntsAt w5 a5 (L.length + 1) c5 (L ++ [y]) → Calls Try.prog 15 #[.agg #[.int .i64 s, .slice a5 (L.length + 1) c5, .int .i64 t], .int .i64 y] w5 fun e w' => e = .returned (.tuple #[.agg #[.int .i64 s, .slice a5 (L.length + 1) c5, .int .i64 T], .int .i64 N]) ∧ Below w5.heap.size w5 w') := fun w5 a5 c5 h => by
    have := rcount_any w5 s t a5 (L.length + 1) c5 (L ++ [y]) y h hs hry (by omega)
    rw [hT, hN] at this
    exact this
  clear hal hrow hb4 HF HB hi4 k0 k1 d0 d1 d2 hry hrL hy hT hN hL
  have HMID : Hid (∀ (w5 : World), (w4.alloc (.cells #[.int .i64 y] 3)).grownBy w5 (Value.slice a4 L.length c4).ownBlock → w5.heap[g]? = some (.cells #[.int .i64 s, .slice a n c, .int .i64 t] 28 (0, 0)) ∧ w5.heap[g + 1]? = some (.cells #[.int .i64 0, .slice none 0 0, .int .i64 0] 28 (0, 0)) ∧ Keep (fun k => k < g + 2) w4 w5) := fun w5 hgr => by
    have k : Keep (fun k => k < g + 2) w4 w5 := ((Keep.refl _ w4).alloc _).trans (keep_grown hgr (fun k e => by have := (HROW.out.lt k e).1; omega))
    exact ⟨(k.block g (by omega) (by omega)).trans HKK.out.1, (k.block (g + 1) (by omega) (by omega)).trans HKK.out.2, k⟩
  generalize hm : L.length = m at *
  have HM : Hid (L.length = m) := hm
  clear hm
  have HEND : Hid (∀ (gg cp : Nat) (w5 : World), w5.ownsRow (g + 2) 3 1 (.slice (some ⟨gg, 0, none⟩) (m + 1) cp) (m + 1) (ic L ++ [.int .i64 y]) → (w5.heap[g]? = some (.cells #[.int .i64 s, .slice a n c, .int .i64 t] 28 (0, 0)) ∧ w5.heap[g + 1]? = some (.cells #[.int .i64 0, .slice none 0 0, .int .i64 0] 28 (0, 0)) ∧ Keep (fun k => k < g + 2) w4 w5) →
      IntsAt (w5.setCell ⟨g, 1, none⟩ (.slice (some ⟨gg, 0, none⟩) (m + 1) cp)) (some ⟨gg, 0, none⟩) (m + 1) cp (L ++ [y]) ∧ g + 2 ≤ gg ∧ gg < w5.heap.size) := fun gg cp w5 ho hk => by
    have hlt := ho.lt gg rfl
    have ho2 : (w5.setCell ⟨g, 1, none⟩ (.slice (some ⟨gg, 0, none⟩) (m + 1) cp)).ownsRow (g + 2) 3 1 (.slice (some ⟨gg, 0, none⟩) (m + 1) cp) (m + 1) (ic (L ++ [y])) := by
      have e1 : ic (L ++ [y]) = ic L ++ [.int .i64 y] := by simp [ic]
      rw [e1]
      exact owns_keep ho ((Keep.refl (fun k => k ≠ g) w5).setCell (fun h => h rfl) _) (fun k e => by have := (ho.lt k e).1; omega)
    obtain ⟨a9, c9, e9, hi9, -⟩ := owns_ints ho2
    cases e9
    exact ⟨hi9, hlt.1, hlt.2⟩
  rcases hpre with ⟨h0, b, off, rfl, hcell, hif⟩ | ⟨h0, hif⟩
  · go_upto_region 5 with fail
    have hrow := HROW.out
    clear hcell hif
    go_wp2_with (at_builtin; refine wpList_int rfl _ _ rfl (g + 2) (.slice (some ⟨b, off, none⟩) m c4) m L y rfl w4 hrow rfl ((Keep.refl _ w4).alloc _) (heap_alloc_new _ _) (by omega) hgs ?_; intro gg cp w5 hown5 hgrow hat; have hmid := HMID.out w5 hgrow; have HE5 : Hid (_ ∧ _) := And.intro (HEND.out gg cp w5 hown5 hmid) hmid; obtain ⟨d0, d1, d2, hgl⟩ := blk3 hmid.1; have f1 := fz3 hmid.1 1; clear hmid hown5 hgrow hat)
    refine (HCN.out _ _ _ HE5.out.1.1).mono ?_
    rintro e w6 ⟨rfl, hb6⟩
    have k6 : w6.heap[g + 1]? = some (.cells #[.int .i64 0, .slice none 0 0, .int .i64 0] 28 (0, 0)) := (hb6.block (g + 1) (by have := HE5.out.2.2.2.size; simp; omega)).trans ((heap_setCell_other w5 _ (g + 1) _ (by simp)).trans HE5.out.2.2.1)
    obtain ⟨y0, y1, y2, hgl6⟩ := blk3 k6
    have z0 := fz3 k6 0
    have z1 := fz3 k6 1
    have z2 := fz3 k6 2
    have k9 := (heap_set3 (u := .int .i64 T) (heap_set3 (u := .slice (some ⟨gg, 0, none⟩) (m + 1) cp) (heap_set3 (u := .int .i64 s) k6).1).2.1).2.2
    obtain ⟨o0, o1, o2, -⟩ := blk3 k9
    have hks : Keep (fun k => k ≠ g + 1) w6 (((w6.setCell ⟨g + 1, 0, none⟩ (.int .i64 s)).setCell ⟨g + 1, 1, none⟩ (.slice (some ⟨gg, 0, none⟩) (m + 1) cp)).setCell ⟨g + 1, 2, none⟩ (.int .i64 T)) := (((Keep.refl _ w6).setCell (fun h => h rfl) _).setCell (fun h => h rfl) _).setCell (fun h => h rfl) _
    have hk6 : Keep (fun k => k < g) w4 w6 := ((HE5.out.2.2.2.mono fun k _ hk => by omega).setCell (Nat.lt_irrefl g) _).trans (keep_below hb6)
    have HFIN : Hid (IntsAt (((w6.setCell ⟨g + 1, 0, none⟩ (.int .i64 s)).setCell ⟨g + 1, 1, none⟩ (.slice (some ⟨gg, 0, none⟩) (m + 1) cp)).setCell ⟨g + 1, 2, none⟩ (.int .i64 T)) (some ⟨gg, 0, none⟩) (m + 1) cp (L ++ [y]) ∧ (g ≤ gg ∧ gg < (((w6.setCell ⟨g + 1, 0, none⟩ (.int .i64 s)).setCell ⟨g + 1, 1, none⟩ (.slice (some ⟨gg, 0, none⟩) (m + 1) cp)).setCell ⟨g + 1, 2, none⟩ (.int .i64 T)).heap.size) ∧ Below g w (((w6.setCell ⟨g + 1, 0, none⟩ (.int .i64 s)).setCell ⟨g + 1, 1, none⟩ (.slice (some ⟨gg, 0, none⟩) (m + 1) cp)).setCell ⟨g + 1, 2, none⟩ (.int .i64 T))) := by
      have hgg := HE5.out.1.2
      have hs6 := hb6.size
      have hs7 := hks.size
      rw [World.size_setCell] at hs6
      refine And.intro ((HE5.out.1.1.below hb6).keep hks (fun p hp _ => ?_)) (And.intro ⟨by omega, by omega⟩ (HB4.out.trans ((hk6.trans (hks.mono fun k _ hk => by omega)).below (by omega) (fun _ h => h))))
      cases hp
      show gg ≠ g + 1
      omega
    clear k6 k9 hb6 HE5 hks hk6 d0 d1 d2 f1
    go_wp2
    refine bodyPost_ret (v := .tuple #[.agg #[.int .i64 s, .slice (some ⟨gg, 0, none⟩) (m + 1) cp, .int .i64 T], .int .i64 N]) (by simp [results, Try.results13, go_sem, o0, o1, o2]) rfl ?_
    obtain rfl := HG.out
    rw [HM.out]
    exact ⟨some ⟨gg, 0, none⟩, cp, rfl, HFIN.out.1, fun p hp => by cases hp; exact HFIN.out.2.1, HFIN.out.2.2⟩
  · obtain rfl := h0
    go_upto_region 5 with fail
    have hrow := HROW.out
    clear hif
    go_wp2_with (at_builtin; refine wpList_int rfl _ _ rfl (g + 2) (.slice a4 0 c4) 0 L y rfl w4 hrow rfl ((Keep.refl _ w4).alloc _) (heap_alloc_new _ _) (by omega) hgs ?_; intro gg cp w5 hown5 hgrow hat; have hmid := HMID.out w5 hgrow; have HE5 : Hid (_ ∧ _) := And.intro (HEND.out gg cp w5 hown5 hmid) hmid; obtain ⟨d0, d1, d2, hgl⟩ := blk3 hmid.1; have f1 := fz3 hmid.1 1; clear hmid hown5 hgrow hat)
    refine (HCN.out _ _ _ HE5.out.1.1).mono ?_
    rintro e w6 ⟨rfl, hb6⟩
    have k6 : w6.heap[g + 1]? = some (.cells #[.int .i64 0, .slice none 0 0, .int .i64 0] 28 (0, 0)) := (hb6.block (g + 1) (by have := HE5.out.2.2.2.size; simp; omega)).trans ((heap_setCell_other w5 _ (g + 1) _ (by simp)).trans HE5.out.2.2.1)
    obtain ⟨y0, y1, y2, hgl6⟩ := blk3 k6
    have z0 := fz3 k6 0
    have z1 := fz3 k6 1
    have z2 := fz3 k6 2
    have k9 := (heap_set3 (u := .int .i64 T) (heap_set3 (u := .slice (some ⟨gg, 0, none⟩) (0 + 1) cp) (heap_set3 (u := .int .i64 s) k6).1).2.1).2.2
    obtain ⟨o0, o1, o2, -⟩ := blk3 k9
    have hks : Keep (fun k => k ≠ g + 1) w6 (((w6.setCell ⟨g + 1, 0, none⟩ (.int .i64 s)).setCell ⟨g + 1, 1, none⟩ (.slice (some ⟨gg, 0, none⟩) (0 + 1) cp)).setCell ⟨g + 1, 2, none⟩ (.int .i64 T)) := (((Keep.refl _ w6).setCell (fun h => h rfl) _).setCell (fun h => h rfl) _).setCell (fun h => h rfl) _
    have hk6 : Keep (fun k => k < g) w4 w6 := ((HE5.out.2.2.2.mono fun k _ hk => by omega).setCell (Nat.lt_irrefl g) _).trans (keep_below hb6)
    have HFIN : Hid (IntsAt (((w6.setCell ⟨g + 1, 0, none⟩ (.int .i64 s)).setCell ⟨g + 1, 1, none⟩ (.slice (some ⟨gg, 0, none⟩) (0 + 1) cp)).setCell ⟨g + 1, 2, none⟩ (.int .i64 T)) (some ⟨gg, 0, none⟩) (0 + 1) cp (L ++ [y]) ∧ (g ≤ gg ∧ gg < (((w6.setCell ⟨g + 1, 0, none⟩ (.int .i64 s)).setCell ⟨g + 1, 1, none⟩ (.slice (some ⟨gg, 0, none⟩) (0 + 1) cp)).setCell ⟨g + 1, 2, none⟩ (.int .i64 T)).heap.size) ∧ Below g w (((w6.setCell ⟨g + 1, 0, none⟩ (.int .i64 s)).setCell ⟨g + 1, 1, none⟩ (.slice (some ⟨gg, 0, none⟩) (0 + 1) cp)).setCell ⟨g + 1, 2, none⟩ (.int .i64 T))) := by
      have hgg := HE5.out.1.2
      have hs6 := hb6.size
      have hs7 := hks.size
      rw [World.size_setCell] at hs6
      refine And.intro ((HE5.out.1.1.below hb6).keep hks (fun p hp _ => ?_)) (And.intro ⟨by omega, by omega⟩ (HB4.out.trans ((hk6.trans (hks.mono fun k _ hk => by omega)).below (by omega) (fun _ h => h))))
      cases hp
      show gg ≠ g + 1
      omega
    clear k6 k9 hb6 HE5 hks hk6 d0 d1 d2 f1
    go_wp2
    refine bodyPost_ret (v := .tuple #[.agg #[.int .i64 s, .slice (some ⟨gg, 0, none⟩) (0 + 1) cp, .int .i64 T], .int .i64 N]) (by simp [results, Try.results13, go_sem, o0, o1, o2]) rfl ?_
    obtain rfl := HG.out
    rw [HM.out]
    exact ⟨some ⟨gg, 0, none⟩, cp, rfl, HFIN.out.1, fun p hp => by cases hp; exact HFIN.out.2.1, HFIN.out.2.2⟩

end Go.Proofs.Ytjnacpcdkkfdgaa
