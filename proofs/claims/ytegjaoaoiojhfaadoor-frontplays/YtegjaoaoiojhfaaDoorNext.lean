/-
  What Take as a whole, Next and New do, of nil too. Conditions: the front lies where it is said to lie; what always holds of one holds of it.
-/
import Derived.Test.YtegjaoaoiojhfaaDoorTake
import Derived.Test.YtegjaoaoiojhfaaDoorDel
import Derived.Deep.RegionWith
namespace Go.Proofs.YtegjaoaoiojhfaaDoor
open Go.ChangeShapes Go.WideShapes Go.ChangeAt Go.RowKit

section
variable {w : World} {A : Nat → Prop} {g : Nat} {s : Ft}

theorem take_w (h : FIn w A g s) (hI : Inv s) (k : Int) (d : ByteArray) :
    Calls Tryd.prog 14 #[.pointer (some ⟨g, 0, none⟩), .agg #[.int .i64 k, .string d]] w fun e w' => e = .returned (.int .i64 (tkw s k)) ∧ FIn w' A g (tk s ⟨k, d⟩) ∧ Keep A w w' := by
  rcases tk_cases hI k with ⟨h1, h2, h3, h4, h5⟩ | ⟨h1, h2, h3⟩
  · have hv : lwh s.st 0 = tkw s k := by unfold tkw; rw [if_pos ⟨h1, h2⟩]
    have := take_full h k d (onx s.st k) (lnx s.st 0) (tkw s k) rfl h1 h2 rfl hv (by omega)
    have e : tk s ⟨k, d⟩ = enT (lnx s.st 0) s := by
      have e1 := (others_all s.st h5).1
      unfold tk enT tkh
      dsimp only
      rw [h3, e1]
      rfl
    rw [e]
    exact this
  · by_cases hh : onw s.st k = 3
    · have hl : s.hl.length < 4 := by
        have := hI.le
        have : s.hl.length ≠ 4 := fun e => h1 ⟨hh, e⟩
        omega
      have := take_hold h k d (onx s.st k) rfl hh _ rfl hl
      have e : tk s ⟨k, d⟩ = enT (onx s.st k) ⟨s.st, s.hl ++ [⟨k, d⟩]⟩ := by
        unfold tk enT tkh
        dsimp only
        rw [h2, h3, hh]
        simp
      rw [e, h3, hh]
      exact this
    · have := take_other h k d (onx s.st k) (onw s.st k) rfl rfl hh
      have e : tk s ⟨k, d⟩ = enT (onx s.st k) s := by
        unfold tk enT tkh
        dsimp only
        rw [h2, h3, if_neg hh]
      rw [e, h3]
      exact this

/-- What the row wants so that its first frame is taken out, and what comes of it. -/
theorem FIn.pop (h : FIn w A g s) (hn : 0 < s.hl.length) :
    ∃ (b c : Nat) (l : List Fr), w.cell? ⟨g, 1, none⟩ = some (.slice (some ⟨b, 0, none⟩) s.hl.length c) ∧ w.heap[b]? = some (.cells (flat l).toArray 31 (0, 0)) ∧ l.length = c ∧ l.take s.hl.length = s.hl ∧ s.hl.length ≤ c ∧ c ≤ maxLen ∧
      ∀ (w3 : World) (l' : List Fr), Keep (fun k => k ≠ b) w w3 → w3.heap[b]? = some (.cells (flat l').toArray 31 (0, 0)) → l'.length = c → l'.take (s.hl.length - 1) = s.hl.eraseIdx 0 →
        w3.cell? ⟨g, 1, none⟩ = some (.slice (some ⟨b, 0, none⟩) s.hl.length c) ∧ w3.frozen? ⟨g, 1, none⟩ = false ∧ FIn (w3.setCell ⟨g, 1, none⟩ (.slice (some ⟨b, 0, none⟩) (s.hl.length - 1) c)) A g (nxs s) ∧ Keep A w (w3.setCell ⟨g, 1, none⟩ (.slice (some ⟨b, 0, none⟩) (s.hl.length - 1) c)) := by
  have hlt := h.lt
  obtain ⟨a, c, l, h1, ⟨r1, r2, r3⟩, h3, h4⟩ := h.ex
  rcases r3 with ⟨_, r3⟩ | ⟨b, rfl, hb, hg⟩
  · omega
  refine ⟨b, c, l, (blk2 h1).2.1, hg, r1, h4, h3, r2, ?_⟩
  intro w3 l' hk hg2 hl2 ht2
  have hg3 : w3.heap[g]? = some (.cells #[.int .i64 s.st, .slice (some ⟨b, 0, none⟩) s.hl.length c] 56 (0, 0)) := (hk.block g hlt (fun e => hb (.inr e.symm))).trans h1
  have hk2 : Keep (fun k => k ≠ g) w3 (w3.setCell ⟨g, 1, none⟩ (.slice (some ⟨b, 0, none⟩) (s.hl.length - 1) c)) := (Keep.refl _ w3).setCell (fun hn => hn rfl) _
  have hka : Keep A w (w3.setCell ⟨g, 1, none⟩ (.slice (some ⟨b, 0, none⟩) (s.hl.length - 1) c)) := (hk.mono (fun k _ hA e => hb (.inl (e ▸ hA)))).trans (hk2.mono (fun k _ hA e => h.gout (e ▸ hA)))
  have hl1 : (nxs s).hl.length = s.hl.length - 1 := by simp [nxs]
  have he : s.hl.eraseIdx 0 = (nxs s).hl := by cases hh : s.hl <;> simp [nxs, hh]
  refine ⟨(blk2 hg3).2.1, fz2 hg3 1, ⟨⟨some ⟨b, 0, none⟩, c, l', ?_, ⟨hl2, r2, .inr ⟨b, rfl, hb, (hk2.block b (lt_of_heap hg2) (fun e => hb (.inr e))).trans hg2⟩⟩, by omega, ?_⟩, h.gout, fun k hk3 => Nat.lt_of_lt_of_le (h.guard k hk3) hka.size, h.tabs.keep hka h.a1 h.a2, h.a1, h.a2⟩, hka⟩
  · rw [hl1]
    exact (heap_set2 hg3).2
  · rw [hl1, ← he]
    exact ht2

theorem put2 {w : World} {b : Nat} {x y : Value} {t : TypeId} (h : w.heap[b]? = some (.cells #[x, y] t (0, 0))) (u v : Value) :
    ((w.setCell ⟨b, 0, none⟩ u).setCell ⟨b, 1, none⟩ v).heap[b]? = some (.cells #[u, v] t (0, 0)) ∧ Keep (fun k => k ≠ b) w ((w.setCell ⟨b, 0, none⟩ u).setCell ⟨b, 1, none⟩ v) :=
  ⟨(heap_set2 (heap_set2 h).1).2, ((Keep.refl _ w).setCell (fun hn => hn rfl) _).setCell (fun hn => hn rfl) _⟩
/-- The zero frame, put into a block of a call's own. -/
theorem zero_put (w : World) : Hid ((((w.alloc (.cells #[.int .i64 0, .string ⟨#[]⟩] 31)).setCell ⟨w.heap.size, 0, none⟩ (.int .i64 0)).setCell ⟨w.heap.size, 1, none⟩ (.string ⟨#[]⟩)).heap[w.heap.size]? = some (.cells #[.int .i64 0, .string ⟨#[]⟩] 31 (0, 0)) ∧ Below w.heap.size w (((w.alloc (.cells #[.int .i64 0, .string ⟨#[]⟩] 31)).setCell ⟨w.heap.size, 0, none⟩ (.int .i64 0)).setCell ⟨w.heap.size, 1, none⟩ (.string ⟨#[]⟩))) := by
  have hb : Below w.heap.size w (w.alloc (.cells #[.int .i64 0, .string ⟨#[]⟩] 31)) := (Below.refl _ w).alloc (Nat.le_refl _) _
  have h := put2 (heap_alloc_new w (.cells #[.int .i64 0, .string ⟨#[]⟩] 31)) (.int .i64 0) (.string ⟨#[]⟩)
  exact ⟨h.1, hb.trans (h.2.below hb.size (fun k hk => by omega))⟩

/-- There is none: it holds nothing, or waits, or ends. -/
theorem next_no (h : FIn w A g s) (hn : nxB s = false) :
    Calls Tryd.prog 16 #[.pointer (some ⟨g, 0, none⟩)] w fun e w' => e = .returned (.tuple #[.agg #[.int .i64 0, .string ⟨#[]⟩], .int .i64 0, .bool false]) ∧ Below w.heap.size w w' := by
  have hb1 : Below w.heap.size w (w.alloc (.cells #[.int .i64 0, .string ⟨#[]⟩] 31)) := (Below.refl _ w).alloc (Nat.le_refl _) _
  have hl := held_w (h.below hb1) _ rfl
  have hs := state_w (h.below hb1)
  obtain ⟨p0, p1, hp⟩ := blk2 (heap_alloc_new w (.cells #[.int .i64 0, .string ⟨#[]⟩] 31))
  have e0 := fz2 (heap_alloc_new w (.cells #[.int .i64 0, .string ⟨#[]⟩] 31)) 0
  have e1 := fz2 (heap_alloc_new w (.cells #[.int .i64 0, .string ⟨#[]⟩] 31)) 1
  have HZ := zero_put w
  have h3 : s.hl.length = 0 ∨ ((s.hl.length : Int) == 0) = false ∧ (s.st = 2 ∨ s.st = 4) := by
    by_cases h0 : s.hl.length = 0
    · exact .inl h0
    · refine .inr ⟨beq_eq_false_iff_ne.2 (by omega), ?_⟩
      unfold nxB at hn
      simp [h0] at hn
      by_cases h2 : s.st = 2
      · exact .inl h2
      · exact .inr (hn h2)
  clear h hb1 hn
  generalize s.hl.length = n at *
  generalize s.st = S at *
  rcases h3 with rfl | ⟨h3, rfl | rfl⟩
  all_goals
    go_enter Tryd.func16, Tryd.ntmps16
    go_upto_region 1 with fail
    generalize w.alloc (.cells #[.int .i64 0, .string ⟨#[]⟩] 31) = w1 at *
    go_wp2_with (first
      | (go_at_call 20; refine hl.mono ?_; rintro e w' ⟨rfl, hw'⟩; subst w')
      | (go_at_call 19; refine hs.mono ?_; rintro e w' ⟨rfl, hw'⟩; subst w'))
    obtain ⟨z0, z1, -⟩ := blk2 HZ.out.1
    refine bodyPost_ret (v := .tuple #[.agg #[.int .i64 0, .string ⟨#[]⟩], .int .i64 0, .bool false]) (by simp [results, Tryd.results16, go_sem, z0, z1]) rfl ?_
    exact ⟨rfl, HZ.out.2⟩
theorem next_nil (w : World) :
    Calls Tryd.prog 16 #[.pointer none] w fun e w' => e = .returned (.tuple #[.agg #[.int .i64 0, .string ⟨#[]⟩], .int .i64 0, .bool false]) ∧ Below w.heap.size w w' := by
  obtain ⟨p0, p1, hp⟩ := blk2 (heap_alloc_new w (.cells #[.int .i64 0, .string ⟨#[]⟩] 31))
  have e0 := fz2 (heap_alloc_new w (.cells #[.int .i64 0, .string ⟨#[]⟩] 31)) 0
  have e1 := fz2 (heap_alloc_new w (.cells #[.int .i64 0, .string ⟨#[]⟩] 31)) 1
  have HZ := zero_put w
  go_enter Tryd.func16, Tryd.ntmps16
  go_upto_region 1 with fail
  generalize w.alloc (.cells #[.int .i64 0, .string ⟨#[]⟩] 31) = w1 at *
  go_wp2_with (first
    | (go_at_call 20; refine (held_nil _).mono ?_; rintro e w' ⟨rfl, hw'⟩; subst w'))
  obtain ⟨z0, z1, -⟩ := blk2 HZ.out.1
  refine bodyPost_ret (v := .tuple #[.agg #[.int .i64 0, .string ⟨#[]⟩], .int .i64 0, .bool false]) (by simp [results, Tryd.results16, go_sem, z0, z1]) rfl ?_
  exact ⟨rfl, HZ.out.2⟩

set_option maxHeartbeats 2000000 in
set_option maxRecDepth 100000 in
theorem next_yes (h : FIn w A g s) (hI : Inv s) (hn : 0 < s.hl.length) (h2 : s.st ≠ 2) (h4 : s.st ≠ 4) (k : Int) (d : ByteArray) (hkd : nthD s.hl 0 = ⟨k, d⟩) :
    Calls Tryd.prog 16 #[.pointer (some ⟨g, 0, none⟩)] w fun e w' => e = .returned (.tuple #[.agg #[.int .i64 k, .string d], .int .i64 (tkw (nxs s) k), .bool true]) ∧ FIn w' A g (tk (nxs s) ⟨k, d⟩) ∧ Keep A w w' := by
  have hb1 : Below w.heap.size w (w.alloc (.cells #[.int .i64 0, .string ⟨#[]⟩] 31)) := (Below.refl _ w).alloc (Nat.le_refl _) _
  have h1 := h.belowN hb1
  have hl := held_w h1 _ rfl
  have hs := state_w h1
  have HH : Hid (FIn w A g s) := h
  have HP1 := Hid.mk' (heap_alloc_new w (.cells #[.int .i64 0, .string ⟨#[]⟩] 31))
  have HN := Hid.mk' hn
  have b0 : ((s.hl.length : Int) == 0) = false := beq_eq_false_iff_ne.2 (by omega)
  have b2 : (s.st == 2) = false := by simpa using h2
  have b4 : (s.st == 4) = false := by simpa using h4
  have HI := Hid.mk' hI
  have HF1 := Hid.mk' h1
  have HB := Hid.mk' hb1
  obtain ⟨a0, c0, x0, x1, -, hle0, hcm0, -, hrow0⟩ := h1.cells
  obtain ⟨bb, rfl, hbl, r0, r1⟩ := hrow0 0 hn
  rw [hkd] at r0 r1
  simp only [Nat.zero_mul, Nat.zero_add] at r0 r1
  have hq2 : w.heap.size < (w.alloc (.cells #[.int .i64 0, .string ⟨#[]⟩] 31)).heap.size := by simp
  have HQ2 := Hid.mk' hq2
  unfold maxLen at hcm0
  clear h h1 hb1 h2 h4 hI hrow0 hkd hq2
  go_enter Tryd.func16, Tryd.ntmps16
  go_upto_region 1 with fail
  generalize w.alloc (.cells #[.int .i64 0, .string ⟨#[]⟩] 31) = w1 at *
  generalize hst : s.st = S at *
  have HST : Hid (s.st = S) := hst
  clear hst
  generalize hnn : s.hl.length = n at *
  have HNN : Hid (s.hl.length = n) := hnn
  clear hnn
  generalize hqq : w.heap.size = q2 at *
  have HQQ : Hid (w.heap.size = q2) := hqq
  clear hqq
  have hn1 : (0 : Int) < (n : Int) := by omega
  go_upto_region 4 with (first
    | (go_at_call 20; refine hl.mono ?_; rintro e w' ⟨rfl, hw'⟩; subst w')
    | (go_at_call 19; refine hs.mono ?_; rintro e w' ⟨rfl, hw'⟩; subst w'))
  have hb5 : Below w1.heap.size w1 (w1.alloc (.cells #[.int .i64 k, .string d] 31)) := (Below.refl _ w1).alloc (Nat.le_refl _) _
  have h5 := HF1.out.belowN hb5
  have HP5 := Hid.mk' (heap_alloc_new w1 (.cells #[.int .i64 k, .string d] 31))
  have HQ5 : Hid (w1.heap.size < (w1.alloc (.cells #[.int .i64 k, .string d] 31)).heap.size) := by show _ < _; simp
  have HB5 := Hid.mk' hb5
  clear hb5 hl hs x0 x1 r0 r1 hbl hle0 hcm0
  generalize w1.alloc (.cells #[.int .i64 k, .string d] 31) = w5 at *
  generalize hqq : w1.heap.size = q5 at *
  have HQQ5 : Hid (w1.heap.size = q5) := hqq
  clear hqq
  obtain ⟨b, c, l, hc, hg, hlc, hlt, hnc, hcm, HP⟩ := h5.pop (by rw [HNN.out]; exact HN.out)
  rw [HNN.out] at hc hlt hnc HP
  have hdel : Calls Tryd.prog 29 #[.slice (some ⟨b, 0, none⟩) n c, .int .i64 0, .int .i64 1] w5 fun e w' => e = .returned (.slice (some ⟨b, 0, none⟩) (n - 1) c) ∧ ∃ l', w'.heap[b]? = some (.cells (flat l').toArray 31 (0, 0)) ∧ l'.length = c ∧ l'.take (n - 1) = s.hl.eraseIdx 0 ∧ Keep (fun k => k ≠ b) w5 w' :=
    delete_any w5 b n c 0 1 l s.hl hg hlc hlt hnc HN.out hcm rfl
  have HPP := Hid.mk' HP
  clear HP h5 hg hlc hlt hnc hcm
  go_upto_region 5 with (first
    | (go_at_call 29; refine hdel.mono ?_; rintro e w6 ⟨rfl, l', y1, y2, y3, y4⟩; obtain ⟨d3, f3, h6, k6⟩ := HPP.out w6 l' y4 y1 y2 y3))
  generalize w6.setCell ⟨g, 1, none⟩ (.slice (some ⟨b, 0, none⟩) (n - 1) c) = w7 at *
  have ht := take_w h6.drew (inv_nxs HI.out) k d
  have g5 : w7.drew.heap[q5]? = some (.cells #[.int .i64 k, .string d] 31 (0, 0)) := (k6.drew.block q5 HQ5.out (.inr ⟨Nat.le_refl _, HQ5.out⟩)).trans HP5.out
  have g2 : w7.drew.heap[q2]? = some (.cells #[.int .i64 0, .string ⟨#[]⟩] 31 (0, 0)) := (k6.drew.block q2 (Nat.lt_trans HQ2.out HQ5.out) (.inl (.inr ⟨Nat.le_refl _, HQ2.out⟩))).trans ((HB5.out.block q2 HQ2.out).trans HP1.out)
  obtain ⟨x0, x1, hq5⟩ := blk2 g5
  have HR : Hid (∀ w8 : World, FIn w8 (fun k => (A k ∨ q2 ≤ k ∧ k < q5) ∨ q5 ≤ k ∧ k < w5.heap.size) g (tk (nxs s) ⟨k, d⟩) → Keep (fun k => (A k ∨ q2 ≤ k ∧ k < q5) ∨ q5 ≤ k ∧ k < w5.heap.size) w7.drew w8 →
      w8.heap[q5]? = some (.cells #[.int .i64 k, .string d] 31 (0, 0)) ∧ w8.heap[q2]? = some (.cells #[.int .i64 0, .string ⟨#[]⟩] 31 (0, 0)) ∧
      ((w8.setCell ⟨q2, 0, none⟩ (.int .i64 k)).setCell ⟨q2, 1, none⟩ (.string d)).heap[q2]? = some (.cells #[.int .i64 k, .string d] 31 (0, 0)) ∧
      FIn ((w8.setCell ⟨q2, 0, none⟩ (.int .i64 k)).setCell ⟨q2, 1, none⟩ (.string d)) A g (tk (nxs s) ⟨k, d⟩) ∧ Keep A w ((w8.setCell ⟨q2, 0, none⟩ (.int .i64 k)).setCell ⟨q2, 1, none⟩ (.string d))) := by
    intro w8 h8 k8
    have i5 := (k8.block q5 hq5 (.inr ⟨Nat.le_refl _, HQ5.out⟩)).trans g5
    have i2 := (k8.block q2 (lt_of_heap g2) (.inl (.inr ⟨Nat.le_refl _, HQ2.out⟩))).trans g2
    obtain ⟨p1, p2⟩ := put2 i2 (.int .i64 k) (.string d)
    have hpos := HH.out.tabs.pos
    have hle : w.heap.size ≤ w1.heap.size := HB.out.size
    have hlq := HQQ.out
    have ha : Keep A w w8 := ((keep_below (A := A) (by rw [HQQ.out]; exact HB.out)).trans ((keep_below (A := A) (by rw [HQQ5.out]; exact HB5.out)))).trans ((k6.drew.mono fun k _ h => .inl (.inl h)).trans (k8.mono fun k _ h => .inl (.inl h)))
    have hb := ha.trans (p2.mono fun k _ h e => by have := HH.out.guard k h; omega)
    refine ⟨i5, i2, p1, ?_, hb⟩
    exact h8.keep (p2.mono fun k _ h e => by
      rcases h with h | h | h
      · exact h (.inl (.inr ⟨by omega, by have := HQ2.out; omega⟩))
      · omega
      · omega) (fun k h => .inl (.inl (.inl h))) (fun k h => Nat.lt_of_lt_of_le (HH.out.guard k h) hb.size) HH.out.a1 HH.out.a2
  clear y1 y2 y3 y4 d3 f3 h6 k6 g5 g2 hc hdel HPP hq5
  go_region_with (go_at_call 14; refine ht.mono ?_; rintro e w8 ⟨rfl, h8, k8⟩; obtain ⟨i5, i2, p1, p2, p3⟩ := HR.out w8 h8 k8; obtain ⟨v0, v1, -⟩ := blk2 i5; obtain ⟨u0, u1, -⟩ := blk2 i2; have e0 := fz2 i2 0; have e1 := fz2 i2 1; have P1 := Hid.mk' p1; have P2 := Hid.mk' p2; have P3 := Hid.mk' p3; clear p1 p2 p3 i5 i2 h8 k8)
  all_goals (
    obtain ⟨z0, z1, -⟩ := blk2 P1.out
    go_wp2
    refine bodyPost_ret (v := .tuple #[.agg #[.int .i64 k, .string d], .int .i64 (tkw (nxs s) k), .bool true]) (by simp [results, Tryd.results16, go_sem, z0, z1]) rfl ?_
    exact ⟨rfl, P2.out, P3.out⟩)

theorem next_w (h : FIn w A g s) (hI : Inv s) :
    Calls Tryd.prog 16 #[.pointer (some ⟨g, 0, none⟩)] w fun e w' => e = .returned (.tuple #[.agg #[.int .i64 (nxF s).k, .string (nxF s).s], .int .i64 (nxW s), .bool (nxB s)]) ∧ FIn w' A g (nxT s) ∧ Keep A w w' := by
  cases hb : nxB s with
  | false =>
    have e1 : nxF s = f0 := by unfold nxF; rw [hb]; rfl
    have e2 : nxW s = 0 := by unfold nxW; rw [hb]; rfl
    have e3 : nxT s = s := by unfold nxT; rw [hb]; rfl
    rw [e1, e2, e3]
    exact (next_no h hb).mono fun e w' ⟨h1, h2⟩ => ⟨h1, h.below h2, keep_below h2⟩
  | true =>
    have hh : s.hl.length ≠ 0 ∧ s.st ≠ 2 ∧ s.st ≠ 4 := by
      unfold nxB at hb
      simp at hb
      exact ⟨by have := hb.1; simpa using this, hb.2.1, hb.2.2⟩
    have e1 : nxF s = nthD s.hl 0 := by unfold nxF; rw [hb]; rfl
    have e2 : nxW s = tkw (nxs s) (nthD s.hl 0).k := by unfold nxW; rw [hb, e1]; rfl
    have e3 : nxT s = tk (nxs s) (nthD s.hl 0) := by unfold nxT; rw [hb, e1]; rfl
    rw [e1, e2, e3]
    exact next_yes h hI (by omega) hh.2.1 hh.2.2 _ _ rfl

/-- By names. -/
theorem take_n (h : FIn w A g s) (hI : Inv s) (k : Int) (d : ByteArray) (t : Ft) (n : Int) (ht : tk s ⟨k, d⟩ = t) (hn : tkw s k = n) :
    Calls Tryd.prog 14 #[.pointer (some ⟨g, 0, none⟩), .agg #[.int .i64 k, .string d]] w fun e w' => e = .returned (.int .i64 n) ∧ FIn w' A g t ∧ Keep A w w' := by
  rw [← ht, ← hn]; exact take_w h hI k d
theorem next_n (h : FIn w A g s) (hI : Inv s) (t : Ft) (x : Fr) (n : Int) (b : Bool) (ht : nxT s = t) (hx : nxF s = x) (hn : nxW s = n) (hb : nxB s = b) :
    Calls Tryd.prog 16 #[.pointer (some ⟨g, 0, none⟩)] w fun e w' => e = .returned (.tuple #[.agg #[.int .i64 x.k, .string x.s], .int .i64 n, .bool b]) ∧ FIn w' A g t ∧ Keep A w w' := by
  rw [← ht, ← hx, ← hn, ← hb]; exact next_w h hI
theorem state_n (h : FIn w A g s) (n : Int) (hn : s.st = n) : Calls Tryd.prog 19 #[.pointer (some ⟨g, 0, none⟩)] w fun e w' => e = .returned (.int .i64 n) ∧ w' = w := by
  rw [← hn]; exact state_w h
theorem bound_n (h : FIn w A g s) (t : Ft) (b : Bool) (ht : goT 0 s = t) (hb : goB 0 s.st = b) :
    Calls Tryd.prog 25 #[.pointer (some ⟨g, 0, none⟩)] w fun e w' => e = .returned (.bool b) ∧ FIn w' A g t ∧ Keep A w w' := by
  rw [← ht, ← hb]; exact bound_w h
theorem done_n (h : FIn w A g s) (t : Ft) (b : Bool) (ht : goT 1 s = t) (hb : goB 1 s.st = b) :
    Calls Tryd.prog 26 #[.pointer (some ⟨g, 0, none⟩)] w fun e w' => e = .returned (.bool b) ∧ FIn w' A g t ∧ Keep A w w' := by
  rw [← ht, ← hb]; exact done_w h
end

/-- New: one that said nothing yet. -/
theorem new_any (w : World) (h : Tabs w) : Calls Tryd.prog 10 #[] w fun e w' => e = .returned (.pointer (some ⟨w.heap.size, 0, none⟩)) ∧ FIn w' (fun k => k < w.heap.size) w.heap.size n0 ∧ Below w.heap.size w w' ∧ w'.heap.size = w.heap.size + 1 := by
  have hp := h.pos
  have hb : Below w.heap.size w (w.alloc (.cells #[.int .i64 0, .slice none 0 0] 56)) := (Below.refl _ w).alloc (Nat.le_refl _) _
  have HD : Hid (FIn (w.alloc (.cells #[.int .i64 0, .slice none 0 0] 56)) (fun k => k < w.heap.size) w.heap.size n0) :=
    ⟨⟨none, 0, [], heap_alloc_new w _, RIn.nil _ _, Nat.le_refl _, rfl⟩, Nat.lt_irrefl _, fun k hk => by simp; omega, h.below hb, by omega, hp⟩
  clear h hp
  go_enter Tryd.func10, Tryd.ntmps10
  go_wp2
  go_ret
  exact ⟨rfl, HD.out, hb, by simp⟩

/-- Of nil: nothing. -/
theorem take_nil (k : Int) (d : ByteArray) (w : World) (h : Tabs w) :
    Calls Tryd.prog 14 #[.pointer none, .agg #[.int .i64 k, .string d]] w fun e w' => e = .returned (.int .i64 0) ∧ Below w.heap.size w w' := by
  have hb1 : Below w.heap.size w (w.alloc (.cells #[.int .i64 k, .string d] 31)) := (Below.refl _ w).alloc (Nat.le_refl _) _
  obtain ⟨x0, x1, hq⟩ := blk2 (heap_alloc_new w (.cells #[.int .i64 k, .string d] 31))
  have ht : Tabs (w.alloc (.cells #[.int .i64 k, .string d] 31)).drew := h.below (below_drewN hb1 1)
  have ho := on_any 6 k _ ht
  have h6 := (tab_all 6 k (by decide) (by decide)).2.2.2.1 rfl
  rw [h6.1, h6.2] at ho
  have HB := Hid.mk' hb1
  clear h ht h6 hb1
  go_enter Tryd.func14, Tryd.ntmps14
  go_upto_region 1 with fail
  generalize w.alloc (.cells #[.int .i64 k, .string d] 31) = w1 at *
  generalize hqq : w.heap.size = q at *
  have HQ : Hid (w.heap.size = q) := hqq
  clear hqq
  go_region_held3 (fun w' => w'.cell? ⟨q, 0, none⟩ = some (.int .i64 k)) (first | assumption | exact (hb2.cell (p := ⟨q, 0, none⟩) hq).trans (by assumption) | go_keep)
    (first
      | (go_at_call 19; refine (state_nil _).mono ?_; rintro e w' ⟨rfl, hw'⟩; subst w')
      | (go_at_call 21; refine ho.mono ?_; rintro e w2 ⟨rfl, hb2⟩))
  have HB2 : Hid (Below q w w2) := (below_drewN HB.out 1).trans (hb2.mono (Nat.le_of_lt hq))
  clear hb2 ho
  go_wp2_with (go_at_call 28; refine (enter_nil _ _).mono ?_; rintro e w' ⟨rfl, hw'⟩; subst w')
  go_ret
  exact ⟨rfl, by rw [HQ.out]; exact HB2.out⟩

end Go.Proofs.YtegjaoaoiojhfaaDoor
