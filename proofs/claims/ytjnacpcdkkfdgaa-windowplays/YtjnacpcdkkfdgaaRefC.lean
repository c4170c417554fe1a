/-
  What Count of the document's window does, as a contract. Conditions: the ticks lie where they are said to lie; they are cut, and at most 1000; the span is one that may be.
-/
import Derived.Test.YtjnacpcdkkfdgaaRef
namespace Go.Proofs.Ytjnacpcdkkfdgaa
open Go.ChangeShapes Go.WideShapes Go.ChangeAt Go.RowKit

theorem all_late {s t now : Int} {l : List Int} {i : Nat} (h : i < (allR s t l).length) (hn : now ≤ t) : lateR ((allR s t l).getD i 0) s now = true := by
  have hm := mem_getD h
  generalize (allR s t l).getD i 0 = x at *
  have := (List.mem_filter.1 hm).2
  unfold lateR at this ⊢
  rw [decide_eq_true_eq] at this ⊢
  omega

set_option maxHeartbeats 1000000 in
set_option maxRecDepth 100000 in
theorem rcount_any (w : World) (s t : Int) (a : Option Addr) (n c : Nat) (zs : List Int) (now : Int) (hz : IntsAt w a n c zs) (hs : 1 ≤ s ∧ s ≤ 1048576) (htk : ∀ x ∈ zs, Tk x) (hn : n ≤ 1000) :
    Calls Try.prog 15 #[.agg #[.int .i64 s, .slice a n c, .int .i64 t], .int .i64 now] w fun e w' => e = .returned (.tuple #[.agg #[.int .i64 s, .slice a n c, .int .i64 (max t (cut now))], .int .i64 (allR s (max t (cut now)) zs).length]) ∧ Below w.heap.size w w' := by
  have hif : (if t < cut now then cut now else t) = max t (cut now) := by split <;> omega
  have hle : cut now ≤ max t (cut now) := by omega
  generalize max t (cut now) = T at *
  have hb : Below w.heap.size w ((w.alloc (.cells #[.int .i64 s, .slice a n c, .int .i64 t] 28)).alloc (.cells #[.int .i64 0, .slice none 0 0, .int .i64 0] 28)) := ((Below.refl _ w).alloc (Nat.le_refl _) _).alloc (by simp) _
  have hb0 : ((w.alloc (.cells #[.int .i64 s, .slice a n c, .int .i64 t] 28)).alloc (.cells #[.int .i64 0, .slice none 0 0, .int .i64 0] 28)).heap[w.heap.size]? = some (.cells #[.int .i64 s, .slice a n c, .int .i64 t] 28 (0, 0)) := by
    rw [Below.heap_alloc _ _ _ (by simp)]; exact heap_alloc_new _ _
  have hb1 : ((w.alloc (.cells #[.int .i64 s, .slice a n c, .int .i64 t] 28)).alloc (.cells #[.int .i64 0, .slice none 0 0, .int .i64 0] 28)).heap[w.heap.size + 1]? = some (.cells #[.int .i64 0, .slice none 0 0, .int .i64 0] 28 (0, 0)) := by
    have := heap_alloc_new (w.alloc (.cells #[.int .i64 s, .slice a n c, .int .i64 t] 28)) (.cells #[.int .i64 0, .slice none 0 0, .int .i64 0] 28)
    simpa using this
  have hsz : ((w.alloc (.cells #[.int .i64 s, .slice a n c, .int .i64 t] 28)).alloc (.cells #[.int .i64 0, .slice none 0 0, .int .i64 0] 28)).heap.size = w.heap.size + 2 := by simp
  have hz2 := hz.below hb
  have HZL : Hid (∀ x, a = some x → 0 < n → x.block < w.heap.size) := fun x hx h0 => by
    obtain ⟨b, off, e, hlt, -⟩ := hz.at_ 0 h0
    rw [hx] at e
    cases e
    exact hlt
  have HTK : Hid (∀ x ∈ zs, Tk x) := htk
  have hz1 := hz.hle
  have hz3 := hz.hcap
  unfold maxLen at hz3
  clear hz htk
  go_enter Try.func15, Try.ntmps15
  go_wp2_with fail
  refine (rcut_any _ _).mono ?_
  rintro e w' ⟨rfl, hw'⟩
  obtain rfl := hw'
  generalize (w.alloc (.cells #[.int .i64 s, .slice a n c, .int .i64 t] 28)).alloc (.cells #[.int .i64 0, .slice none 0 0, .int .i64 0] 28) = w2 at *
  generalize hg : w.heap.size = g at *
  have HG : Hid (w.heap.size = g) := hg
  clear hg
  have hgl : g < w2.heap.size := by omega
  obtain ⟨d0, d1, d2, -⟩ := blk3 hb0
  have f2 := fz3 hb0 2
  have hb3 := (heap_set3 (u := .int .i64 T) hb0).2.2
  have hb4 : (w2.setCell ⟨g, 2, none⟩ (.int .i64 T)).heap[g + 1]? = some (.cells #[.int .i64 0, .slice none 0 0, .int .i64 0] 28 (0, 0)) := (heap_setCell_other w2 _ (g + 1) _ (by simp)).trans hb1
  have hkp : Keep (fun k => k < g) w2 (w2.setCell ⟨g, 2, none⟩ (.int .i64 T)) := (Keep.refl _ w2).setCell (Nat.lt_irrefl g) _
  have hzz : IntsAt (w2.setCell ⟨g, 2, none⟩ (.int .i64 T)) a n c zs := by
    by_cases h0 : 0 < n
    · exact hz2.keep hkp (fun x hx _ => HZL.out x hx h0)
    · exact ⟨hz2.hlen, hz2.hle, hz2.hcap, fun j hj => by omega⟩
  have hal := rall_any _ s T a n c zs hzz hs HTK.out hn
  have HF : Hid ((w2.setCell ⟨g, 2, none⟩ (.int .i64 T)).heap[g]? = some (.cells #[.int .i64 s, .slice a n c, .int .i64 T] 28 (0, 0)) ∧ (w2.setCell ⟨g, 2, none⟩ (.int .i64 T)).heap[g + 1]? = some (.cells #[.int .i64 0, .slice none 0 0, .int .i64 0] 28 (0, 0))) := ⟨hb3, hb4⟩
  have HB : Hid (Below g w w2 ∧ Keep (fun k => k < g) w2 (w2.setCell ⟨g, 2, none⟩ (.int .i64 T)) ∧ w2.heap.size = g + 2) := ⟨hb, hkp, hsz⟩
  have hTs := hif
  clear hb0 hb1 hb hz2 hb3 hb4 hkp hzz HZL hsz
  go_wp2_with fail
  refine hal.mono ?_
  rintro e w4 ⟨v, rfl, hrow, hb4⟩
  have hsz4 : g + 2 ≤ (w2.setCell ⟨g, 2, none⟩ (.int .i64 T)).heap.size := by have := HB.out.2.2; simp; omega
  have k0 : w4.heap[g]? = some (.cells #[.int .i64 s, .slice a n c, .int .i64 T] 28 (0, 0)) := (hb4.block g (by omega)).trans HF.out.1
  have k1 : w4.heap[g + 1]? = some (.cells #[.int .i64 0, .slice none 0 0, .int .i64 0] 28 (0, 0)) := (hb4.block (g + 1) (by omega)).trans HF.out.2
  have hk4 : Keep (fun k => k < g) w2 w4 := HB.out.2.1.trans (keep_below hb4)
  have HB4 : Hid (Below g w w4) := HB.out.1.trans (hk4.below (by have := HB.out.2.2; omega) (fun _ h => h))
  have hlen := all_length s T zs
  obtain ⟨a4, c4, rfl, hi4, -⟩ := owns_ints hrow
  have HI : Hid (IntsAt w4 a4 (allR s T zs).length c4 (allR s T zs)) := hi4
  have h41 := hi4.hle
  have h42 := hi4.hcap
  unfold maxLen at h42
  have HLT : Hid (∀ i, i < (allR s T zs).length → lateR ((allR s T zs).getD i 0) s (cut now) = true) := fun i hi => all_late hi hle
  have HTL : Hid (∀ i, i < (allR s T zs).length → Tk ((allR s T zs).getD i 0)) := fun i hi => HTK.out _ (List.mem_filter.1 (mem_getD hi)).1
  obtain ⟨e0, e1, e2, hgl4⟩ := blk3 k0
  have HK1 : Hid (w4.heap[g + 1]? = some (.cells #[.int .i64 0, .slice none 0 0, .int .i64 0] 28 (0, 0))) := k1
  obtain ⟨y0, y1, y2, hgl5⟩ := blk3 k1
  have z0 := fz3 k1 0
  have z1 := fz3 k1 1
  have z2 := fz3 k1 2
  clear hal hrow hb4 HF HB HTK hk4 hi4 k0 k1 hsz4 d0 d1 d2 f2
  generalize hN : (allR s T zs).length = N at *
  have HN : Hid ((allR s T zs).length = N) := hN
  clear hN
  go_wp2
  go_loopw [6, 8] (fun vn vi wr => ∃ i q : Nat, vi = .int .i64 i ∧ vn = .int .i64 i ∧ i ≤ N ∧ wr = w4.drewN q) (fun _ vi _ => N - (intOf vi).toNat)
  case atStart => exact ⟨0, 0, rfl, rfl, Nat.zero_le _, rfl⟩
  case round =>
    obtain ⟨i, q, rfl, rfl, hi1, rfl⟩ := hrel
    by_cases hc : i < N
    · obtain ⟨b, off, rfl, -, hcell⟩ := HI.out.at_ i hc
      have hlt := rlate_any ((allR s T zs).getD i 0) s (cut now) (HTL.out i hc) hs
      rw [HLT.out i hc] at hlt
      generalize (allR s T zs).getD i 0 = x at *
      go_wp2
      go_quiet (first | (go_at_call 28; exact quiet2_same (hlt _)))
      go_wp2
      exact ⟨⟨i + 1, _, by simp, by simp, by omega, rfl⟩, by simp [intOf]; omega⟩
    · obtain rfl : N = i := by omega
      have k9 := (heap_set3 (u := .int .i64 T) (heap_set3 (u := .slice a n c) (heap_set3 (w := w4.drewN q) (u := .int .i64 s) HK1.out).1).2.1).2.2
      obtain ⟨o0, o1, o2, -⟩ := blk3 k9
      have HKF : Hid (Keep (fun k => k < g) w4 ((((w4.drewN q).setCell ⟨g + 1, 0, none⟩ (.int .i64 s)).setCell ⟨g + 1, 1, none⟩ (.slice a n c)).setCell ⟨g + 1, 2, none⟩ (.int .i64 T))) := ((((Keep.refl _ w4).drewN q).setCell (by show ¬ g + 1 < g; omega) _).setCell (by show ¬ g + 1 < g; omega) _).setCell (by show ¬ g + 1 < g; omega) _
      clear k9
      go_wp2
      refine bodyPost_ret (v := .tuple #[.agg #[.int .i64 s, .slice a n c, .int .i64 T], .int .i64 N]) (by simp [results, Try.results15, go_sem, o0, o1, o2]) rfl ?_
      obtain rfl := HG.out
      exact ⟨by rw [HN.out], HB4.out.trans (HKF.out.below HB4.out.size (fun _ h => h))⟩

end Go.Proofs.Ytjnacpcdkkfdgaa
