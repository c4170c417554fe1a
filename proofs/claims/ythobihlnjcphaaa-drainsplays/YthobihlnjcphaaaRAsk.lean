/-
  What the document's Ask does. Conditions: its drains lie where they are said to lie, at most 900 in a row, a name is no longer than the greatest length.
-/
import Derived.Test.YthobihlnjcphaaaRBox
namespace Go.Proofs.Ythobihlnjcphaaa
open Go.ChangeShapes Go.WideShapes Go.ChangeAt Go.RowKit

set_option maxHeartbeats 1000000 in
set_option maxRecDepth 100000 in
theorem rask_no (w : World) (a0 a1 a2 : Option Addr) (n0 n1 n2 c0 c1 c2 : Nat) (L M : List Dr) (x : ByteArray) (hs : x.size ≤ maxLen) (hw : StrsAt w a0 n0 c0 (nms L)) (hu : StrsAt w a1 n1 c1 (nms M)) (E : Int) (hE : askE x L M = E) (h0 : E ≠ 0) (hn : L.length = n0) :
    Calls Try.prog 12 #[.agg #[.slice a0 n0 c0, .slice a1 n1 c1, .slice a2 n2 c2], .string x] w fun e w' => e = .returned (.tuple #[.agg #[.slice a0 n0 c0, .slice a1 n1 c1, .slice a2 n2 c2], .int .i64 E]) ∧ Below w.heap.size w w' := by
  have hB := Bx.new w (.slice a0 n0 c0) (.slice a1 n1 c1) (.slice a2 n2 c2)
  have hn1 := rname_any x hs ((w.alloc (.cells #[.slice a0 n0 c0, .slice a1 n1 c1, .slice a2 n2 c2] 29)).alloc (.cells #[.slice none 0 0, .slice none 0 0, .slice none 0 0] 29))
  have hp0 := place_any a0 n0 c0 (nms L) x _ (hw.below (Nat.le_refl _) hB.bel)
  have hp1 := place_any a1 n1 c1 (nms M) x _ (hu.below (Nat.le_refl _) hB.bel)
  obtain ⟨y0, y1, y2⟩ := hB.cells
  obtain ⟨d0, d1, d2⟩ := hB.cells4
  have f0 := hB.fz4 0
  have f1 := hB.fz4 1
  have f2 := hB.fz4 2
  have HO := Hid.mk' hB.out
  have hwc := hw.hle
  have hwm := hw.hcap
  unfold maxLen at hwm
  have HE : Hid (askE x L M = E) := hE
  clear hB hE hw hu
  go_enter Try.func12, Try.ntmps12
  go_wp2_with fail
  generalize (w.alloc (.cells #[.slice a0 n0 c0, .slice a1 n1 c1, .slice a2 n2 c2] 29)).alloc (.cells #[.slice none 0 0, .slice none 0 0, .slice none 0 0] 29) = w1 at *
  generalize w.heap.size + 1 = b4 at *
  obtain ⟨x0, x1, x2, _⟩ := blk3 HO.out.1
  cases hnm : nameB x with
  | false =>
    have he : E = 11 := by rw [← HE.out]; unfold askE; rw [hnm]; rfl
    subst he
    rw [hnm] at hn1
    refine hn1.mono ?_
    rintro e w' ⟨rfl, hw'⟩
    subst w'
    clear hp0 hp1
    go_wp2
    refine bodyPost_ret (v := .tuple #[.agg #[.slice a0 n0 c0, .slice a1 n1 c1, .slice a2 n2 c2], .int .i64 11]) (by simp [results, Try.results12, go_sem, x0, x1, x2]) rfl ?_
    exact ⟨rfl, HO.out.2.2⟩
  | true =>
    rw [hnm] at hn1
    refine hn1.mono ?_
    rintro e w' ⟨rfl, hw'⟩
    subst w'
    cases h1 : isIn x L with
    | true =>
      have he : E = 6 := by rw [← HE.out]; unfold askE; rw [hnm, h1]; rfl
      subst he
      rw [plc_mem (isIn_iff.1 h1)] at hp0
      have hge : (0 : Int) ≤ ((fidx x (nms L) : Nat) : Int) := by omega
      generalize fidx x (nms L) = F at *
      clear hp1
      go_wp2_with (first | (go_at_call 21; refine hp0.mono ?_; rintro e w' ⟨rfl, hw'⟩; subst w'))
      refine bodyPost_ret (v := .tuple #[.agg #[.slice a0 n0 c0, .slice a1 n1 c1, .slice a2 n2 c2], .int .i64 6]) (by simp [results, Try.results12, go_sem, x0, x1, x2]) rfl ?_
      exact ⟨rfl, HO.out.2.2⟩
    | false =>
      rw [plc_not (isIn_not.1 h1)] at hp0
      cases h2 : isIn x M with
      | true =>
        have he : E = 6 := by rw [← HE.out]; unfold askE; rw [hnm, h1, h2]; rfl
        subst he
        rw [plc_mem (isIn_iff.1 h2)] at hp1
        have hge : (0 : Int) ≤ ((fidx x (nms M) : Nat) : Int) := by omega
        generalize fidx x (nms M) = F at *
        go_wp2_with fail
        refine hp0.mono ?_
        rintro e w' ⟨rfl, hw'⟩
        subst w'
        go_wp2_with fail
        refine hp1.mono ?_
        rintro e w' ⟨rfl, hw'⟩
        subst w'
        go_wp2
        refine bodyPost_ret (v := .tuple #[.agg #[.slice a0 n0 c0, .slice a1 n1 c1, .slice a2 n2 c2], .int .i64 6]) (by simp [results, Try.results12, go_sem, x0, x1, x2]) rfl ?_
        exact ⟨rfl, HO.out.2.2⟩
      | false =>
        have h16 : 16 ≤ L.length ∧ E = 7 := by
          have := HE.out
          unfold askE at this
          rw [hnm, h1, h2] at this
          simp only [reduceCtorEq, if_false, Bool.or_self] at this
          by_cases h : 16 ≤ L.length
          · rw [if_pos h] at this
            exact ⟨h, this.symm⟩
          · rw [if_neg h] at this
            exact absurd this.symm h0
        obtain ⟨h16, rfl⟩ := h16
        rw [plc_not (isIn_not.1 h2)] at hp1
        have hge : (16 : Int) ≤ (n0 : Int) := by omega
        go_wp2_with fail
        refine hp0.mono ?_
        rintro e w' ⟨rfl, hw'⟩
        subst w'
        go_wp2_with fail
        refine hp1.mono ?_
        rintro e w' ⟨rfl, hw'⟩
        subst w'
        go_wp2
        refine bodyPost_ret (v := .tuple #[.agg #[.slice a0 n0 c0, .slice a1 n1 c1, .slice a2 n2 c2], .int .i64 7]) (by simp [results, Try.results12, go_sem, x0, x1, x2]) rfl ?_
        exact ⟨rfl, HO.out.2.2⟩

end Go.Proofs.Ythobihlnjcphaaa
