/-
  What each call does of a connection that isn't there, and BackNil's walk: it returns true. No conditions.
-/
import Derived.Test.YtnbpkjfaopfapaaStep
namespace Go.Proofs.Ytnbpkjfaopfapaa
open Go.ChangeShapes Go.WideShapes Go.ChangeAt Go.RowKit

set_option maxRecDepth 100000 in
theorem thr_nil (a b : Int) (w : World) :
    Calls Try.prog 21 #[.pointer none, .int .i64 a, .int .i64 b] w fun e w' => e = .returned (.bool false) ∧ Below w.heap.size w w' := by
  have hmf := mf_any Try.prog
  have HB : Hid (Below w.heap.size w (((w.alloc (.cells #[.pointer none] 24)).alloc (.cells #[.int .i64 a] 3)).alloc (.cells #[.int .i64 b] 3))) := (((Below.refl _ w).alloc (Nat.le_refl _) _).alloc (by simp) _).alloc (by simp; omega) _
  go_enter Try.func21, Try.ntmps21
  go_wp2_with (first
    | (go_at_call 10; refine (state_nil _).mono ?_; rintro e w' ⟨rfl, rfl⟩)
    | (go_at_call 30; refine (did_no _ _ _ _).mono ?_; rintro e w' ⟨rfl, rfl⟩))
  go_ret
  exact ⟨rfl, HB.out⟩

set_option maxRecDepth 100000 in
theorem gre_nil (a : Int) (w : World) :
    Calls Try.prog 22 #[.pointer none, .int .i64 a] w fun e w' => e = .returned (.bool false) ∧ Below w.heap.size w w' := by
  have hmf := mf_any Try.prog
  have HB : Hid (Below w.heap.size w ((w.alloc (.cells #[.pointer none] 24)).alloc (.cells #[.int .i64 a] 3))) := ((Below.refl _ w).alloc (Nat.le_refl _) _).alloc (by simp) _
  go_enter Try.func22, Try.ntmps22
  go_wp2_with (first
    | (go_at_call 10; refine (state_nil _).mono ?_; rintro e w' ⟨rfl, rfl⟩)
    | (go_at_call 30; refine (did_no _ _ _ _).mono ?_; rintro e w' ⟨rfl, rfl⟩))
  go_ret
  exact ⟨rfl, HB.out⟩

set_option maxRecDepth 100000 in
theorem bin_nil (a : Int) (w : World) :
    Calls Try.prog 23 #[.pointer none, .int .i64 a] w fun e w' => e = .returned (.bool false) ∧ Below w.heap.size w w' := by
  have hmf := mf_any Try.prog
  have HB : Hid (Below w.heap.size w ((w.alloc (.cells #[.pointer none] 24)).alloc (.cells #[.int .i64 a] 3))) := ((Below.refl _ w).alloc (Nat.le_refl _) _).alloc (by simp) _
  go_enter Try.func23, Try.ntmps23
  go_wp2_with (first
    | (go_at_call 10; refine (state_nil _).mono ?_; rintro e w' ⟨rfl, rfl⟩)
    | (go_at_call 30; refine (did_no _ _ _ _).mono ?_; rintro e w' ⟨rfl, rfl⟩))
  go_ret
  exact ⟨rfl, HB.out⟩

set_option maxRecDepth 100000 in
theorem sen_nil (w : World) :
    Calls Try.prog 24 #[.pointer none] w fun e w' => e = .returned (.bool false) ∧ Below w.heap.size w w' := by
  have hmf := mf_any Try.prog
  have HB : Hid (Below w.heap.size w (w.alloc (.cells #[.pointer none] 24))) := (Below.refl _ w).alloc (Nat.le_refl _) _
  go_enter Try.func24, Try.ntmps24
  go_wp2_with (first
    | (go_at_call 10; refine (state_nil _).mono ?_; rintro e w' ⟨rfl, rfl⟩)
    | (go_at_call 30; refine (did_no _ _ _ _).mono ?_; rintro e w' ⟨rfl, rfl⟩))
  go_ret
  exact ⟨rfl, HB.out⟩

set_option maxRecDepth 100000 in
theorem got_nil (w : World) :
    Calls Try.prog 26 #[.pointer none] w fun e w' => e = .returned (.bool false) ∧ Below w.heap.size w w' := by
  have hmf := mf_any Try.prog
  have HB : Hid (Below w.heap.size w (w.alloc (.cells #[.pointer none] 24))) := (Below.refl _ w).alloc (Nat.le_refl _) _
  go_enter Try.func26, Try.ntmps26
  go_wp2_with (first
    | (go_at_call 10; refine (state_nil _).mono ?_; rintro e w' ⟨rfl, rfl⟩)
    | (go_at_call 30; refine (did_no _ _ _ _).mono ?_; rintro e w' ⟨rfl, rfl⟩))
  go_ret
  exact ⟨rfl, HB.out⟩

set_option maxRecDepth 100000 in
theorem fre_nil (a : Int) (w : World) :
    Calls Try.prog 25 #[.pointer none, .int .i64 a] w fun e w' => e = .returned (.bool false) ∧ Below w.heap.size w w' := by
  have hmf := mf_any Try.prog
  have HB : Hid (Below w.heap.size w ((w.alloc (.cells #[.pointer none] 24)).alloc (.cells #[.int .i64 a] 3))) := ((Below.refl _ w).alloc (Nat.le_refl _) _).alloc (by simp) _
  go_enter Try.func25, Try.ntmps25
  go_wp2_with (first
    | (go_at_call 10; refine (state_nil _).mono ?_; rintro e w' ⟨rfl, rfl⟩)
    | (go_at_call 30; refine (did_no _ _ _ _).mono ?_; rintro e w' ⟨rfl, rfl⟩))
  go_ret
  exact ⟨rfl, HB.out⟩

set_option maxRecDepth 100000 in
theorem kil_nil (w : World) :
    Calls Try.prog 27 #[.pointer none] w fun e w' => e = .returned (.bool false) ∧ Below w.heap.size w w' := by
  have hmf := mf_any Try.prog
  have HB : Hid (Below w.heap.size w (w.alloc (.cells #[.pointer none] 24))) := (Below.refl _ w).alloc (Nat.le_refl _) _
  go_enter Try.func27, Try.ntmps27
  go_wp2_with (first
    | (go_at_call 10; refine (state_nil _).mono ?_; rintro e w' ⟨rfl, rfl⟩)
    | (go_at_call 30; refine (did_no _ _ _ _).mono ?_; rintro e w' ⟨rfl, rfl⟩))
  go_ret
  exact ⟨rfl, HB.out⟩

set_option maxHeartbeats 1000000 in
set_option maxRecDepth 100000 in
theorem step_nil (k a b : Int) (w : World) :
    Calls Try.prog 11 #[.pointer none, .agg #[.int .i64 k, .int .i64 a, .int .i64 b]] w fun e w' => e = .returned (.bool false) ∧ Below w.heap.size w w' := by
  obtain ⟨hb1, x0, x1, x2, hl⟩ := step_box w k a b
  have hk := kind_any k a b (w.alloc (.cells #[.int .i64 k, .int .i64 a, .int .i64 b] 28))
  have hkk := kindI_of k
  generalize kindI k = kk at *
  obtain ⟨W, hW⟩ : ∃ W, W = w.alloc (.cells #[.int .i64 k, .int .i64 a, .int .i64 b] 28) := ⟨_, rfl⟩
  rw [← hW] at x0 x1 x2 hk hl hb1
  have HW2 := Hid.mk' hW
  have HB := Hid.mk' hb1
  clear hW hb1
  rcases hkk with rfl | rfl | rfl | rfl | rfl | rfl | rfl
  · go_enter Try.func11, Try.ntmps11
    go_wp2_with fail
    rw [← HW2.out]
    refine hk.mono ?_
    rintro e w2 ⟨rfl, hb2⟩
    have HB2 : Hid (Below w.heap.size w w2) := HB.out.trans (hb2.mono HB.out.size)
    have x1 := (hb2.cell hl).trans x1
    have x2 := (hb2.cell hl).trans x2
    clear hb2 hk x0
    go_wp2_with fail
    refine (thr_nil a b w2).mono ?_
    rintro e w3 ⟨rfl, h3⟩
    have HR : Hid (Below w.heap.size w w3) := HB2.out.trans (h3.mono HB2.out.size)
    clear h3 x1 x2
    go_wp2
    go_ret
    exact ⟨rfl, HR.out⟩
  · go_enter Try.func11, Try.ntmps11
    go_wp2_with fail
    rw [← HW2.out]
    refine hk.mono ?_
    rintro e w2 ⟨rfl, hb2⟩
    have HB2 : Hid (Below w.heap.size w w2) := HB.out.trans (hb2.mono HB.out.size)
    have x1 := (hb2.cell hl).trans x1
    have x2 := (hb2.cell hl).trans x2
    clear hb2 hk x0
    go_wp2_with fail
    refine (gre_nil a w2).mono ?_
    rintro e w3 ⟨rfl, h3⟩
    have HR : Hid (Below w.heap.size w w3) := HB2.out.trans (h3.mono HB2.out.size)
    clear h3 x1 x2
    go_wp2
    go_ret
    exact ⟨rfl, HR.out⟩
  · go_enter Try.func11, Try.ntmps11
    go_wp2_with fail
    rw [← HW2.out]
    refine hk.mono ?_
    rintro e w2 ⟨rfl, hb2⟩
    have HB2 : Hid (Below w.heap.size w w2) := HB.out.trans (hb2.mono HB.out.size)
    have x1 := (hb2.cell hl).trans x1
    have x2 := (hb2.cell hl).trans x2
    clear hb2 hk x0
    go_wp2_with fail
    refine (bin_nil a w2).mono ?_
    rintro e w3 ⟨rfl, h3⟩
    have HR : Hid (Below w.heap.size w w3) := HB2.out.trans (h3.mono HB2.out.size)
    clear h3 x1 x2
    go_wp2
    go_ret
    exact ⟨rfl, HR.out⟩
  · go_enter Try.func11, Try.ntmps11
    go_wp2_with fail
    rw [← HW2.out]
    refine hk.mono ?_
    rintro e w2 ⟨rfl, hb2⟩
    have HB2 : Hid (Below w.heap.size w w2) := HB.out.trans (hb2.mono HB.out.size)
    have x1 := (hb2.cell hl).trans x1
    have x2 := (hb2.cell hl).trans x2
    clear hb2 hk x0
    go_wp2_with fail
    refine (sen_nil w2).mono ?_
    rintro e w3 ⟨rfl, h3⟩
    have HR : Hid (Below w.heap.size w w3) := HB2.out.trans (h3.mono HB2.out.size)
    clear h3 x1 x2
    go_wp2
    go_ret
    exact ⟨rfl, HR.out⟩
  · go_enter Try.func11, Try.ntmps11
    go_wp2_with fail
    rw [← HW2.out]
    refine hk.mono ?_
    rintro e w2 ⟨rfl, hb2⟩
    have HB2 : Hid (Below w.heap.size w w2) := HB.out.trans (hb2.mono HB.out.size)
    have x1 := (hb2.cell hl).trans x1
    have x2 := (hb2.cell hl).trans x2
    clear hb2 hk x0
    go_wp2_with fail
    refine (got_nil w2).mono ?_
    rintro e w3 ⟨rfl, h3⟩
    have HR : Hid (Below w.heap.size w w3) := HB2.out.trans (h3.mono HB2.out.size)
    clear h3 x1 x2
    go_wp2
    go_ret
    exact ⟨rfl, HR.out⟩
  · go_enter Try.func11, Try.ntmps11
    go_wp2_with fail
    rw [← HW2.out]
    refine hk.mono ?_
    rintro e w2 ⟨rfl, hb2⟩
    have HB2 : Hid (Below w.heap.size w w2) := HB.out.trans (hb2.mono HB.out.size)
    have x1 := (hb2.cell hl).trans x1
    have x2 := (hb2.cell hl).trans x2
    clear hb2 hk x0
    go_wp2_with fail
    refine (fre_nil a w2).mono ?_
    rintro e w3 ⟨rfl, h3⟩
    have HR : Hid (Below w.heap.size w w3) := HB2.out.trans (h3.mono HB2.out.size)
    clear h3 x1 x2
    go_wp2
    go_ret
    exact ⟨rfl, HR.out⟩
  · go_enter Try.func11, Try.ntmps11
    go_wp2_with fail
    rw [← HW2.out]
    refine hk.mono ?_
    rintro e w2 ⟨rfl, hb2⟩
    have HB2 : Hid (Below w.heap.size w w2) := HB.out.trans (hb2.mono HB.out.size)
    have x1 := (hb2.cell hl).trans x1
    have x2 := (hb2.cell hl).trans x2
    clear hb2 hk x0
    go_wp2_with fail
    refine (kil_nil w2).mono ?_
    rintro e w3 ⟨rfl, h3⟩
    have HR : Hid (Below w.heap.size w w3) := HB2.out.trans (h3.mono HB2.out.size)
    clear h3 x1 x2
    go_wp2
    go_ret
    exact ⟨rfl, HR.out⟩

set_option maxHeartbeats 1000000 in
set_option maxRecDepth 100000 in
theorem nil_walk (k a b : Int) (w : World) :
    Calls Try.prog 5 #[.agg #[.int .i64 k, .int .i64 a, .int .i64 b]] w fun e w' => e = .returned (.bool true) ∧ Below w.heap.size w w' := by
  obtain ⟨hb1, x0, x1, x2, hl⟩ := step_box w k a b
  obtain ⟨W, hW⟩ : ∃ W, W = w.alloc (.cells #[.int .i64 k, .int .i64 a, .int .i64 b] 28) := ⟨_, rfl⟩
  rw [← hW] at x0 x1 x2 hl hb1
  have HW2 := Hid.mk' hW
  have HB := Hid.mk' hb1
  clear hW hb1
  go_enter Try.func5, Try.ntmps5
  go_wp2_with fail
  rw [← HW2.out]
  refine (lives_any W).mono ?_
  rintro e w1 ⟨rfl, hb2⟩
  have HB2 : Hid (Below w.heap.size w w1) := HB.out.trans (hb2.mono HB.out.size)
  have x0 := (hb2.cell hl).trans x0
  have x1 := (hb2.cell hl).trans x1
  have x2 := (hb2.cell hl).trans x2
  have hl1 := Nat.lt_of_lt_of_le hl hb2.size
  clear hb2 hl
  go_wp2_with fail
  refine (step_nil k a b w1).mono ?_
  rintro e w2 ⟨rfl, hb2⟩
  have HB3 : Hid (Below w.heap.size w w2) := HB2.out.trans (hb2.mono HB2.out.size)
  have x1 := (hb2.cell hl1).trans x1
  have x2 := (hb2.cell hl1).trans x2
  clear hb2 x0 hl1
  go_wp2_with (first
    | (go_at_call 10; refine (state_nil _).mono ?_; rintro e w' ⟨rfl, rfl⟩)
    | (go_at_call 15; refine (host_nil _).mono ?_; rintro e w' ⟨rfl, rfl⟩)
    | (go_at_call 13; refine (client_nil _).mono ?_; rintro e w' ⟨rfl, rfl⟩)
    | (go_at_call 14; refine (owes_nil _).mono ?_; rintro e w' ⟨rfl, rfl⟩)
    | (go_at_call 16; refine (born_nil _).mono ?_; rintro e w' ⟨rfl, rfl⟩)
    | (go_at_call 17; refine (deadline_nil _).mono ?_; rintro e w' ⟨rfl, rfl⟩)
    | (go_at_call 18; refine (since_nil _).mono ?_; rintro e w' ⟨rfl, rfl⟩)
    | (go_at_call 19; refine (old_nil _ _).mono ?_; rintro e w' ⟨rfl, rfl⟩)
    | (go_at_call 20; refine (stale_nil _ _ _).mono ?_; rintro e w' ⟨rfl, rfl⟩))
  go_ret
  exact ⟨rfl, HB3.out⟩

end Go.Proofs.Ytnbpkjfaopfapaa
