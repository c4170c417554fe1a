/-
  What Wait does, the program's and the document's, and the document's New, each as a contract. Conditions: the fails are an int.
-/
import Derived.Test.YtcofkaackpecjaaPure
namespace Go.Proofs.Ytcofkaackpecjaa
open Go.ChangeShapes Go.WideShapes Go.ChangeAt Go.RowKit

theorem mx_span (base : Int) : ∃ m, (if base < 1 then (1 : Int) else base) = m ∧ (if (1048576 : Int) < m then (1048576 : Int) else m) = spanI base := by
  refine ⟨_, rfl, ?_⟩
  unfold spanI
  repeat' split <;> omega

set_option maxRecDepth 100000 in
theorem wait_any (base f : Int) (hf : f ≤ 9223372036854775807) (w : World) :
    Calls Try.prog 20 #[.int .i64 base, .int .i64 f] w fun e w' => e = .returned (.int .i64 (waitI base f)) ∧ w' = w := by
  by_cases h0 : f < 1
  · go_enter Try.func20, Try.ntmps20
    go_wp2
    go_ret
    exact ⟨ret_int (wait_none h0).symm, rfl⟩
  · obtain ⟨k, rfl, hw⟩ := wait_nth (base := base) (show 1 ≤ f by omega)
    have s1 := span_lo base
    have s2 := span_hi base
    obtain ⟨m, hm1, hm2⟩ := mx_span base
    have HW : Hid (waitI base (k + 1) = dbl (spanI base) k) := hw
    clear hw
    generalize spanI base = S at *
    go_enter Try.func20, Try.ntmps20
    go_wp2
    go_loopw [5, 6] (fun vw vn wr => ∃ (j : Nat), vn = .int .i64 (j + 1) ∧ vw = .int .i64 (dbl S j) ∧ j ≤ k ∧ wr = w) (fun _ vn _ => k + 1 - (intOf vn).toNat)
    case atStart => exact ⟨0, rfl, rfl, Nat.zero_le _, rfl⟩
    case round =>
      obtain ⟨j, rfl, rfl, hj, rfl⟩ := hrel
      have hd := dbl_bd s1 s2 j
      have hs := dbl_succ S j
      obtain ⟨hd1, hd2⟩ := hd
      by_cases hc : j < k ∧ dbl S j < 1048576
      · obtain ⟨hc1, hc2⟩ := hc
        replace hs := hs.symm
        obtain ⟨hb1, hb2⟩ := dbl_bd s1 s2 (j + 1)
        clear hm1 hm2
        generalize hD' : dbl S (j + 1) = D' at *
        generalize dbl S j = D at *
        have HD : Hid (dbl S (j + 1) = D') := hD'
        clear hD'
        go_wp2
        refine ⟨⟨j + 1, by simp, by rw [HD.out], by omega, by trivial⟩, by simp [intOf]; omega⟩
      · have hx : j = k ∨ (j < k ∧ dbl S j = 1048576) := by omega
        rcases hx with rfl | ⟨hx1, hx2⟩
        · have HD : Hid (waitI base (j + 1) = dbl S j) := HW.out
          generalize dbl S j = D at *
          clear hs hc
          go_wp2
          go_ret
          exact ⟨ret_int HD.out.symm, rfl⟩
        · have HD : Hid (waitI base (k + 1) = 1048576) := by
            have := dbl_top hx2 (k - j)
            rw [show j + (k - j) = k by omega] at this
            exact HW.out.trans this
          rw [hx2]
          clear hs hc
          go_wp2
          go_ret
          exact ⟨ret_int HD.out.symm, rfl⟩

theorem rnew_any (base : Int) (w : World) :
    Calls Try.prog 10 #[.int .i64 base] w fun e w' => e = .returned (.agg #[.int .i64 (spanI base), .int .i64 0, .int .i64 0]) ∧ Below w.heap.size w w' := by
  obtain ⟨m, hm1, hm2⟩ := mx_span base
  generalize spanI base = S at *
  go_enter Try.func10, Try.ntmps10
  go_wp2
  refine bodyPost_ret (v := .agg #[.int .i64 S, .int .i64 0, .int .i64 0]) (by simp [results, Try.results10, go_sem]) rfl ?_
  exact ⟨rfl, ((Below.refl _ _).alloc (Nat.le_refl _) _)⟩

end Go.Proofs.Ytcofkaackpecjaa
