/-
  DrawNumbers's walk: the calls of package draw answer what the document's own answer. Conditions: a draw is an int, and so are the three numbers.
-/
import Derived.Test.YtihbbkacnmnmhaaStrs
namespace Go.Proofs.Ytihbbkacnmnmhaa
open Go.ChangeShapes Go.WideShapes Go.ChangeAt Go.RowKit

set_option maxHeartbeats 1000000 in
set_option maxRecDepth 100000 in
theorem numbers_walk (d x y z : Int) (hd : In d) (hx : In x) (w : World) :
    Calls Try.prog 3 #[.int .i64 d, .agg #[.int .i64 x, .int .i64 y, .int .i64 z]] w fun e w' => e = .returned (.bool true) ∧ Below w.heap.size w w' := by
  have hx2 := hx.2
  go_enter Try.func3, Try.ntmps3
  go_wp2_with fail
  refine (lives_any _).mono ?_
  rintro e w' ⟨rfl, rfl⟩
  obtain ⟨w1, hw1⟩ : ∃ w1, w1 = w.alloc (.cells #[.int .i64 x, .int .i64 y, .int .i64 z] 22) := ⟨_, rfl⟩
  have B : Hid (Below w.heap.size w w1) := by rw [hw1]; exact (Below.refl _ w).alloc (Nat.le_refl _) _
  have c0 : w1.cell? ⟨w.heap.size, 0, none⟩ = some (.int .i64 x) := by rw [hw1]; simp [go_sem]
  have c1 : w1.cell? ⟨w.heap.size, 1, none⟩ = some (.int .i64 y) := by rw [hw1]; simp [go_sem]
  have c2 : w1.cell? ⟨w.heap.size, 2, none⟩ = some (.int .i64 z) := by rw [hw1]; simp [go_sem]
  rw [← hw1]
  clear hw1
  go_wp2
  go_quiet (first
    | (go_at_call 9; exact Calls.quiet_of_same (size_any _ hd _))
    | (go_at_call 10; exact Calls.quiet_of_same (rsize_any _ hd _))
    | (go_at_call 11; exact Calls.quiet_of_same (below_any _ _ hd hx2 _))
    | (go_at_call 12; exact Calls.quiet_of_same (rbelow_any _ _ hd hx2 _))
    | (go_at_call 13; exact Calls.quiet_of_same (spread_any _ _ _ hd _))
    | (go_at_call 14; exact Calls.quiet_of_same (rspread_any _ _ _ hd _))
    | (go_at_call 15; exact Calls.quiet_of_same (between_any _ _ _ hd _))
    | (go_at_call 16; exact Calls.quiet_of_same (rbetween_any _ _ _ hd _))
    | (go_at_call 17; exact Calls.quiet_of_same (life_any _ _ _ _ hd _))
    | (go_at_call 18; exact Calls.quiet_of_same (rlife_any _ _ _ _ hd _)))
  go_wp2
  go_ret
  exact ⟨rfl, ⟨B.out.os, B.out.tape, B.out.output, B.out.size, B.out.block⟩⟩

end Go.Proofs.Ytihbbkacnmnmhaa
