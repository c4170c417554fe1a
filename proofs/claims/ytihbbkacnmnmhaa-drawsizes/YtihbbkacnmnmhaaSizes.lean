/-
  DrawSizes's walk: of a draw and its distance from -1 all is the same; without jitter the base is told. Conditions: a draw is an int, and so are the three numbers.
-/
import Derived.Test.YtihbbkacnmnmhaaStrs
namespace Go.Proofs.Ytihbbkacnmnmhaa
open Go.ChangeShapes Go.WideShapes Go.ChangeAt Go.RowKit

theorem spread_twin (d x y : Int) : spread (-1 - d) x y = spread d x y := by unfold spread; rw [below_twin]
theorem between_twin (d x y : Int) : between (-1 - d) x y = between d x y := by unfold between; rw [below_twin]
theorem below_one (d : Int) : below d 1 = 0 := by rw [below_some (by omega)]; omega
theorem cut_cut (x : Int) : cut (cut x) = cut x := cut_mid (cut_lo x) (cut_hi x)
theorem cut_0 : cut 0 = 0 := by decide
theorem spread_none (d x : Int) : spread d x 0 = cut x := by
  unfold spread
  rw [cut_0, show (2 * 0 + 1 : Int) = 1 from rfl, below_one, show cut x - 0 + 0 = cut x by omega, cut_cut]
theorem between_none (d x : Int) : between d x x = cut x := by
  unfold between
  rw [show cut x - cut x + 1 = 1 by omega, below_one]; omega
theorem life_none (d x : Int) : life d 0 x 0 = cut x := by
  unfold life add
  rw [spread_none, cut_0, cut_cut, show 0 + cut x = cut x by omega, cut_cut]

/-- What the calls answer of a draw d and of its twin e. -/
structure Twins (d e x y : Int) (g k s n : Int) : Prop where
  g1 : ∀ W, Calls Try.prog 9 #[.int .i64 d] W fun r w' => r = .returned (.int .i64 g) ∧ w' = W
  g2 : ∀ W, Calls Try.prog 9 #[.int .i64 e] W fun r w' => r = .returned (.int .i64 g) ∧ w' = W
  k1 : ∀ W, Calls Try.prog 11 #[.int .i64 d, .int .i64 x] W fun r w' => r = .returned (.int .i64 k) ∧ w' = W
  k2 : ∀ W, Calls Try.prog 11 #[.int .i64 e, .int .i64 x] W fun r w' => r = .returned (.int .i64 k) ∧ w' = W
  s1 : ∀ W, Calls Try.prog 13 #[.int .i64 d, .int .i64 x, .int .i64 y] W fun r w' => r = .returned (.int .i64 s) ∧ w' = W
  s2 : ∀ W, Calls Try.prog 13 #[.int .i64 e, .int .i64 x, .int .i64 y] W fun r w' => r = .returned (.int .i64 s) ∧ w' = W
  n1 : ∀ W, Calls Try.prog 15 #[.int .i64 d, .int .i64 x, .int .i64 y] W fun r w' => r = .returned (.int .i64 n) ∧ w' = W
  n2 : ∀ W, Calls Try.prog 15 #[.int .i64 e, .int .i64 x, .int .i64 y] W fun r w' => r = .returned (.int .i64 n) ∧ w' = W

theorem twins (d e x y : Int) (hd : In d) (hx : In x) (he : e = -1 - d) : Twins d e x y (size d) (below d x) (spread d x y) (between d x y) := by
  have hi : In e := by unfold In at *; omega
  subst he
  refine ⟨fun W => size_any d hd W, fun W => ?_, fun W => below_any d x hd hx.2 W, fun W => ?_, fun W => spread_any d x y hd W, fun W => ?_, fun W => between_any d x y hd W, fun W => ?_⟩
  · have h := size_any (-1 - d) hi W
    rw [size_twin] at h
    exact h
  · have h := below_any (-1 - d) x hi hx.2 W
    rw [below_twin] at h
    exact h
  · have h := spread_any (-1 - d) x y hi W
    rw [spread_twin] at h
    exact h
  · have h := between_any (-1 - d) x y hi W
    rw [between_twin] at h
    exact h

theorem neg_twin (d : Int) (hd : In d) : wrap64 (-wrap64 (d + 1)) = -1 - d := by
  unfold In at hd
  simp only [wrap64]
  omega

set_option maxHeartbeats 4000000 in
set_option maxRecDepth 100000 in
theorem sizes_walk (d x y z : Int) (hd : In d) (hx : In x) (w : World) :
    Calls Try.prog 6 #[.int .i64 d, .agg #[.int .i64 x, .int .i64 y, .int .i64 z]] w fun e w' => e = .returned (.bool true) ∧ Below w.heap.size w w' := by
  have g0 := size_lo d
  have f1 : decide (size d < 0) = false := decide_eq_false (by omega)
  have P1 : ∀ W, Calls Try.prog 13 #[.int .i64 d, .int .i64 x, .int .i64 0] W fun r w' => r = .returned (.int .i64 (cut x)) ∧ w' = W := fun W => by
    have h := spread_any d x 0 hd W
    rw [spread_none] at h
    exact h
  have P2 : ∀ W, Calls Try.prog 15 #[.int .i64 d, .int .i64 x, .int .i64 x] W fun r w' => r = .returned (.int .i64 (cut x)) ∧ w' = W := fun W => by
    have h := between_any d x x hd W
    rw [between_none] at h
    exact h
  have P3 : ∀ W, Calls Try.prog 17 #[.int .i64 d, .int .i64 0, .int .i64 x, .int .i64 0] W fun r w' => r = .returned (.int .i64 (cut x)) ∧ w' = W := fun W => by
    have h := life_any d 0 x 0 hd W
    rw [life_none] at h
    exact h
  have P4 := fun W => rcut_any x W
  have T : ∀ e, e = -1 - d → Twins d e x y (size d) (below d x) (spread d x y) (between d x y) := fun e he => twins d e x y hd hx he
  have HE : Hid (wrap64 (-wrap64 (d + 1)) = -1 - d) := neg_twin d hd
  clear hd hx
  generalize size d = g at *
  generalize below d x = k at *
  generalize spread d x y = s at *
  generalize between d x y = n at *
  generalize cut x = c at *
  go_enter Try.func6, Try.ntmps6
  go_wp2_with fail
  refine (lives_any _).mono ?_
  rintro e w' ⟨rfl, rfl⟩
  obtain ⟨w1, hw1⟩ : ∃ w1, w1 = w.alloc (.cells #[.int .i64 x, .int .i64 y, .int .i64 z] 22) := ⟨_, rfl⟩
  have B : Hid (Below w.heap.size w w1) := by rw [hw1]; exact (Below.refl _ w).alloc (Nat.le_refl _) _
  have c0 : w1.cell? ⟨w.heap.size, 0, none⟩ = some (.int .i64 x) := by rw [hw1]; simp [go_sem]
  have c1 : w1.cell? ⟨w.heap.size, 1, none⟩ = some (.int .i64 y) := by rw [hw1]; simp [go_sem]
  have c2 : w1.cell? ⟨w.heap.size, 2, none⟩ = some (.int .i64 z) := by rw [hw1]; simp [go_sem]
  rw [← hw1]
  clear hw1
  have T := T (wrap64 (-wrap64 (d + 1))) HE.out
  clear HE
  go_wp2
  generalize wrap64 (-wrap64 (d + 1)) = e at *
  go_quiet (first
    | (go_at_call_of 9 (Value.int IntKind.i64 d); exact Calls.quiet_of_same (T.g1 _))
    | (go_at_call_of 9 (Value.int IntKind.i64 e); exact Calls.quiet_of_same (T.g2 _))
    | (go_at_call_of 11 (Value.int IntKind.i64 d); exact Calls.quiet_of_same (T.k1 _))
    | (go_at_call_of 11 (Value.int IntKind.i64 e); exact Calls.quiet_of_same (T.k2 _))
    | (go_at_call_of 13 (Value.int IntKind.i64 d); exact Calls.quiet_of_same (T.s1 _))
    | (go_at_call_of 13 (Value.int IntKind.i64 e); exact Calls.quiet_of_same (T.s2 _))
    | (go_at_call_of 15 (Value.int IntKind.i64 d); exact Calls.quiet_of_same (T.n1 _))
    | (go_at_call_of 15 (Value.int IntKind.i64 e); exact Calls.quiet_of_same (T.n2 _)))
  clear T
  go_wp2
  go_quiet (first
    | (go_at_call 13; exact Calls.quiet_of_same (P1 _))
    | (go_at_call 15; exact Calls.quiet_of_same (P2 _))
    | (go_at_call 17; exact Calls.quiet_of_same (P3 _))
    | (go_at_call 19; exact Calls.quiet_of_same (P4 _))
    | (go_at_call 13; exact quiet2_same (P1 _))
    | (go_at_call 15; exact quiet2_same (P2 _))
    | (go_at_call 17; exact quiet2_same (P3 _))
    | (go_at_call 19; exact quiet2_same (P4 _)))
  go_wp2
  go_ret
  exact ⟨rfl, ⟨B.out.os, B.out.tape, B.out.output, B.out.size, B.out.block⟩⟩

end Go.Proofs.Ytihbbkacnmnmhaa
