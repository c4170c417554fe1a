/-
  DrawBounds's walk: what is spread, what is between two, what is below one, and a deadline are within their bounds. Conditions: a draw is an int, and so are the three numbers.
-/
import Derived.Test.YtihbbkacnmnmhaaStrs
namespace Go.Proofs.Ytihbbkacnmnmhaa
open Go.ChangeShapes Go.WideShapes Go.ChangeAt Go.RowKit

theorem spread_bd (d x y : Int) : cut (cut x - cut y) ≤ spread d x y ∧ spread d x y ≤ cut (cut x + cut y) := by
  have a1 := cut_lo x
  have a2 := cut_hi x
  have c1 := cut_lo y
  have c2 := cut_hi y
  have b1 := below_lo d (2 * cut y + 1)
  have b2 := below_hi (d := d) (n := 2 * cut y + 1) (by omega)
  have h1 := cut_cases (cut x - cut y)
  have h2 := cut_cases (cut x + cut y)
  have h3 := cut_cases (cut x - cut y + below d (2 * cut y + 1))
  have e : spread d x y = cut (cut x - cut y + below d (2 * cut y + 1)) := rfl
  omega

theorem between_bd (d x y : Int) : cut x ≤ between d x y ∧ between d x y ≤ max (cut x) (cut y) := by
  obtain ⟨b1, b2⟩ := below_gap d x y
  have e : between d x y = cut x + below d (cut y - cut x + 1) := rfl
  omega

theorem life_bd (d x y z : Int) : cut z ≤ life d z x y ∧ life d z x y ≤ cut (cut z + cut x + cut y) := by
  have a1 := cut_lo x
  have a2 := cut_hi x
  have c1 := cut_lo y
  have c2 := cut_hi y
  have d1 := cut_lo z
  have d2 := cut_hi z
  obtain ⟨s1, s2⟩ := spread_bd d x y
  have h0 := cut_lo (cut x - cut y)
  have h1 := cut_cases (cut x + cut y)
  have h2 := cut_cases (spread d x y)
  have h3 := cut_cases (cut z + cut (spread d x y))
  have h4 := cut_cases (cut z + cut x + cut y)
  have e : life d z x y = cut (cut z + cut (spread d x y)) := rfl
  omega

set_option maxHeartbeats 2000000 in
set_option maxRecDepth 100000 in
theorem bounds_walk (d x y z : Int) (hd : In d) (hz : In z) (w : World) :
    Calls Try.prog 4 #[.int .i64 d, .agg #[.int .i64 x, .int .i64 y, .int .i64 z]] w fun e w' => e = .returned (.bool true) ∧ Below w.heap.size w w' := by
  obtain ⟨z1, z2⟩ := hz
  have k1 := below_lo d z
  have k2 : 1 ≤ z → below d z < z := fun h => below_hi h
  have k3 : z < 1 → below d z = 0 := fun h => below_none h
  obtain ⟨s1, s2⟩ := spread_bd d x y
  obtain ⟨n1, n2⟩ := between_bd d x y
  obtain ⟨l1, l2⟩ := life_bd d x y z
  have b1 := cut_lo x
  have b2 := cut_hi x
  have j1 := cut_lo y
  have j2 := cut_hi y
  have t1 := cut_lo z
  have t2 := cut_hi z
  have g1 := size_lo d
  have C1 := fun W => rcut_any x W
  have C2 := fun W => rcut_any y W
  have C3 := fun W => rcut_any z W
  have C4 := fun W => rcut_any (cut x - cut y) W
  have C5 := fun W => rcut_any (cut x + cut y) W
  have C6 := fun W => rcut_any (cut z + cut x + cut y) W
  have D1 := fun W => spread_any d x y hd W
  have D2 := fun W => between_any d x y hd W
  have D3 := fun W => below_any d z hd z2 W
  have D4 := fun W => life_any d z x y hd W
  have D5 := fun W => size_any d hd W
  generalize cut (cut x - cut y) = lo at *
  generalize cut (cut x + cut y) = hi at *
  generalize cut (cut z + cut x + cut y) = top at *
  generalize cut x = b at *
  generalize cut y = j at *
  generalize cut z = now at *
  generalize spread d x y = s at *
  generalize between d x y = n at *
  generalize below d z = k at *
  generalize life d z x y = l at *
  generalize size d = g at *
  have F : Hid (lo ≤ s ∧ s ≤ hi ∧ b ≤ n ∧ n ≤ max b j ∧ 0 ≤ g) := ⟨s1, s2, n1, n2, g1⟩
  have K : Hid (0 ≤ k ∧ (1 ≤ z → k < z) ∧ (z < 1 → k = 0) ∧ now ≤ l ∧ l ≤ top) := ⟨k1, k2, k3, l1, l2⟩
  clear s1 s2 n1 n2 g1 k1 k2 k3 l1 l2 z1 z2
  go_enter Try.func4, Try.ntmps4
  go_wp2_with fail
  refine (lives_any _).mono ?_
  rintro e w' ⟨rfl, rfl⟩
  obtain ⟨w1, hw1⟩ : ∃ w1, w1 = w.alloc (.cells #[.int .i64 x, .int .i64 y, .int .i64 z] 22) := ⟨_, rfl⟩
  have B : Hid (Below w.heap.size w w1) := by rw [hw1]; exact (Below.refl _ w).alloc (Nat.le_refl _) _
  have c0 : w1.cell? ⟨w.heap.size, 0, none⟩ = some (.int .i64 x) := by rw [hw1]; simp [go_sem]
  have c1 : w1.cell? ⟨w.heap.size, 1, none⟩ = some (.int .i64 y) := by rw [hw1]; simp [go_sem]
  have c2 : w1.cell? ⟨w.heap.size, 2, none⟩ = some (.int .i64 z) := by rw [hw1]; simp [go_sem]
  rw [← hw1]
  clear hw1
  go_wp2
  go_quiet (first
    | (go_at_call 19; exact Calls.quiet_of_same (C1 _))
    | (go_at_call 19; exact Calls.quiet_of_same (C2 _)))
  clear C1 C2
  go_wp2_with fail
  refine (D1 _).mono ?_
  rintro e w' ⟨rfl, rfl⟩
  clear D1
  go_wp2_with fail
  refine (D2 _).mono ?_
  rintro e w' ⟨rfl, rfl⟩
  clear D2
  go_wp2_with fail
  refine (D3 _).mono ?_
  rintro e w' ⟨rfl, rfl⟩
  clear D3
  go_wp2_with fail
  refine (D4 _).mono ?_
  rintro e w' ⟨rfl, rfl⟩
  clear D4
  go_wp2_with fail
  refine (C3 _).mono ?_
  rintro e w' ⟨rfl, rfl⟩
  clear C3
  clear c0 c1
  go_wp2_with fail
  refine (C4 _).mono ?_
  rintro e w' ⟨rfl, rfl⟩
  clear C4
  have f1 : decide (s < lo) = false := decide_eq_false (by have := F.out; omega)
  have f2 : decide (hi < s) = false := decide_eq_false (by have := F.out; omega)
  go_wp2_with fail
  refine (C5 _).mono ?_
  rintro e w' ⟨rfl, rfl⟩
  clear C5
  clear f1
  have f3 : decide (n < b) = false := decide_eq_false (by have := F.out; omega)
  have f5 : decide (g < 0) = false := decide_eq_false (by have := F.out; omega)
  by_cases hbj : b < j
  · have f4 : decide (j < n) = false := decide_eq_false (by have := F.out; omega)
    have f6 : n ≤ j := by have := F.out; omega
    go_wp2_with fail
    refine (D5 _).mono ?_
    rintro e w' ⟨rfl, rfl⟩
    clear D5
    obtain ⟨K1, K2, K3, l1, l2⟩ := K.out
    go_wp2_with fail
    refine (C6 _).mono ?_
    rintro e w' ⟨rfl, rfl⟩
    clear C6 f3 f4 f5 f6
    by_cases h0 : z < 1
    · have k4 := K3 h0
      clear K2 K3
      go_wp2
      go_ret
      exact ⟨rfl, ⟨B.out.os, B.out.tape, B.out.output, B.out.size, B.out.block⟩⟩
    · have k4 := K2 (by omega)
      clear K2 K3
      go_wp2
      go_ret
      exact ⟨rfl, ⟨B.out.os, B.out.tape, B.out.output, B.out.size, B.out.block⟩⟩
  · have f4 : decide (b < n) = false := decide_eq_false (by have := F.out; omega)
    have f6 : n ≤ b := by have := F.out; omega
    go_wp2_with fail
    refine (D5 _).mono ?_
    rintro e w' ⟨rfl, rfl⟩
    clear D5
    obtain ⟨K1, K2, K3, l1, l2⟩ := K.out
    go_wp2_with fail
    refine (C6 _).mono ?_
    rintro e w' ⟨rfl, rfl⟩
    clear C6 f3 f4 f5 f6
    by_cases h0 : z < 1
    · have k4 := K3 h0
      clear K2 K3
      go_wp2
      go_ret
      exact ⟨rfl, ⟨B.out.os, B.out.tape, B.out.output, B.out.size, B.out.block⟩⟩
    · have k4 := K2 (by omega)
      clear K2 K3
      go_wp2
      go_ret
      exact ⟨rfl, ⟨B.out.os, B.out.tape, B.out.output, B.out.size, B.out.block⟩⟩

end Go.Proofs.Ytihbbkacnmnmhaa
