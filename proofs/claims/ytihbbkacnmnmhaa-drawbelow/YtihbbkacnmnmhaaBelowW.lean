/-
  DrawBelow's walk: of the draws 0, 1, 2, .. the numbers below one are 0, 1, 2, .., then again. Conditions: none (whatever two ints it is handed, it makes small ones of them).
-/
import Derived.Test.YtihbbkacnmnmhaaStrs
namespace Go.Proofs.Ytihbbkacnmnmhaa
open Go.ChangeShapes Go.WideShapes Go.ChangeAt Go.RowKit

theorem below_small {d n : Int} (h0 : 0 ≤ d) (hn : 1 ≤ n) : below d n = d % n := by
  rw [below_some (by omega), size_pos (by omega)]

theorem emod_next {d n : Int} (hn : 1 ≤ n) : (d % n + 1 < n ∧ (d + 1) % n = d % n + 1) ∨ (d % n = n - 1 ∧ (d + 1) % n = 0) := by
  have h0 := Int.emod_nonneg d (show n ≠ 0 by omega)
  have h1 := Int.emod_lt_of_pos d (show 0 < n by omega)
  by_cases h : d % n + 1 < n
  · refine Or.inl ⟨h, ?_⟩
    rw [Int.add_emod, Int.emod_eq_of_lt (a := 1) (by omega) (by omega), Int.emod_eq_of_lt (by omega) h]
  · refine Or.inr ⟨by omega, ?_⟩
    have e : d % n = n - 1 := by omega
    have q := Int.emod_add_mul_ediv d n
    have : d + 1 = n * (d / n + 1) := by rw [Int.mul_add]; omega
    rw [this, Int.mul_emod_right]

theorem below_next {d n : Int} (h0 : 0 ≤ d) (hn : 1 ≤ n) : (below d n + 1 < n ∧ below (d + 1) n = below d n + 1) ∨ (below d n = n - 1 ∧ below (d + 1) n = 0) := by
  rw [below_small h0 hn, below_small (by omega) hn]
  exact emod_next hn
theorem below_round {d n : Int} (h0 : 0 ≤ d) (hn : 1 ≤ n) : below (d + n) n = below d n := by
  rw [below_small h0 hn, below_small (by omega) hn, Int.add_emod_right]
theorem below_last {n : Int} (hn : 1 ≤ n) : below (n - 1) n = n - 1 := by
  rw [below_small (by omega) hn, Int.emod_eq_of_lt (by omega) (by omega)]

theorem small_mod (x k : Int) (hk : 1 ≤ k) (hk2 : k ≤ 1000000) : 0 ≤ wrap64 ((IntKind.u64.wrap x).tmod k) ∧ wrap64 ((IntKind.u64.wrap x).tmod k) < k := by
  have h0 : 0 ≤ IntKind.u64.wrap x := by rw [IntKind.wrap_u64]; omega
  rw [Int.tmod_eq_emod_of_nonneg h0]
  have h1 := Int.emod_nonneg (IntKind.u64.wrap x) (show k ≠ 0 by omega)
  have h2 := Int.emod_lt_of_pos (IntKind.u64.wrap x) (show 0 < k by omega)
  unfold wrap64
  omega

set_option maxHeartbeats 2000000 in
set_option maxRecDepth 100000 in
theorem below_walk (d n : Int) (w : World) :
    Calls Try.prog 7 #[.int .i64 d, .int .i64 n] w fun e w' => e = .returned (.bool true) ∧ Below w.heap.size w w' := by
  go_enter Try.func7, Try.ntmps7
  go_wp2_with fail
  refine (lives_any _).mono ?_
  rintro e w' ⟨rfl, rfl⟩
  go_wp2_with fail
  have d0 := small_mod d 1000000 (by omega) (by omega)
  have n0 := small_mod n 50 (by omega) (by omega)
  generalize wrap64 ((IntKind.u64.wrap d).tmod 1000000) = D at *
  generalize wrap64 ((IntKind.u64.wrap n).tmod 50) = m at *
  have hM : wrap64 (1 + m) = 1 + m := by unfold wrap64; omega
  rw [hM]
  clear hM
  obtain ⟨M, hM⟩ : ∃ M, M = 1 + m := ⟨_, rfl⟩
  rw [← hM]
  have n1 : 1 ≤ M := by omega
  have n2 : M ≤ 50 := by omega
  have d1 : 0 ≤ D := by omega
  have d2 : D < 1000000 := by omega
  clear n0 d0 hM
  have I : ∀ x, 0 ≤ x → x ≤ 2000000 → In x := fun x h1 h2 => by unfold In; omega
  have K1 := fun W => below_any D M (I _ (by omega) (by omega)) (by omega) W
  have K2 := fun W => below_any (D + 1) M (I _ (by omega) (by omega)) (by omega) W
  have K3 := fun W => below_any (D + M) M (I _ (by omega) (by omega)) (by omega) W
  have K4 := fun W => below_any (M - 1) M (I _ (by omega) (by omega)) (by omega) W
  have K5 := fun W => below_any D 1 (I _ (by omega) (by omega)) (by omega) W
  have K6 := fun W => below_any D 0 (I _ (by omega) (by omega)) (by omega) W
  have b0 := below_lo D M
  have b1 := below_hi (d := D) n1
  have nx := below_next d1 n1
  rw [below_round d1 n1] at K3
  rw [below_last n1] at K4
  rw [show below D 1 = 0 by rw [below_some (by omega)]; omega] at K5
  rw [below_none (by omega)] at K6
  clear I
  generalize below D M = k at *
  generalize below (D + 1) M = nxt at *
  refine (K1 _).mono ?_
  rintro e w' ⟨rfl, rfl⟩
  clear K1
  rcases nx with ⟨h1, rfl⟩ | ⟨rfl, rfl⟩
  · have e1 : (k + 1 == k + 1) = true := by simp
    go_wp2_with fail
    refine (K2 _).mono ?_
    rintro e w' ⟨rfl, rfl⟩
    clear K2
    go_wp2_with fail
    refine (K3 _).mono ?_
    rintro e w' ⟨rfl, rfl⟩
    clear K3
    go_wp2_with fail
    refine (K4 _).mono ?_
    rintro e w' ⟨rfl, rfl⟩
    clear K4
    go_wp2_with fail
    refine (K5 _).mono ?_
    rintro e w' ⟨rfl, rfl⟩
    clear K5
    go_wp2_with fail
    refine (K6 _).mono ?_
    rintro e w' ⟨rfl, rfl⟩
    clear K6
    go_wp2
    go_ret
    exact ⟨rfl, Below.refl _ _⟩
  · have e1 : ((0 : Int) == M - 1 + 1) = false := by simp; omega
    go_wp2_with fail
    refine (K2 _).mono ?_
    rintro e w' ⟨rfl, rfl⟩
    clear K2
    go_wp2_with fail
    refine (K3 _).mono ?_
    rintro e w' ⟨rfl, rfl⟩
    clear K3
    go_wp2_with fail
    refine (K4 _).mono ?_
    rintro e w' ⟨rfl, rfl⟩
    clear K4
    go_wp2_with fail
    refine (K5 _).mono ?_
    rintro e w' ⟨rfl, rfl⟩
    clear K5
    go_wp2_with fail
    refine (K6 _).mono ?_
    rintro e w' ⟨rfl, rfl⟩
    clear K6
    go_wp2
    go_ret
    exact ⟨rfl, Below.refl _ _⟩

end Go.Proofs.Ytihbbkacnmnmhaa
