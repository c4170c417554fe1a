/-
  DrawAll's walk: of the first draws each number within the bounds comes once, then again. Conditions: none (whatever two ints it is handed, it makes small ones of them).
-/
import Derived.Test.YtihbbkacnmnmhaaStrs
namespace Go.Proofs.Ytihbbkacnmnmhaa
open Go.ChangeShapes Go.WideShapes Go.ChangeAt Go.RowKit

theorem small_modA (x k : Int) (hk : 1 ≤ k) (hk2 : k ≤ 1000000) : 0 ≤ wrap64 ((IntKind.u64.wrap x).tmod k) ∧ wrap64 ((IntKind.u64.wrap x).tmod k) < k := by
  have h0 : 0 ≤ IntKind.u64.wrap x := by rw [IntKind.wrap_u64]; omega
  rw [Int.tmod_eq_emod_of_nonneg h0]
  have h1 := Int.emod_nonneg (IntKind.u64.wrap x) (show k ≠ 0 by omega)
  have h2 := Int.emod_lt_of_pos (IntKind.u64.wrap x) (show 0 < k by omega)
  unfold wrap64
  omega

theorem below_pos {d n : Int} (h0 : 0 ≤ d) (hn : 1 ≤ n) : below d n = d % n := by
  rw [below_some (by omega), size_pos (by omega)]
theorem spread_pos {d B J : Int} (h0 : 0 ≤ d) (hB : 40 ≤ B) (hB2 : B ≤ 139) (hJ : 0 ≤ J) (hJ2 : J ≤ 39) : spread d B J = B - J + d % (2 * J + 1) := by
  have h1 := Int.emod_nonneg d (show 2 * J + 1 ≠ 0 by omega)
  have h2 := Int.emod_lt_of_pos d (show 0 < 2 * J + 1 by omega)
  unfold spread
  rw [cut_mid (n := B) (by omega) (by omega), cut_mid (n := J) (by omega) (by omega), below_pos h0 (by omega), cut_mid (by omega) (by omega)]
theorem spread_neg {d B J : Int} (h0 : 0 ≤ d) (hB : 40 ≤ B) (hB2 : B ≤ 139) (hJ : 0 ≤ J) (hJ2 : J ≤ 39) : spread (-d - 1) B J = B - J + d % (2 * J + 1) := by
  rw [← spread_pos h0 hB hB2 hJ hJ2, show -d - 1 = -1 - d by omega]
  unfold spread
  rw [below_twin]
theorem between_pos {d B n : Int} (h0 : 0 ≤ d) (hB : 40 ≤ B) (hB2 : B ≤ 139) (hn : 1 ≤ n) (hn2 : n ≤ 79) : between d B (B + n - 1) = B + d % n := by
  unfold between
  rw [cut_mid (n := B) (by omega) (by omega), cut_mid (n := B + n - 1) (by omega) (by omega), show B + n - 1 - B + 1 = n by omega, below_pos h0 hn]
theorem spread_flat {d B : Int} (hB : 40 ≤ B) (hB2 : B ≤ 139) : spread d B 0 = B := by
  unfold spread
  rw [cut_mid (n := B) (by omega) (by omega), show cut 0 = 0 by decide, show (2 * 0 + 1 : Int) = 1 from rfl, below_some (by omega), Int.emod_one, cut_mid (by omega) (by omega)]
  omega

set_option maxHeartbeats 2000000 in
set_option maxRecDepth 100000 in
theorem all_walk (x y : Int) (w : World) :
    Calls Try.prog 5 #[.int .i64 x, .int .i64 y] w fun e w' => e = .returned (.bool true) ∧ Below w.heap.size w w' := by
  go_enter Try.func5, Try.ntmps5
  go_wp2_with fail
  refine (lives_any _).mono ?_
  rintro e w' ⟨rfl, rfl⟩
  go_wp2
  have x0 := small_modA x 100 (by omega) (by omega)
  have y0 := small_modA y 40 (by omega) (by omega)
  generalize wrap64 ((IntKind.u64.wrap x).tmod 100) = X at *
  generalize wrap64 ((IntKind.u64.wrap y).tmod 40) = J at *
  have hB : wrap64 (40 + X) = 40 + X := by unfold wrap64; omega
  have hN : wrap64 (wrap64 (2 * J) + 1) = 2 * J + 1 := by unfold wrap64; omega
  have hJ : wrap64 (2 * J) = 2 * J := by unfold wrap64; omega
  rw [hB, hN, hJ]
  clear hB hN hJ
  obtain ⟨B, hB⟩ : ∃ B, B = 40 + X := ⟨_, rfl⟩
  obtain ⟨N, hN⟩ : ∃ N, N = 2 * J + 1 := ⟨_, rfl⟩
  rw [← hB, ← hN]
  have b1 : 40 ≤ B := by omega
  have b2 : B ≤ 139 := by omega
  have j1 : 0 ≤ J := by omega
  have j2 : J ≤ 39 := by omega
  have n1 : 1 ≤ N := by omega
  have n2 : N ≤ 79 := by omega
  have HN : Hid (N = 2 * J + 1) := hN
  clear hB hN x0 y0
  go_loopw [6] (fun i wr => ∃ (k : Int), 0 ≤ k ∧ k ≤ 2 * N ∧ i = .int .i64 k ∧ Below w'.heap.size w' wr) (fun i _ => (2 * N - intOf i).toNat)
  case atStart => exact ⟨0, by omega, by omega, rfl, Below.refl _ _⟩
  case round =>
    obtain ⟨k, k1, k2, rfl, hb⟩ := hrel
    have HB : Hid (Below w'.heap.size w' wr) := hb
    clear hb
    by_cases hlt : k < 2 * N
    · have I : ∀ x, -1000 ≤ x → x ≤ 1000 → In x := fun x h1 h2 => by unfold In; omega
      have r0 := Int.emod_nonneg k (show N ≠ 0 by omega)
      have r1 := Int.emod_lt_of_pos k (show 0 < N by omega)
      have S1 := fun W => spread_any k B J (I _ (by omega) (by omega)) W
      have S2 := fun W => spread_any (-k - 1) B J (I _ (by omega) (by omega)) W
      have S3 := fun W => between_any k B (B + N - 1) (I _ (by omega) (by omega)) W
      rw [spread_pos k1 b1 b2 j1 j2, ← HN.out] at S1
      rw [spread_neg k1 b1 b2 j1 j2, ← HN.out] at S2
      rw [between_pos k1 b1 b2 n1 n2] at S3
      clear I
      go_wp2
      go_quiet (first
        | (go_at_call_of 13 (Value.int IntKind.i64 k); exact Calls.quiet_of_same (S1 _))
        | (go_at_call 13; exact Calls.quiet_of_same (S2 _))
        | (go_at_call 15; exact Calls.quiet_of_same (S3 _)))
      clear S1 S2 S3
      go_wp2
      go_round
      case rel => exact ⟨k + 1, by omega, by omega, rfl, ⟨HB.out.os, HB.out.tape, HB.out.output, HB.out.size, HB.out.block⟩⟩
      case measure => simp [intOf]; omega
    · have S4 := fun W => spread_any N B 0 (by unfold In; omega) W
      rw [spread_flat b1 b2] at S4
      go_wp2_with ((go_at_call 13; refine (S4 _).mono ?_; rintro e w2 ⟨rfl, rfl⟩))
      go_ret
      exact ⟨rfl, HB.out⟩

end Go.Proofs.Ytihbbkacnmnmhaa
