/-
  Spans that are cut and waits that are doubled, in plain mathematics: bounds, that they do not fall, that they are at most twice the one ahead, and that they stay at the top. No conditions beside those that each line says.
-/
import Derived.Test.YtcofkaackpecjaaBase
namespace Go.Proofs.Ytcofkaackpecjaa

def spanI (n : Int) : Int := if n < 1 then 1 else if 1048576 < n then 1048576 else n
theorem span_lo (n : Int) : 1 ≤ spanI n := by unfold spanI; split <;> (try split) <;> omega
theorem span_hi (n : Int) : spanI n ≤ 1048576 := by unfold spanI; split <;> (try split) <;> omega
theorem span_mid {n : Int} (h0 : 1 ≤ n) (h1 : n ≤ 1048576) : spanI n = n := by unfold spanI; rw [if_neg (by omega), if_neg (by omega)]
theorem span_span (n : Int) : spanI (spanI n) = spanI n := span_mid (span_lo n) (span_hi n)

/-- Doubled so often, cut at the top. -/
def dbl (n : Int) : Nat → Int
  | 0 => n
  | k + 1 => if 1048576 < 2 * dbl n k then 1048576 else 2 * dbl n k
theorem dbl_succ (n : Int) (k : Nat) : dbl n (k + 1) = if 1048576 < 2 * dbl n k then 1048576 else 2 * dbl n k := rfl
theorem dbl_bd {n : Int} (h1 : 1 ≤ n) (h2 : n ≤ 1048576) : ∀ k, 1 ≤ dbl n k ∧ dbl n k ≤ 1048576
  | 0 => ⟨h1, h2⟩
  | k + 1 => by
    have := dbl_bd h1 h2 k
    rw [dbl_succ]
    split <;> omega
theorem dbl_up {n : Int} (h1 : 1 ≤ n) (h2 : n ≤ 1048576) (k : Nat) : dbl n k ≤ dbl n (k + 1) ∧ dbl n (k + 1) ≤ 2 * dbl n k := by
  have := dbl_bd h1 h2 k
  rw [dbl_succ]
  split <;> omega
theorem dbl_top {n : Int} {k : Nat} (h : dbl n k = 1048576) : ∀ j, dbl n (k + j) = 1048576
  | 0 => h
  | j + 1 => by
    have := dbl_top h j
    rw [← Nat.add_assoc, dbl_succ, this]
    rfl
theorem dbl_pow {n : Int} (h1 : 1 ≤ n) : ∀ k, dbl n k = 1048576 ∨ (2 : Int) ^ k ≤ dbl n k
  | 0 => .inr (by show (2 : Int) ^ 0 ≤ n; simpa using h1)
  | k + 1 => by
    rw [dbl_succ]
    split
    · exact .inl rfl
    · rcases dbl_pow h1 k with h | h
      · left; omega
      · right
        rw [Int.pow_succ]
        omega
theorem dbl_far {n : Int} (h1 : 1 ≤ n) (h2 : n ≤ 1048576) {k : Nat} (hk : 20 ≤ k) : dbl n k = 1048576 := by
  have h20 : dbl n 20 = 1048576 := by
    rcases dbl_pow h1 20 with h | h
    · exact h
    · have := (dbl_bd h1 h2 20).2
      have e : (2 : Int) ^ 20 = 1048576 := by decide
      omega
  obtain ⟨j, rfl⟩ : ∃ j, k = 20 + j := ⟨k - 20, by omega⟩
  exact dbl_top h20 j

/-- The wait behind so many fails. -/
def waitI (base f : Int) : Int := if f < 1 then 0 else dbl (spanI base) (f - 1).toNat
theorem wait_none {base f : Int} (h : f < 1) : waitI base f = 0 := by unfold waitI; rw [if_pos h]
theorem wait_some {base : Int} (k : Nat) : waitI base (k + 1) = dbl (spanI base) k := by
  unfold waitI
  rw [if_neg (by omega)]
  congr 1
  omega
theorem wait_nth {base f : Int} (h : 1 ≤ f) : ∃ k : Nat, f = k + 1 ∧ waitI base f = dbl (spanI base) k := by
  obtain ⟨k, rfl⟩ : ∃ k : Nat, f = k + 1 := ⟨(f - 1).toNat, by omega⟩
  exact ⟨k, rfl, wait_some k⟩
theorem wait_bd (base f : Int) : 0 ≤ waitI base f ∧ waitI base f ≤ 1048576 := by
  by_cases h : f < 1
  · rw [wait_none h]; omega
  · obtain ⟨k, rfl, e⟩ := wait_nth (base := base) (show 1 ≤ f by omega)
    have := dbl_bd (span_lo base) (span_hi base) k
    omega
theorem wait_span (base f : Int) : waitI (spanI base) f = waitI base f := by unfold waitI; rw [span_span]
theorem wait_far {base f : Int} (h : 21 ≤ f) : waitI base f = 1048576 := by
  obtain ⟨k, rfl, e⟩ := wait_nth (base := base) (show 1 ≤ f by omega)
  rw [e]
  exact dbl_far (span_lo base) (span_hi base) (by omega)

end Go.Proofs.Ytcofkaackpecjaa
