/-
  What the small calls do, each as a contract: Cut, Add and Sub of ticks, length, late (the program's and the document's), the document's span: they return their number and leave the world as it was. Conditions: the document's late: a tick and a span that are small.
-/
import Derived.Test.YtjnacpcdkkfdgaaRows
import Derived.Test.YtjnacpcdkkfdgaaPure
import Derived.WalkKit
import Derived.ProofKit
import Derived.OpenShut
import Derived.WalkLawsBesides
import Derived.WalkSpells
import Derived.Deep.QuietTactic
import Derived.BigQuiet
namespace Go.Proofs.Ytjnacpcdkkfdgaa
open Go.ChangeShapes Go.WideShapes Go.ChangeAt Go.RowKit

theorem ret_int {k : IntKind} {a b : Int} (h : a = b) : Ending.returned (.int k a) = .returned (.int k b) := by rw [h]
theorem ret_bool {a b : Bool} (h : a = b) : Ending.returned (.bool a) = .returned (.bool b) := by rw [h]

theorem quiet2_same {P : Program} {f : FuncId} {args : Array Value} {w : World} {n m : Nat} {v : Value}
    (h : Calls P f args (w.drewN (n + m)) fun e w' => e = .returned v ∧ w' = w.drewN (n + m)) : Calls P f args (w.drewN (n + m)) fun e w'' => e = .returned v ∧ ∃ k, w'' = w.drewN (n + k) :=
  h.mono fun _ _ ⟨he, hm⟩ => ⟨he, m, hm⟩
theorem quiet2_of {P : Program} {f : FuncId} {args : Array Value} {w : World} {n m : Nat} {v : Value}
    (h : Calls P f args (w.drewN (n + m)) fun e w' => e = .returned v ∧ ∃ q, w' = (w.drewN (n + m)).drewN q) : Calls P f args (w.drewN (n + m)) fun e w'' => e = .returned v ∧ ∃ k, w'' = w.drewN (n + k) :=
  h.mono fun _ _ ⟨he, q, hm⟩ => ⟨he, m + q, by rw [hm, World.drewN_drewN, Nat.add_assoc]⟩

theorem cut_any (n : Int) (w : World) :
    Calls Try.prog 27 #[.int .i64 n] w fun e w' => e = .returned (.int .i64 (cut n)) ∧ w' = w := by
  by_cases h0 : n < 0
  · go_enter Try.func27, Try.ntmps27
    go_wp2
    go_ret
    exact ⟨ret_int (cut_neg h0).symm, rfl⟩
  · by_cases h1 : 1099511627776 < n
    · go_enter Try.func27, Try.ntmps27
      go_wp2
      go_ret
      exact ⟨ret_int (cut_big h1).symm, rfl⟩
    · go_enter Try.func27, Try.ntmps27
      go_wp2
      go_ret
      exact ⟨ret_int (cut_mid (by omega) (by omega)).symm, rfl⟩

theorem rcut_any (n : Int) (w : World) :
    Calls Try.prog 26 #[.int .i64 n] w fun e w' => e = .returned (.int .i64 (cut n)) ∧ w' = w := by
  by_cases h0 : n < 0
  · go_enter Try.func26, Try.ntmps26
    go_wp2
    go_ret
    exact ⟨ret_int (cut_neg h0).symm, rfl⟩
  · by_cases h1 : 1099511627776 < n
    · go_enter Try.func26, Try.ntmps26
      go_wp2
      go_ret
      exact ⟨ret_int (cut_big h1).symm, rfl⟩
    · go_enter Try.func26, Try.ntmps26
      go_wp2
      go_ret
      exact ⟨ret_int (cut_mid (by omega) (by omega)).symm, rfl⟩

theorem radd_any (a b : Int) (w : World) :
    Calls Try.prog 23 #[.int .i64 a, .int .i64 b] w fun e w' => e = .returned (.int .i64 (addI a b)) ∧ w' = w := by
  have a1 := cut_lo a
  have a2 := cut_hi a
  have b1 := cut_lo b
  have b2 := cut_hi b
  go_enter Try.func23, Try.ntmps23
  go_wp2_with (go_at_call 26; refine (rcut_any _ _).mono ?_; rintro e w' ⟨rfl, rfl⟩)
  go_ret
  exact ⟨rfl, rfl⟩

theorem sub_any (a b : Int) (w : World) :
    Calls Try.prog 32 #[.int .i64 a, .int .i64 b] w fun e w' => e = .returned (.int .i64 (subI a b)) ∧ w' = w := by
  have a1 := cut_lo a
  have a2 := cut_hi a
  have b1 := cut_lo b
  have b2 := cut_hi b
  go_enter Try.func32, Try.ntmps32
  go_wp2_with (go_at_call 27; refine (cut_any _ _).mono ?_; rintro e w' ⟨rfl, rfl⟩)
  go_ret
  exact ⟨rfl, rfl⟩

theorem late_any (x now s : Int) (w : World) :
    Calls Try.prog 31 #[.int .i64 x, .int .i64 now, .int .i64 s] w fun e w' => e = .returned (.bool (lateB x now s)) ∧ w' = w := by
  go_enter Try.func31, Try.ntmps31
  go_wp2_with (go_at_call 32; refine (sub_any _ _ _).mono ?_; rintro e w' ⟨rfl, rfl⟩)
  go_ret
  exact ⟨rfl, rfl⟩

theorem rlate_any (x s now : Int) (hx : Tk x) (hs : 1 ≤ s ∧ s ≤ 1048576) (w : World) :
    Calls Try.prog 28 #[.int .i64 x, .int .i64 s, .int .i64 now] w fun e w' => e = .returned (.bool (lateR x s now)) ∧ w' = w := by
  obtain ⟨x1, x2⟩ := hx
  obtain ⟨s1, s2⟩ := hs
  go_enter Try.func28, Try.ntmps28
  go_wp2
  go_ret
  exact ⟨rfl, rfl⟩

theorem length_any (n : Int) (w : World) :
    Calls Try.prog 24 #[.int .i64 n] w fun e w' => e = .returned (.int .i64 (spanI n)) ∧ w' = w := by
  rcases Int.lt_trichotomy n 1 with h | h | h
  · go_enter Try.func24, Try.ntmps24
    go_wp2
    go_ret
    exact ⟨ret_int (span_neg h).symm, rfl⟩
  · subst h
    go_enter Try.func24, Try.ntmps24
    go_wp2
    go_ret
    exact ⟨ret_int (span_mid (by omega) (by omega)).symm, rfl⟩
  · rcases Int.lt_trichotomy n 1048576 with h1 | h1 | h1
    · go_enter Try.func24, Try.ntmps24
      go_wp2
      go_ret
      exact ⟨ret_int (span_mid (by omega) (by omega)).symm, rfl⟩
    · subst h1
      go_enter Try.func24, Try.ntmps24
      go_wp2
      go_ret
      exact ⟨ret_int (span_mid (by omega) (by omega)).symm, rfl⟩
    · go_enter Try.func24, Try.ntmps24
      go_wp2
      go_ret
      exact ⟨ret_int (span_big h1).symm, rfl⟩

theorem rspan_any (n : Int) (w : World) :
    Calls Try.prog 25 #[.int .i64 n] w fun e w' => e = .returned (.int .i64 (spanI n)) ∧ w' = w := by
  rcases Int.lt_trichotomy n 1 with h | h | h
  · go_enter Try.func25, Try.ntmps25
    go_wp2
    go_ret
    exact ⟨ret_int (span_neg h).symm, rfl⟩
  · subst h
    go_enter Try.func25, Try.ntmps25
    go_wp2
    go_ret
    exact ⟨ret_int (span_mid (by omega) (by omega)).symm, rfl⟩
  · rcases Int.lt_trichotomy n 1048576 with h1 | h1 | h1
    · go_enter Try.func25, Try.ntmps25
      go_wp2
      go_ret
      exact ⟨ret_int (span_mid (by omega) (by omega)).symm, rfl⟩
    · subst h1
      go_enter Try.func25, Try.ntmps25
      go_wp2
      go_ret
      exact ⟨ret_int (span_mid (by omega) (by omega)).symm, rfl⟩
    · go_enter Try.func25, Try.ntmps25
      go_wp2
      go_ret
      exact ⟨ret_int (span_big h1).symm, rfl⟩

end Go.Proofs.Ytjnacpcdkkfdgaa
