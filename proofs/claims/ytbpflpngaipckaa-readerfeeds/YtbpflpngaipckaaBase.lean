/-
  What the small calls of package frame and of the document's own answers do, each as a contract: known, room, capped, check return their number and leave the world as it was. No conditions.
-/
import Derived.Test.YtbpflpngaipckaaRows
import Derived.Test.YtbpflpngaipckaaPure
import Derived.WalkKit
import Derived.ProofKit
import Derived.OpenShut
import Derived.WalkLawsBesides
import Derived.WalkSpells
import Derived.Deep.QuietTactic
import Derived.BigQuiet
namespace Go.Proofs.Ytbpflpngaipckaa
open Go.ChangeShapes Go.WideShapes Go.ChangeAt Go.RowKit

theorem ret_int {k : IntKind} {a b : Int} (h : a = b) : Ending.returned (.int k a) = .returned (.int k b) := by rw [h]
theorem ret_bool {a b : Bool} (h : a = b) : Ending.returned (.bool a) = .returned (.bool b) := by rw [h]

theorem known_any (k : Int) (w : World) :
    Calls Try.prog 35 #[.int .i64 k] w fun e w' => e = .returned (.bool (kn k)) ∧ w' = w := by
  by_cases h1 : 1 ≤ k
  · by_cases h2 : k ≤ 8
    · go_enter Try.func35, Try.ntmps35
      go_wp2
      go_ret
      exact ⟨ret_bool (kn_true h1 h2).symm, rfl⟩
    · have hb : decide (k ≤ 8) = false := by simpa using h2
      go_enter Try.func35, Try.ntmps35
      go_wp2
      go_ret
      exact ⟨ret_bool (kn_false (by omega)).symm, rfl⟩
  · have hb : decide (1 ≤ k) = false := by simpa using h1
    go_enter Try.func35, Try.ntmps35
    go_wp2
    go_ret
    exact ⟨ret_bool (kn_false (by omega)).symm, rfl⟩

theorem room_any (n : Int) (w : World) :
    Calls Try.prog 36 #[.int .i64 n] w fun e w' => e = .returned (.int .i64 (capd n)) ∧ w' = w := by
  by_cases h0 : n < 0
  · go_enter Try.func36, Try.ntmps36
    go_wp2
    go_ret
    exact ⟨ret_int (capd_neg h0).symm, rfl⟩
  · by_cases h1 : 1024 < n
    · go_enter Try.func36, Try.ntmps36
      go_wp2
      go_ret
      exact ⟨ret_int (capd_big h1).symm, rfl⟩
    · go_enter Try.func36, Try.ntmps36
      go_wp2
      go_ret
      exact ⟨ret_int (capd_mid (by omega) (by omega)).symm, rfl⟩

theorem capped_any (n : Int) (w : World) :
    Calls Try.prog 33 #[.int .i64 n] w fun e w' => e = .returned (.int .i64 (capd n)) ∧ w' = w := by
  by_cases h0 : n < 0
  · go_enter Try.func33, Try.ntmps33
    go_wp2
    go_ret
    exact ⟨ret_int (capd_neg h0).symm, rfl⟩
  · by_cases h1 : 1024 < n
    · go_enter Try.func33, Try.ntmps33
      go_wp2
      go_ret
      exact ⟨ret_int (capd_big h1).symm, rfl⟩
    · go_enter Try.func33, Try.ntmps33
      go_wp2
      go_ret
      exact ⟨ret_int (capd_mid (by omega) (by omega)).symm, rfl⟩

theorem check_any (k n c : Int) (w : World) :
    Calls Try.prog 32 #[.int .i64 k, .int .i64 n, .int .i64 c] w fun e w' => e = .returned (.int .i64 (chk k n c)) ∧ w' = w := by
  by_cases hk : 1 ≤ k ∧ k ≤ 8
  · have hkn := kn_true hk.1 hk.2
    by_cases hb : capd c < n
    · go_enter Try.func32, Try.ntmps32
      go_wp2_with (first
        | (go_at_call 35; refine (known_any _ _).mono ?_; rintro e w' ⟨rfl, rfl⟩)
        | (go_at_call 36; refine (room_any _ _).mono ?_; rintro e w' ⟨rfl, rfl⟩))
      go_ret
      exact ⟨ret_int (chk_big hk.1 hk.2 hb).symm, rfl⟩
    · go_enter Try.func32, Try.ntmps32
      go_wp2_with (first
        | (go_at_call 35; refine (known_any _ _).mono ?_; rintro e w' ⟨rfl, rfl⟩)
        | (go_at_call 36; refine (room_any _ _).mono ?_; rintro e w' ⟨rfl, rfl⟩))
      go_ret
      exact ⟨ret_int (chk_ok hk.1 hk.2 (by omega)).symm, rfl⟩
  · have hkn := kn_false hk
    have hc := chk_kind (n := n) (c := c) hk
    clear hk
    go_enter Try.func32, Try.ntmps32
    go_wp2_with (first
      | (go_at_call 35; refine (known_any _ _).mono ?_; rintro e w' ⟨rfl, rfl⟩))
    go_ret
    exact ⟨ret_int hc.symm, rfl⟩

end Go.Proofs.Ytbpflpngaipckaa
