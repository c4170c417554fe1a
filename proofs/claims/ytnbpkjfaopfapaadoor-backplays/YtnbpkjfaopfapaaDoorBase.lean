/-
  What sat.Cut, Add and Past do, each as a contract: they return their number and leave the world as it was. Conditions: none.
-/
import Derived.Test.YtnbpkjfaopfapaaDoorRows
import Derived.WalkKit
import Derived.ProofKit
import Derived.OpenShut
import Derived.BigQuiet
import Derived.WalkLawsBesides
import Derived.WalkSpells
import Derived.Deep.QuietTactic
namespace Go.Proofs.YtnbpkjfaopfapaaDoor
open Go.ChangeShapes Go.WideShapes Go.ChangeAt Go.RowKit

theorem Hid.mk' {p : Prop} (h : p) : Hid p := h
theorem own : ownKnob Tryd.prog.godebug = none := by kernel_rfl
theorem laidOut : laidOutB Tryd.prog = true := by kernel_rfl
theorem ret_int {k : IntKind} {a b : Int} (h : a = b) : Ending.returned (.int k a) = .returned (.int k b) := by rw [h]
theorem ret_bool {a b : Bool} (h : a = b) : Ending.returned (.bool a) = .returned (.bool b) := by rw [h]

def cut (n : Int) : Int := if n < 0 then 0 else if 1099511627776 < n then 1099511627776 else n
def add (a b : Int) : Int := cut (cut a + cut b)
def past (now d : Int) : Bool := decide (cut d ≤ cut now)

theorem cut_lo (n : Int) : 0 ≤ cut n := by unfold cut; split <;> (try split) <;> omega
theorem cut_hi (n : Int) : cut n ≤ 1099511627776 := by unfold cut; split <;> (try split) <;> omega
theorem cut_neg {n : Int} (h : n < 0) : cut n = 0 := by unfold cut; rw [if_pos h]
theorem cut_big {n : Int} (h : 1099511627776 < n) : cut n = 1099511627776 := by unfold cut; rw [if_neg (by omega), if_pos h]
theorem cut_mid {n : Int} (h0 : 0 ≤ n) (h1 : n ≤ 1099511627776) : cut n = n := by unfold cut; rw [if_neg (by omega), if_neg (by omega)]
theorem cut_mono {a b : Int} (h : a ≤ b) : cut a ≤ cut b := by unfold cut; repeat' split <;> omega
theorem past_mono {a b d : Int} (h : a ≤ b) (hp : past a d = true) : past b d = true := by
  unfold past at *
  have := cut_mono h
  simp at *
  omega

theorem cut_any (n : Int) (w : World) :
    Calls Tryd.prog 43 #[.int .i64 n] w fun e w' => e = .returned (.int .i64 (cut n)) ∧ w' = w := by
  by_cases h0 : n < 0
  · go_enter Tryd.func43, Tryd.ntmps43
    go_wp2
    go_ret
    exact ⟨ret_int (cut_neg h0).symm, rfl⟩
  · by_cases h1 : 1099511627776 < n
    · go_enter Tryd.func43, Tryd.ntmps43
      go_wp2
      go_ret
      exact ⟨ret_int (cut_big h1).symm, rfl⟩
    · go_enter Tryd.func43, Tryd.ntmps43
      go_wp2
      go_ret
      exact ⟨ret_int (cut_mid (by omega) (by omega)).symm, rfl⟩

theorem add_any (a b : Int) (w : World) :
    Calls Tryd.prog 39 #[.int .i64 a, .int .i64 b] w fun e w' => e = .returned (.int .i64 (add a b)) ∧ w' = w := by
  have a1 := cut_lo a
  have a2 := cut_hi a
  have b1 := cut_lo b
  have b2 := cut_hi b
  go_enter Tryd.func39, Tryd.ntmps39
  go_wp2_with (go_at_call 43; refine (cut_any _ _).mono ?_; rintro e w' ⟨rfl, rfl⟩)
  go_ret
  exact ⟨rfl, rfl⟩

theorem past_any (now d : Int) (w : World) :
    Calls Tryd.prog 37 #[.int .i64 now, .int .i64 d] w fun e w' => e = .returned (.bool (past now d)) ∧ w' = w := by
  go_enter Tryd.func37, Tryd.ntmps37
  go_wp2_with (go_at_call 43; refine (cut_any _ _).mono ?_; rintro e w' ⟨rfl, rfl⟩)
  go_ret
  exact ⟨rfl, rfl⟩

end Go.Proofs.YtnbpkjfaopfapaaDoor
