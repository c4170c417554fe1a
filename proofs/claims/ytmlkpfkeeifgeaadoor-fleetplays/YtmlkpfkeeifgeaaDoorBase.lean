/-
  What the calls of package sat and of the document's own answers do that the queue uses, each as a contract: Cut, Add, Past return the saturated number and leave the world as it was. No conditions.
-/
import Derived.Test.YtmlkpfkeeifgeaaDoorName
namespace Go.Proofs.YtmlkpfkeeifgeaaDoor
open Go.ChangeShapes Go.WideShapes Go.ChangeAt Go.RowKit

def cut (n : Int) : Int := if n < 0 then 0 else if 1099511627776 < n then 1099511627776 else n
def past (a b : Int) : Bool := decide (cut b ≤ cut a)

theorem cut_lo (n : Int) : 0 ≤ cut n := by unfold cut; split <;> (try split) <;> omega
theorem cut_hi (n : Int) : cut n ≤ 1099511627776 := by unfold cut; split <;> (try split) <;> omega
theorem cut_neg {n : Int} (h : n < 0) : cut n = 0 := by unfold cut; rw [if_pos h]
theorem cut_big {n : Int} (h : 1099511627776 < n) : cut n = 1099511627776 := by unfold cut; rw [if_neg (by omega), if_pos h]
theorem cut_mid {n : Int} (h0 : 0 ≤ n) (h1 : n ≤ 1099511627776) : cut n = n := by unfold cut; rw [if_neg (by omega), if_neg (by omega)]
theorem cut_cut (n : Int) : cut (cut n) = cut n := cut_mid (cut_lo n) (cut_hi n)

theorem cut_any (n : Int) (w : World) :
    Calls Tryd.prog 89 #[.int .i64 n] w fun e w' => e = .returned (.int .i64 (cut n)) ∧ w' = w := by
  by_cases h0 : n < 0
  · go_enter Tryd.func89, Tryd.ntmps89
    go_wp2
    go_ret
    exact ⟨ret_int (cut_neg h0).symm, rfl⟩
  · by_cases h1 : 1099511627776 < n
    · go_enter Tryd.func89, Tryd.ntmps89
      go_wp2
      go_ret
      exact ⟨ret_int (cut_big h1).symm, rfl⟩
    · go_enter Tryd.func89, Tryd.ntmps89
      go_wp2
      go_ret
      exact ⟨ret_int (cut_mid (by omega) (by omega)).symm, rfl⟩

theorem rcut_any (n : Int) (w : World) :
    Calls Tryd.prog 97 #[.int .i64 n] w fun e w' => e = .returned (.int .i64 (cut n)) ∧ w' = w := by
  by_cases h0 : n < 0
  · go_enter Tryd.func97, Tryd.ntmps97
    go_wp2
    go_ret
    exact ⟨ret_int (cut_neg h0).symm, rfl⟩
  · by_cases h1 : 1099511627776 < n
    · go_enter Tryd.func97, Tryd.ntmps97
      go_wp2
      go_ret
      exact ⟨ret_int (cut_big h1).symm, rfl⟩
    · go_enter Tryd.func97, Tryd.ntmps97
      go_wp2
      go_ret
      exact ⟨ret_int (cut_mid (by omega) (by omega)).symm, rfl⟩

theorem past_any (a b : Int) (w : World) :
    Calls Tryd.prog 90 #[.int .i64 a, .int .i64 b] w fun e w' => e = .returned (.bool (past a b)) ∧ w' = w := by
  go_enter Tryd.func90, Tryd.ntmps90
  go_wp2_with (go_at_call 89; refine (cut_any _ _).mono ?_; rintro e w' ⟨rfl, rfl⟩)
  go_ret
  exact ⟨rfl, rfl⟩

theorem rpast_any (a b : Int) (w : World) :
    Calls Tryd.prog 77 #[.int .i64 a, .int .i64 b] w fun e w' => e = .returned (.bool (past a b)) ∧ w' = w := by
  go_enter Tryd.func77, Tryd.ntmps77
  go_wp2_with (go_at_call 97; refine (rcut_any _ _).mono ?_; rintro e w' ⟨rfl, rfl⟩)
  go_ret
  exact ⟨rfl, rfl⟩

end Go.Proofs.YtmlkpfkeeifgeaaDoor
