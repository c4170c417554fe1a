/-
  What the calls of package sat and of the document's own answers do, each as a contract: Cut, Add, Sub, Past, Left return the saturated number and leave the world as it was; New makes one new block; Now and Go of nil return 0. No conditions.
-/
import Derived.Test.YtjpfgjjohaepcaaRows
import Derived.WalkKit
import Derived.ProofKit
import Derived.OpenShut
namespace Go.Proofs.Ytjpfgjjohaepcaa
open Go.ChangeShapes Go.WideShapes Go.ChangeAt Go.RowKit

theorem ret_int {k : IntKind} {a b : Int} (h : a = b) : Ending.returned (.int k a) = .returned (.int k b) := by rw [h]
theorem ret_bool {a b : Bool} (h : a = b) : Ending.returned (.bool a) = .returned (.bool b) := by rw [h]

def cut (n : Int) : Int := if n < 0 then 0 else if 1099511627776 < n then 1099511627776 else n
def add (a b : Int) : Int := cut (cut a + cut b)
def sub (a b : Int) : Int := cut (cut a - cut b)
def past (a b : Int) : Bool := decide (cut b ≤ cut a)

theorem cut_lo (n : Int) : 0 ≤ cut n := by unfold cut; split <;> (try split) <;> omega
theorem cut_hi (n : Int) : cut n ≤ 1099511627776 := by unfold cut; split <;> (try split) <;> omega

theorem cut_neg {n : Int} (h : n < 0) : cut n = 0 := by unfold cut; rw [if_pos h]
theorem cut_big {n : Int} (h : 1099511627776 < n) : cut n = 1099511627776 := by unfold cut; rw [if_neg (by omega), if_pos h]
theorem cut_mid {n : Int} (h0 : 0 ≤ n) (h1 : n ≤ 1099511627776) : cut n = n := by unfold cut; rw [if_neg (by omega), if_neg (by omega)]

theorem cut_any (n : Int) (w : World) :
    Calls Try.prog 10 #[.int .i64 n] w fun e w' => e = .returned (.int .i64 (cut n)) ∧ w' = w := by
  by_cases h0 : n < 0
  · go_enter Try.func10, Try.ntmps10
    go_wp2
    go_ret
    exact ⟨ret_int (cut_neg h0).symm, rfl⟩
  · by_cases h1 : 1099511627776 < n
    · go_enter Try.func10, Try.ntmps10
      go_wp2
      go_ret
      exact ⟨ret_int (cut_big h1).symm, rfl⟩
    · go_enter Try.func10, Try.ntmps10
      go_wp2
      go_ret
      exact ⟨ret_int (cut_mid (by omega) (by omega)).symm, rfl⟩

theorem rcut_any (n : Int) (w : World) :
    Calls Try.prog 11 #[.int .i64 n] w fun e w' => e = .returned (.int .i64 (cut n)) ∧ w' = w := by
  by_cases h0 : n < 0
  · go_enter Try.func11, Try.ntmps11
    go_wp2
    go_ret
    exact ⟨ret_int (cut_neg h0).symm, rfl⟩
  · by_cases h1 : 1099511627776 < n
    · go_enter Try.func11, Try.ntmps11
      go_wp2
      go_ret
      exact ⟨ret_int (cut_big h1).symm, rfl⟩
    · go_enter Try.func11, Try.ntmps11
      go_wp2
      go_ret
      exact ⟨ret_int (cut_mid (by omega) (by omega)).symm, rfl⟩

theorem add_any (a b : Int) (w : World) :
    Calls Try.prog 12 #[.int .i64 a, .int .i64 b] w fun e w' => e = .returned (.int .i64 (add a b)) ∧ w' = w := by
  have a1 := cut_lo a
  have a2 := cut_hi a
  have b1 := cut_lo b
  have b2 := cut_hi b
  go_enter Try.func12, Try.ntmps12
  go_wp2_with (go_at_call 10; refine (cut_any _ _).mono ?_; rintro e w' ⟨rfl, rfl⟩)
  go_ret
  exact ⟨rfl, rfl⟩

theorem radd_any (a b : Int) (w : World) :
    Calls Try.prog 13 #[.int .i64 a, .int .i64 b] w fun e w' => e = .returned (.int .i64 (add a b)) ∧ w' = w := by
  have a1 := cut_lo a
  have a2 := cut_hi a
  have b1 := cut_lo b
  have b2 := cut_hi b
  go_enter Try.func13, Try.ntmps13
  go_wp2_with (go_at_call 11; refine (rcut_any _ _).mono ?_; rintro e w' ⟨rfl, rfl⟩)
  go_ret
  exact ⟨rfl, rfl⟩

theorem sub_any (a b : Int) (w : World) :
    Calls Try.prog 14 #[.int .i64 a, .int .i64 b] w fun e w' => e = .returned (.int .i64 (sub a b)) ∧ w' = w := by
  have a1 := cut_lo a
  have a2 := cut_hi a
  have b1 := cut_lo b
  have b2 := cut_hi b
  go_enter Try.func14, Try.ntmps14
  go_wp2_with (go_at_call 10; refine (cut_any _ _).mono ?_; rintro e w' ⟨rfl, rfl⟩)
  go_ret
  exact ⟨rfl, rfl⟩

theorem rsub_any (a b : Int) (w : World) :
    Calls Try.prog 15 #[.int .i64 a, .int .i64 b] w fun e w' => e = .returned (.int .i64 (sub a b)) ∧ w' = w := by
  have a1 := cut_lo a
  have a2 := cut_hi a
  have b1 := cut_lo b
  have b2 := cut_hi b
  go_enter Try.func15, Try.ntmps15
  go_wp2_with (go_at_call 11; refine (rcut_any _ _).mono ?_; rintro e w' ⟨rfl, rfl⟩)
  go_ret
  exact ⟨rfl, rfl⟩

theorem past_any (a b : Int) (w : World) :
    Calls Try.prog 16 #[.int .i64 a, .int .i64 b] w fun e w' => e = .returned (.bool (past a b)) ∧ w' = w := by
  go_enter Try.func16, Try.ntmps16
  go_wp2_with (go_at_call 10; refine (cut_any _ _).mono ?_; rintro e w' ⟨rfl, rfl⟩)
  go_ret
  exact ⟨rfl, rfl⟩

theorem rpast_any (a b : Int) (w : World) :
    Calls Try.prog 17 #[.int .i64 a, .int .i64 b] w fun e w' => e = .returned (.bool (past a b)) ∧ w' = w := by
  go_enter Try.func17, Try.ntmps17
  go_wp2_with (go_at_call 11; refine (rcut_any _ _).mono ?_; rintro e w' ⟨rfl, rfl⟩)
  go_ret
  exact ⟨rfl, rfl⟩

theorem left_any (a b : Int) (w : World) :
    Calls Try.prog 18 #[.int .i64 a, .int .i64 b] w fun e w' => e = .returned (.int .i64 (sub b a)) ∧ w' = w := by
  go_enter Try.func18, Try.ntmps18
  go_wp2_with (go_at_call 14; refine (sub_any _ _ _).mono ?_; rintro e w' ⟨rfl, rfl⟩)
  go_ret
  exact ⟨rfl, rfl⟩

theorem new_any (n : Int) (w : World) :
    Calls Try.prog 21 #[.int .i64 n] w fun e w' => e = .returned (.pointer (some ⟨w.heap.size, 0, none⟩)) ∧ w' = w.alloc (.cells #[.int .i64 (cut n)] 37) := by
  go_enter Try.func21, Try.ntmps21
  go_wp2_with (go_at_call 10; refine (cut_any _ _).mono ?_; rintro e w' ⟨rfl, rfl⟩)
  go_ret
  exact ⟨rfl, rfl⟩

theorem now_nil (w : World) :
    Calls Try.prog 22 #[.pointer none] w fun e w' => e = .returned (.int .i64 0) ∧ w' = w := by
  go_enter Try.func22, Try.ntmps22
  go_wp2
  go_ret
  exact ⟨rfl, rfl⟩

theorem now_some (p : Addr) (n : Int) (w : World) (hp : w.cell? p = some (.int .i64 n)) :
    Calls Try.prog 22 #[.pointer (some p)] w fun e w' => e = .returned (.int .i64 n) ∧ w' = w := by
  go_enter Try.func22, Try.ntmps22
  go_wp2
  go_ret
  exact ⟨rfl, rfl⟩

theorem go_nil (n : Int) (w : World) :
    Calls Try.prog 23 #[.pointer none, .int .i64 n] w fun e w' => e = .returned (.int .i64 0) ∧ w' = w := by
  go_enter Try.func23, Try.ntmps23
  go_wp2
  go_ret
  exact ⟨rfl, rfl⟩

theorem lives_any (w : World) :
    Calls Try.prog 9 #[] w fun e w' => e = .returned (.bool true) ∧ w' = w.alloc (.cells #[.int .i64 7] 37) := by
  have e1 : add 1099511627776 1 = 1099511627776 := by decide
  have e2 : sub 3 5 = 0 := by decide
  have e3 : sub 5 3 = 2 := by decide
  have e4 : cut 7 = 7 := by decide
  go_enter Try.func9, Try.ntmps9
  go_wp2_with (first
    | (go_at_call 12; refine (add_any _ _ _).mono ?_; rintro e w' ⟨rfl, rfl⟩)
    | (go_at_call 14; refine (sub_any _ _ _).mono ?_; rintro e w' ⟨rfl, rfl⟩)
    | (go_at_call 21; refine (new_any _ _).mono ?_; rintro e w' ⟨rfl, rfl⟩)
    | (go_at_call 22; refine (now_some _ 7 _ (by simp [go_sem])).mono ?_; rintro e w' ⟨rfl, rfl⟩))
  go_ret
  exact ⟨rfl, rfl⟩

end Go.Proofs.Ytjpfgjjohaepcaa
