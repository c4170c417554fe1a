/-
  What Client, Host, Name and Right do, the program's and the document's own, each as a contract. Condition, of the program's Name: the names' table reads as it is laid.
-/
import Derived.Test.YtoeafdjakaifdaaDoorMem
namespace Go.Proofs.YtoeafdjakaifdaaDoor
open Go.ChangeShapes Go.WideShapes Go.ChangeAt Go.RowKit

def cl (k : Int) : Bool := decide ((1 ≤ k ∧ k ≤ 5) ∨ k = 8)
def ho (k : Int) : Bool := decide (k = 1 ∨ k = 6 ∨ k = 7 ∨ k = 8)

theorem client_any (k : Int) (w : World) :
    Calls Tryd.prog 15 #[.int .i64 k] w fun e w' => e = .returned (.bool (cl k)) ∧ w' = w := by
  go_enter Tryd.func15, Tryd.ntmps15
  go_wp2
  all_goals
    go_ret
    refine ⟨ret_bool ?_, rfl⟩
    simp only [cl]
    simp_all
  all_goals omega

theorem rclient_any (k : Int) (w : World) :
    Calls Tryd.prog 16 #[.int .i64 k] w fun e w' => e = .returned (.bool (cl k)) ∧ w' = w := by
  go_enter Tryd.func16, Tryd.ntmps16
  go_wp2
  all_goals
    go_ret
    refine ⟨ret_bool ?_, rfl⟩
    rw [Bool.eq_iff_iff]
    simp [cl]
  all_goals omega

theorem host_any (k : Int) (w : World) :
    Calls Tryd.prog 17 #[.int .i64 k] w fun e w' => e = .returned (.bool (ho k)) ∧ w' = w := by
  go_enter Tryd.func17, Tryd.ntmps17
  go_wp2
  all_goals
    go_ret
    refine ⟨ret_bool ?_, rfl⟩
    simp only [ho]
    simp_all

theorem rhost_any (k : Int) (w : World) :
    Calls Tryd.prog 18 #[.int .i64 k] w fun e w' => e = .returned (.bool (ho k)) ∧ w' = w := by
  go_enter Tryd.func18, Tryd.ntmps18
  go_wp2
  all_goals
    go_ret
    refine ⟨ret_bool ?_, rfl⟩
    rw [Bool.eq_iff_iff]
    simp [ho]
  all_goals omega

theorem ret_str {a b : ByteArray} (h : a = b) : Ending.returned (.string a) = .returned (.string b) := by rw [h]

theorem name_any (k : Int) (w : World) (hn : Names w) :
    Calls Tryd.prog 19 #[.int .i64 k] w fun e w' => e = .returned (.string (nm k)) ∧ w' = w := by
  by_cases hk : 1 ≤ k ∧ k ≤ 8
  · have hkn := kn_true hk.1 hk.2
    obtain ⟨j, rfl⟩ : ∃ j : Nat, k = j := ⟨k.toNat, by omega⟩
    have hc := hn.at_ j (by omega)
    have e : nm j = nms.getD j ⟨#[]⟩ := by unfold nm; rw [if_pos hkn]; rfl
    rw [← e] at hc
    clear e hn
    obtain ⟨h1, h2⟩ := hk
    have h3 : (0 : Int) ≤ (j : Int) := by omega
    have h4 : (j : Int) < 9 := by omega
    go_enter Tryd.func19, Tryd.ntmps19
    go_wp2_with (first
        | (go_at_call 33; refine (known_any _ _).mono ?_; rintro e w' ⟨rfl, rfl⟩))
    go_ret
    exact ⟨rfl, rfl⟩
  · have hkn := kn_false hk
    have e : nm k = ⟨#[]⟩ := by unfold nm; rw [if_neg (by rw [hkn]; decide)]
    rw [e]
    clear hk hn e
    go_enter Tryd.func19, Tryd.ntmps19
    go_wp2_with (first
        | (go_at_call 33; refine (known_any _ _).mono ?_; rintro e w' ⟨rfl, rfl⟩))
    go_ret
    exact ⟨rfl, rfl⟩

theorem rname_any (k : Int) (w : World) :
    Calls Tryd.prog 20 #[.int .i64 k] w fun e w' => e = .returned (.string (nm k)) ∧ Below w.heap.size w w' := by
  by_cases h1 : k < 1
  · have e : nm k = ⟨#[]⟩ := by unfold nm; rw [if_neg (by rw [kn_false (by omega)]; decide)]
    rw [e]
    clear e
    go_enter Tryd.func20, Tryd.ntmps20
    go_wp2
    go_ret
    exact ⟨rfl, Below.refl _ _⟩
  · by_cases h2 : 8 < k
    · have e : nm k = ⟨#[]⟩ := by unfold nm; rw [if_neg (by rw [kn_false (by omega)]; decide)]
      rw [e]
      clear e
      go_enter Tryd.func20, Tryd.ntmps20
      go_wp2
      go_ret
      exact ⟨rfl, Below.refl _ _⟩
    · have hk : k = 1 ∨ k = 2 ∨ k = 3 ∨ k = 4 ∨ k = 5 ∨ k = 6 ∨ k = 7 ∨ k = 8 := by omega
      clear h1 h2
      rcases hk with rfl | rfl | rfl | rfl | rfl | rfl | rfl | rfl
      all_goals
        go_enter Tryd.func20, Tryd.ntmps20
        go_wp2
        go_ret
        exact ⟨rfl, (Below.refl _ _).alloc (Nat.le_refl _) _⟩

theorem right_any (k : Int) (s : ByteArray) (c : Int) (w : World) :
    Calls Tryd.prog 13 #[.agg #[.int .i64 k, .string s], .int .i64 c] w fun e w' => e = .returned (.int .i64 (chk k s.size c)) ∧ Below w.heap.size w w' := by
  go_enter Tryd.func13, Tryd.ntmps13
  go_wp2_with (first
        | (go_at_call 31; refine (check_any _ _ _ _).mono ?_; rintro e w' ⟨rfl, rfl⟩))
  go_ret
  exact ⟨rfl, (Below.refl _ _).alloc (Nat.le_refl _) _⟩

theorem rright_any (k : Int) (s : ByteArray) (c : Int) (w : World) :
    Calls Tryd.prog 14 #[.agg #[.int .i64 k, .string s], .int .i64 c] w fun e w' => e = .returned (.int .i64 (chk k s.size c)) ∧ Below w.heap.size w w' := by
  by_cases h1 : k < 1
  · have e := chk_kind (k := k) (n := s.size) (c := c) (by omega)
    rw [e]
    clear e
    go_enter Tryd.func14, Tryd.ntmps14
    go_wp2
    go_ret
    exact ⟨rfl, (Below.refl _ _).alloc (Nat.le_refl _) _⟩
  · by_cases h2 : 8 < k
    · have e := chk_kind (k := k) (n := s.size) (c := c) (by omega)
      rw [e]
      clear e
      go_enter Tryd.func14, Tryd.ntmps14
      go_wp2
      go_ret
      exact ⟨rfl, (Below.refl _ _).alloc (Nat.le_refl _) _⟩
    · by_cases h3 : capd c < s.size
      · have e := chk_big (k := k) (n := s.size) (c := c) (by omega) (by omega) h3
        rw [e]
        clear e
        go_enter Tryd.func14, Tryd.ntmps14
        go_wp2
        go_quiet ((go_at_call 32; exact Calls.quiet_of_same (capped_any _ _)))
        go_wp2
        go_ret
        exact ⟨rfl, below_drewN ((Below.refl _ _).alloc (Nat.le_refl _) _) _⟩
      · have e := chk_ok (k := k) (n := s.size) (c := c) (by omega) (by omega) (by omega)
        rw [e]
        clear e
        go_enter Tryd.func14, Tryd.ntmps14
        go_wp2
        go_quiet ((go_at_call 32; exact Calls.quiet_of_same (capped_any _ _)))
        go_wp2
        go_ret
        exact ⟨rfl, below_drewN ((Below.refl _ _).alloc (Nat.le_refl _) _) _⟩

end Go.Proofs.YtoeafdjakaifdaaDoor
