/-
  FrontOn's walk: On and Name, the program's and the document's own. Conditions: the tables read as they are laid.
-/
import Derived.Test.YtegjaoaoiojhfaaDoorLives
import Derived.Test.YtegjaoaoiojhfaaDoorLaid
namespace Go.Proofs.YtegjaoaoiojhfaaDoor
open Go.ChangeShapes Go.WideShapes Go.ChangeAt Go.RowKit

theorem name_any (s : Int) (w : World) (hn : Nams w) :
    Calls Tryd.prog 23 #[.int .i64 s] w fun e w' => e = .returned (.string (nm s)) ∧ w' = w := by
  have hi := isState_any s w
  by_cases hk : 0 ≤ s ∧ s ≤ 6
  · have hks := inS_iff.2 hk
    obtain ⟨j, rfl⟩ : ∃ j : Nat, s = j := ⟨s.toNat, by omega⟩
    have hc := hn.at_ j (by omega)
    have e : nm j = nms.getD j ⟨#[]⟩ := by unfold nm; rw [if_pos hks]; rfl
    rw [← e] at hc
    rw [hks] at hi
    clear e hn
    obtain ⟨h1, h2⟩ := hk
    have h4 : (j : Int) < 7 := by omega
    generalize nm j = N at *
    go_enter Tryd.func23, Tryd.ntmps23
    go_wp2_with (go_at_call 33; refine hi.mono ?_; rintro e w' ⟨rfl, hw'⟩; subst w')
    go_ret
    exact ⟨rfl, rfl⟩
  · have hks := inS_false hk
    rw [nm_out hks]
    rw [hks] at hi
    clear hk hn
    go_enter Tryd.func23, Tryd.ntmps23
    go_wp2_with (go_at_call 33; refine hi.mono ?_; rintro e w' ⟨rfl, hw'⟩; subst w')
    go_ret
    exact ⟨rfl, rfl⟩

theorem rname_any (k : Int) (w : World) :
    Calls Tryd.prog 24 #[.int .i64 k] w fun e w' => e = .returned (.string (nm k)) ∧ Below w.heap.size w w' := by
  by_cases h1 : k < 0
  · rw [nm_out (inS_false (by omega))]
    go_enter Tryd.func24, Tryd.ntmps24
    go_wp2
    go_ret
    exact ⟨rfl, Below.refl _ _⟩
  · by_cases h2 : 6 < k
    · rw [nm_out (inS_false (by omega))]
      go_enter Tryd.func24, Tryd.ntmps24
      go_wp2
      go_ret
      exact ⟨rfl, Below.refl _ _⟩
    · have hk := seven (show 0 ≤ k by omega) (by omega)
      clear h1 h2
      rcases hk with rfl | rfl | rfl | rfl | rfl | rfl | rfl
      all_goals
        go_enter Tryd.func24, Tryd.ntmps24
        go_wp2
        go_ret
        exact ⟨rfl, (Below.refl _ _).alloc (Nat.le_refl _) _⟩

theorem ron_out (s k : Int) (w : World) (h : inS s = false) :
    Calls Tryd.prog 22 #[.int .i64 s, .int .i64 k] w fun e w' => e = .returned (.tuple #[.int .i64 s, .int .i64 0]) ∧ w' = w := by
  have h' : ¬ (0 ≤ s ∧ s ≤ 6) := fun e => by have := inS_iff.2 e; rw [h] at this; cases this
  have e0 : (s == 0) = false := beq_eq_false_iff_ne.2 (by omega)
  have e1 : (s == 1) = false := beq_eq_false_iff_ne.2 (by omega)
  have e2 : (s == 2) = false := beq_eq_false_iff_ne.2 (by omega)
  have e3 : (s == 3) = false := beq_eq_false_iff_ne.2 (by omega)
  have e4 : (s == 4) = false := beq_eq_false_iff_ne.2 (by omega)
  have e5 : (s == 5) = false := beq_eq_false_iff_ne.2 (by omega)
  clear h h'
  by_cases k1 : 1 ≤ k
  · by_cases k5 : k ≤ 5
    · by_cases j4 : k = 4
      · subst j4
        go_enter Tryd.func22, Tryd.ntmps22
        go_wp2
        go_ret2
        exact ⟨rfl, rfl⟩
      · have b4 : (k == 4) = false := beq_eq_false_iff_ne.2 j4
        go_enter Tryd.func22, Tryd.ntmps22
        go_wp2
        go_ret2
        exact ⟨rfl, rfl⟩
    · have b4 : (k == 4) = false := beq_eq_false_iff_ne.2 (by omega)
      have b5 : (k == 5) = false := beq_eq_false_iff_ne.2 (by omega)
      have k5' : decide (k ≤ 5) = false := by simpa using k5
      go_enter Tryd.func22, Tryd.ntmps22
      go_wp2
      go_ret2
      exact ⟨rfl, rfl⟩
  · have b4 : (k == 4) = false := beq_eq_false_iff_ne.2 (by omega)
    have b5 : (k == 5) = false := beq_eq_false_iff_ne.2 (by omega)
    have k1' : decide (1 ≤ k) = false := by simpa using k1
    go_enter Tryd.func22, Tryd.ntmps22
    go_wp2
    go_ret2
    exact ⟨rfl, rfl⟩

/-- A kind that is one of the table's. -/
theorem ron_in (s k : Int) (w : World) (h0 : 0 ≤ s) (h6 : s ≤ 6) (hk : k = 1 ∨ k = 2 ∨ k = 3 ∨ k = 4 ∨ k = 5 ∨ k = 8) :
    Calls Tryd.prog 22 #[.int .i64 s, .int .i64 k] w fun e w' => e = .returned (.tuple #[.int .i64 (onx s k), .int .i64 (onw s k)]) ∧ w' = w := by
  rcases hk with rfl | rfl | rfl | rfl | rfl | rfl <;> rcases seven h0 h6 with rfl | rfl | rfl | rfl | rfl | rfl | rfl
  all_goals
    go_enter Tryd.func22, Tryd.ntmps22
    go_wp2
    go_ret2
    exact ⟨rfl, rfl⟩

/-- Another kind. -/
theorem ron_odd (s k : Int) (w : World) (h0 : 0 ≤ s) (h6 : s ≤ 6) (hk : k ≠ 1 ∧ k ≠ 2 ∧ k ≠ 3 ∧ k ≠ 4 ∧ k ≠ 5 ∧ k ≠ 8) (hc : col k = 0) :
    Calls Tryd.prog 22 #[.int .i64 s, .int .i64 k] w fun e w' => e = .returned (.tuple #[.int .i64 (onx s k), .int .i64 (onw s k)]) ∧ w' = w := by
  unfold onx onw
  rw [hc]
  have b1 : (k == 1) = false := beq_eq_false_iff_ne.2 hk.1
  have b2 : (k == 2) = false := beq_eq_false_iff_ne.2 hk.2.1
  have b3 : (k == 3) = false := beq_eq_false_iff_ne.2 hk.2.2.1
  have b4 : (k == 4) = false := beq_eq_false_iff_ne.2 hk.2.2.2.1
  have b5 : (k == 5) = false := beq_eq_false_iff_ne.2 hk.2.2.2.2.1
  have b8 : (k == 8) = false := beq_eq_false_iff_ne.2 hk.2.2.2.2.2
  have hm : k < 1 ∨ 1 ≤ k ∧ 5 < k := by omega
  clear hk hc
  rcases hm with hm | ⟨hm, hm'⟩ <;> rcases seven h0 h6 with rfl | rfl | rfl | rfl | rfl | rfl | rfl
  all_goals
    go_enter Tryd.func22, Tryd.ntmps22
    go_wp2
    go_ret2
    exact ⟨rfl, rfl⟩

theorem ron_any (s k : Int) (w : World) :
    Calls Tryd.prog 22 #[.int .i64 s, .int .i64 k] w fun e w' => e = .returned (.tuple #[.int .i64 (onx s k), .int .i64 (onw s k)]) ∧ w' = w := by
  by_cases hs : 0 ≤ s ∧ s ≤ 6
  · rcases col_of k with ⟨h, _⟩ | ⟨h, _⟩ | ⟨h, _⟩ | ⟨h, _⟩ | ⟨h, _⟩ | ⟨h, _⟩ | ⟨h, hc⟩
    · exact ron_in s k w hs.1 hs.2 (by omega)
    · exact ron_in s k w hs.1 hs.2 (by omega)
    · exact ron_in s k w hs.1 hs.2 (by omega)
    · exact ron_in s k w hs.1 hs.2 (by omega)
    · exact ron_in s k w hs.1 hs.2 (by omega)
    · exact ron_in s k w hs.1 hs.2 (by omega)
    · exact ron_odd s k w hs.1 hs.2 h hc
  · have h := inS_false hs
    have e1 : onx s k = s := lnx_out _ h
    have e2 : onw s k = 0 := lwh_out _ h
    rw [e1, e2]
    exact ron_out s k w h

end Go.Proofs.YtegjaoaoiojhfaaDoor
