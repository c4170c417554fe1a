/-
  What the small calls of package state and of the document's own answers do, each as a contract. Condition, of the calls that ask a table: the tables read as they are laid.
-/
import Derived.Test.YtpomhlhpeckkhaaDoorMem
namespace Go.Proofs.YtpomhlhpeckkhaaDoor
open Go.ChangeShapes Go.WideShapes Go.ChangeAt Go.RowKit

theorem isState_any (s : Int) (w : World) :
    Calls Tryd.prog 20 #[.int .i64 s] w fun e w' => e = .returned (.bool (inS s)) ∧ w' = w := by
  by_cases h1 : 0 ≤ s
  · by_cases h2 : s ≤ 3
    · go_enter Tryd.func20, Tryd.ntmps20
      go_wp2
      go_ret
      exact ⟨ret_bool (inS_iff.2 ⟨h1, h2⟩).symm, rfl⟩
    · have hb : decide (s ≤ 3) = false := by simpa using h2
      go_enter Tryd.func20, Tryd.ntmps20
      go_wp2
      go_ret
      exact ⟨ret_bool (inS_false (by omega)).symm, rfl⟩
  · have hb : decide (0 ≤ s) = false := by simpa using h1
    go_enter Tryd.func20, Tryd.ntmps20
    go_wp2
    go_ret
    exact ⟨ret_bool (inS_false (by omega)).symm, rfl⟩

theorem isEvent_any (s : Int) (w : World) :
    Calls Tryd.prog 21 #[.int .i64 s] w fun e w' => e = .returned (.bool (inE s)) ∧ w' = w := by
  by_cases h1 : 0 ≤ s
  · by_cases h2 : s ≤ 6
    · go_enter Tryd.func21, Tryd.ntmps21
      go_wp2
      go_ret
      exact ⟨ret_bool (inE_iff.2 ⟨h1, h2⟩).symm, rfl⟩
    · have hb : decide (s ≤ 6) = false := by simpa using h2
      go_enter Tryd.func21, Tryd.ntmps21
      go_wp2
      go_ret
      exact ⟨ret_bool (inE_false (by omega)).symm, rfl⟩
  · have hb : decide (0 ≤ s) = false := by simpa using h1
    go_enter Tryd.func21, Tryd.ntmps21
    go_wp2
    go_ret
    exact ⟨ret_bool (inE_false (by omega)).symm, rfl⟩

theorem serves_any (s : Int) (w : World) :
    Calls Tryd.prog 17 #[.int .i64 s] w fun e w' => e = .returned (.bool (s == 0)) ∧ w' = w := by
  go_enter Tryd.func17, Tryd.ntmps17
  go_wp2
  go_ret
  exact ⟨rfl, rfl⟩

theorem opens_any (s : Int) (w : World) :
    Calls Tryd.prog 18 #[.int .i64 s] w fun e w' => e = .returned (.bool (s == 0)) ∧ w' = w := by
  go_enter Tryd.func18, Tryd.ntmps18
  go_wp2
  go_ret
  exact ⟨rfl, rfl⟩

theorem name_any (s : Int) (w : World) (hn : Tabs w) :
    Calls Tryd.prog 13 #[.int .i64 s] w fun e w' => e = .returned (.string (nm s)) ∧ w' = w := by
  by_cases hk : 0 ≤ s ∧ s ≤ 3
  · have hkn : inS s = true := inS_iff.2 hk
    obtain ⟨j, rfl⟩ : ∃ j : Nat, s = j := ⟨s.toNat, by omega⟩
    have hc := hn.names j (by omega)
    have e : nm j = nms.getD j ⟨#[]⟩ := by unfold nm; rw [if_pos hkn]; rfl
    rw [← e] at hc
    clear e hn
    obtain ⟨h1, h2⟩ := hk
    have h4 : (j : Int) < 4 := by omega
    go_enter Tryd.func13, Tryd.ntmps13
    go_wp2_with (first
        | (go_at_call 20; refine (isState_any _ _).mono ?_; rintro e w' ⟨rfl, rfl⟩))
    go_ret
    exact ⟨rfl, rfl⟩
  · have hkn := inS_false hk
    rw [nm_out hkn]
    clear hk hn
    go_enter Tryd.func13, Tryd.ntmps13
    go_wp2_with (first
        | (go_at_call 20; refine (isState_any _ _).mono ?_; rintro e w' ⟨rfl, rfl⟩))
    go_ret
    exact ⟨rfl, rfl⟩

theorem event_any (s : Int) (w : World) (hn : Evs w) :
    Calls Tryd.prog 15 #[.int .i64 s] w fun e w' => e = .returned (.string (ev s)) ∧ w' = w := by
  by_cases hk : 0 ≤ s ∧ s ≤ 6
  · have hkn : inE s = true := inE_iff.2 hk
    obtain ⟨j, rfl⟩ : ∃ j : Nat, s = j := ⟨s.toNat, by omega⟩
    have hc := hn.at_ j (by omega)
    have e : ev j = evs.getD j ⟨#[]⟩ := by unfold ev; rw [if_pos hkn]; rfl
    rw [← e] at hc
    clear e hn
    obtain ⟨h1, h2⟩ := hk
    have h4 : (j : Int) < 7 := by omega
    go_enter Tryd.func15, Tryd.ntmps15
    go_wp2_with (first
        | (go_at_call 21; refine (isEvent_any _ _).mono ?_; rintro e w' ⟨rfl, rfl⟩))
    go_ret
    exact ⟨rfl, rfl⟩
  · have hkn := inE_false hk
    rw [ev_out hkn]
    clear hk hn
    go_enter Tryd.func15, Tryd.ntmps15
    go_wp2_with (first
        | (go_at_call 21; refine (isEvent_any _ _).mono ?_; rintro e w' ⟨rfl, rfl⟩))
    go_ret
    exact ⟨rfl, rfl⟩

theorem rname_any (k : Int) (w : World) :
    Calls Tryd.prog 14 #[.int .i64 k] w fun e w' => e = .returned (.string (nm k)) ∧ Below w.heap.size w w' := by
  by_cases h1 : k < 0
  · rw [nm_out (inS_false (by omega))]
    go_enter Tryd.func14, Tryd.ntmps14
    go_wp2
    go_ret
    exact ⟨rfl, Below.refl _ _⟩
  · by_cases h2 : 3 < k
    · rw [nm_out (inS_false (by omega))]
      go_enter Tryd.func14, Tryd.ntmps14
      go_wp2
      go_ret
      exact ⟨rfl, Below.refl _ _⟩
    · have hk := four (show 0 ≤ k by omega) (by omega)
      clear h1 h2
      rcases hk with rfl | rfl | rfl | rfl
      all_goals
        go_enter Tryd.func14, Tryd.ntmps14
        go_wp2
        go_ret
        exact ⟨rfl, (Below.refl _ _).alloc (Nat.le_refl _) _⟩

theorem revent_any (k : Int) (w : World) :
    Calls Tryd.prog 16 #[.int .i64 k] w fun e w' => e = .returned (.string (ev k)) ∧ Below w.heap.size w w' := by
  by_cases h1 : k < 0
  · rw [ev_out (inE_false (by omega))]
    go_enter Tryd.func16, Tryd.ntmps16
    go_wp2
    go_ret
    exact ⟨rfl, Below.refl _ _⟩
  · by_cases h2 : 6 < k
    · rw [ev_out (inE_false (by omega))]
      go_enter Tryd.func16, Tryd.ntmps16
      go_wp2
      go_ret
      exact ⟨rfl, Below.refl _ _⟩
    · have hk := seven (show 0 ≤ k by omega) (by omega)
      clear h1 h2
      rcases hk with rfl | rfl | rfl | rfl | rfl | rfl | rfl
      all_goals
        go_enter Tryd.func16, Tryd.ntmps16
        go_wp2
        go_ret
        exact ⟨rfl, (Below.refl _ _).alloc (Nat.le_refl _) _⟩

end Go.Proofs.YtpomhlhpeckkhaaDoor
