/-
  The walk of FrameKinds: it returns true and turns nothing that was there. Condition: the names' table reads as it is laid.
-/
import Derived.Test.YtoeafdjakaifdaaDoorLives
import Derived.Lib.Strings
namespace Go.Proofs.YtoeafdjakaifdaaDoor
open Go.ChangeShapes Go.WideShapes Go.ChangeAt Go.RowKit

theorem nm_out {k : Int} (h : ¬ (1 ≤ k ∧ k ≤ 8)) : nm k = ⟨#[]⟩ := by unfold nm; rw [if_neg (by rw [kn_false h]; decide)]
theorem eight {k : Int} (h : 1 ≤ k ∧ k ≤ 8) : k = 1 ∨ k = 2 ∨ k = 3 ∨ k = 4 ∨ k = 5 ∨ k = 6 ∨ k = 7 ∨ k = 8 := by omega

theorem nm_inj (a b : Int) (ha : 1 ≤ a ∧ a ≤ 8) : ((nm a).toList == (nm b).toList) = (a == b) := by
  rw [Lib.toList_data, Lib.toList_data]
  by_cases hb : 1 ≤ b ∧ b ≤ 8
  · rcases eight ha with rfl | rfl | rfl | rfl | rfl | rfl | rfl | rfl <;> rcases eight hb with rfl | rfl | rfl | rfl | rfl | rfl | rfl | rfl <;> decide
  · rw [nm_out hb]
    have e : (a == b) = false := by simp; omega
    rw [e]
    rcases eight ha with rfl | rfl | rfl | rfl | rfl | rfl | rfl | rfl <;> decide

theorem nm_full (a : Int) (ha : 1 ≤ a ∧ a ≤ 8) : ¬ (nm a).toList = [] := by
  rw [Lib.toList_data]
  rcases eight ha with rfl | rfl | rfl | rfl | rfl | rfl | rfl | rfl <;> decide

set_option maxHeartbeats 400000 in
set_option maxRecDepth 100000 in
theorem kinds_in (a b : Int) (w : World) (hn : Names w) (h1 : 1 ≤ a) (h2 : a ≤ 8) (ha : Hid (((nm a).toList == (nm b).toList) = (a == b))) (he : (nm a).toList.isEmpty = false) (x y p q : Bool) (hc : cl a = x) (hh : ho a = y)
    (hp : (a == 1) = p) (hq : (a == 8) = q) (hx : (x, y, p, q) ∈ [(true, true, true, false), (true, true, false, true), (true, false, false, false), (false, true, false, false)]) :
    Calls Tryd.prog 8 #[.int .i64 a, .int .i64 b] w fun e w' => e = .returned (.bool true) ∧ Below w.heap.size w w' := by
  have fin : (((nm a).toList == (nm b).toList) == (a == b)) = true := by rw [ha.out]; simp
  have FIN : Hid ((((nm a).toList == (nm b).toList) == (a == b)) = true) := fin
  clear fin ha
  simp only [List.mem_cons, Prod.mk.injEq, List.not_mem_nil, or_false] at hx
  rcases hx with ⟨rfl, rfl, rfl, rfl⟩ | ⟨rfl, rfl, rfl, rfl⟩ | ⟨rfl, rfl, rfl, rfl⟩ | ⟨rfl, rfl, rfl, rfl⟩
  all_goals
    go_enter Tryd.func8, Tryd.ntmps8
    go_wp2_with fail
    refine (lives_any w hn).mono ?_
    rintro e w1 ⟨rfl, hb⟩
    have hn1 := hn.below hb
    go_wp2_with (first
      | (go_at_call 19; refine (name_any _ _ hn1).mono ?_; rintro e w' ⟨rfl, rfl⟩)
      | (go_at_call 15; refine (client_any _ _).mono ?_; rintro e w' ⟨rfl, rfl⟩)
      | (go_at_call 17; refine (host_any _ _).mono ?_; rintro e w' ⟨rfl, rfl⟩))
  all_goals
    go_ret
    exact ⟨ret_bool FIN.out, hb⟩

set_option maxHeartbeats 400000 in
set_option maxRecDepth 100000 in
theorem kinds_out (a b : Int) (w : World) (hn : Names w) (h : ¬ (1 ≤ a ∧ a ≤ 8)) :
    Calls Tryd.prog 8 #[.int .i64 a, .int .i64 b] w fun e w' => e = .returned (.bool true) ∧ Below w.heap.size w w' := by
  have hnm := nm_out h
  have hc : cl a = false := by simp [cl]; omega
  have hh : ho a = false := by simp [ho]; omega
  have hp : (a == 1) = false := by simp; omega
  have hq : (a == 8) = false := by simp; omega
  by_cases h1 : 1 ≤ a
  · have h2 : decide (a ≤ 8) = false := by simp; omega
    clear h
    go_enter Tryd.func8, Tryd.ntmps8
    go_wp2_with fail
    refine (lives_any w hn).mono ?_
    rintro e w1 ⟨rfl, hb⟩
    have hn1 := hn.below hb
    go_wp2_with (first
      | (go_at_call 19; refine (name_any _ _ hn1).mono ?_; rintro e w' ⟨rfl, rfl⟩)
      | (go_at_call 15; refine (client_any _ _).mono ?_; rintro e w' ⟨rfl, rfl⟩)
      | (go_at_call 17; refine (host_any _ _).mono ?_; rintro e w' ⟨rfl, rfl⟩))
    go_ret
    exact ⟨rfl, hb⟩
  · have h2 : decide (1 ≤ a) = false := by simpa using h1
    clear h h1
    go_enter Tryd.func8, Tryd.ntmps8
    go_wp2_with fail
    refine (lives_any w hn).mono ?_
    rintro e w1 ⟨rfl, hb⟩
    have hn1 := hn.below hb
    go_wp2_with (first
      | (go_at_call 19; refine (name_any _ _ hn1).mono ?_; rintro e w' ⟨rfl, rfl⟩)
      | (go_at_call 15; refine (client_any _ _).mono ?_; rintro e w' ⟨rfl, rfl⟩)
      | (go_at_call 17; refine (host_any _ _).mono ?_; rintro e w' ⟨rfl, rfl⟩))
    go_ret
    exact ⟨rfl, hb⟩

theorem kinds_any (a b : Int) (w : World) (hn : Names w) :
    Calls Tryd.prog 8 #[.int .i64 a, .int .i64 b] w fun e w' => e = .returned (.bool true) ∧ Below w.heap.size w w' := by
  by_cases h : 1 ≤ a ∧ a ≤ 8
  · refine kinds_in a b w hn h.1 h.2 (nm_inj a b h) (by simpa using nm_full a h) _ _ _ _ rfl rfl rfl rfl ?_
    rcases eight h with rfl | rfl | rfl | rfl | rfl | rfl | rfl | rfl <;> decide
  · exact kinds_out a b w hn h

end Go.Proofs.YtoeafdjakaifdaaDoor
