/-
  The walk of GuardFell: it returns true and turns nothing that was there. No conditions.
-/
import Derived.Test.YtkppicocjipakaaLives
namespace Go.Proofs.Ytkppicocjipakaa
open Go.ChangeShapes Go.WideShapes Go.ChangeAt Go.RowKit

set_option maxHeartbeats 1000000 in
set_option maxRecDepth 100000 in
theorem fell_walk (x y g : Int) (w : World) :
    Calls Try.prog 5 #[.int .i64 x, .int .i64 y, .int .i64 g] w fun e w' => e = .returned (.bool true) ∧ Below w.heap.size w w' := by
  obtain ⟨p, hp⟩ : ∃ p, (decide (y < x) && decide (y < g)) = p := ⟨_, rfl⟩
  have hf := fell_any x y g
  rw [hp] at hf
  have hq : (decide (x < x) && decide (x < g)) = false := by simp
  have hf2 := fell_any x x g
  rw [hq] at hf2
  clear hq
  by_cases h0 : y < x
  · by_cases h1 : y < g
    · obtain rfl : p = true := by rw [← hp]; simp [h0, h1]
      clear hp
      go_enter Try.func5, Try.ntmps5
      go_wp2_with fail
      refine (lives_any w).mono ?_
      rintro e w1 ⟨rfl, hb⟩
      go_wp2_with fail
      refine (hf w1).mono ?_
      rintro e w2 ⟨rfl, hw2⟩
      obtain rfl : w1 = w2 := hw2.symm
      go_wp2_with fail
      refine (hf2 w1).mono ?_
      rintro e w2 ⟨rfl, hw3⟩
      obtain rfl : w1 = w2 := hw3.symm
      go_wp2
      go_ret
      exact ⟨rfl, hb⟩
    · obtain rfl : p = false := by rw [← hp]; simp [h0]; omega
      clear hp
      go_enter Try.func5, Try.ntmps5
      go_wp2_with fail
      refine (lives_any w).mono ?_
      rintro e w1 ⟨rfl, hb⟩
      go_wp2_with fail
      refine (hf w1).mono ?_
      rintro e w2 ⟨rfl, hw2⟩
      obtain rfl : w1 = w2 := hw2.symm
      go_wp2_with fail
      refine (hf2 w1).mono ?_
      rintro e w2 ⟨rfl, hw3⟩
      obtain rfl : w1 = w2 := hw3.symm
      go_wp2
      go_ret
      exact ⟨ret_bool (by rw [decide_eq_false (by omega)]; rfl), hb⟩
  · obtain rfl : p = false := by rw [← hp, decide_eq_false h0]; rfl
    clear hp
    go_enter Try.func5, Try.ntmps5
    go_wp2_with fail
    refine (lives_any w).mono ?_
    rintro e w1 ⟨rfl, hb⟩
    go_wp2_with fail
    refine (hf w1).mono ?_
    rintro e w2 ⟨rfl, hw2⟩
    obtain rfl : w1 = w2 := hw2.symm
    go_wp2_with fail
    refine (hf2 w1).mono ?_
    rintro e w2 ⟨rfl, hw3⟩
    obtain rfl : w1 = w2 := hw3.symm
    go_wp2
    go_ret
    exact ⟨rfl, hb⟩

end Go.Proofs.Ytkppicocjipakaa
