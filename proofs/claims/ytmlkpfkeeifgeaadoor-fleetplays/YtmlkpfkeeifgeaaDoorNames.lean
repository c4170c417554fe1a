/-
  What names, Waits, Under, Due, Deadline, Ahead and New do, also of nil. Conditions: drains lie where they are said to lie.
-/
import Derived.Test.YtmlkpfkeeifgeaaDoorRules
namespace Go.Proofs.YtmlkpfkeeifgeaaDoor
open Go.ChangeShapes Go.WideShapes Go.ChangeAt Go.RowKit

theorem new_any (w : World) : Calls Tryd.prog 37 #[] w fun e w' => e = .returned (.pointer (some ⟨w.heap.size, 0, none⟩)) ∧ DIn w' (fun k => k < w.heap.size) w.heap.size 0 [] [] ∧ Below w.heap.size w w' := by
  have hb : Below w.heap.size w (w.alloc (.cells #[.slice none 0 0, .slice none 0 0] 102)) := (Below.refl _ w).alloc (Nat.le_refl _) _
  have HD : Hid (DIn (w.alloc (.cells #[.slice none 0 0, .slice none 0 0] 102)) (fun k => k < w.heap.size) w.heap.size 0 [] []) :=
    ⟨⟨none, 0, [], none, 0, [], heap_alloc_new w _, RIn.nil _ _, Nat.le_refl _, rfl, RIn.nil _ _, Nat.le_refl _, rfl⟩, Nat.lt_irrefl _, fun k hk => by simp; omega⟩
  go_enter Tryd.func37, Tryd.ntmps37
  go_wp2
  go_ret
  exact ⟨rfl, HD.out, hb⟩

theorem ahead_nil (x : ByteArray) (w : World) : Calls Tryd.prog 62 #[.pointer none, .string x] w fun e w' => e = .returned (.int .i64 (-1)) ∧ w' = w := by
  go_enter Tryd.func62, Tryd.ntmps62
  go_wp2_with (first | (go_at_call 88; refine (find_nil _ _).mono ?_; rintro e w' ⟨rfl, hw'⟩; subst w'))
  go_ret
  exact ⟨rfl, rfl⟩

theorem ahead_w (w : World) (A : Nat → Prop) (g : Nat) (L M : List Dr) (x : ByteArray) (h : DIn w A g 0 L M) :
    Calls Tryd.prog 62 #[.pointer (some ⟨g, 0, none⟩), .string x] w fun e w' => e = .returned (.int .i64 (plc x (nms L))) ∧ Below w.heap.size w w' := by
  have hf := find_w w A g L M x h
  cases h0 : isIn x L with
  | true =>
    rw [(row_0 h0).1, (row_0 h0).2] at hf
    rw [plc_mem (isIn_iff.1 h0)]
    generalize fidx x (nms L) = F at *
    clear h
    go_enter Tryd.func62, Tryd.ntmps62
    go_wp2_with (first | (go_at_call 88; refine hf.mono ?_; rintro e w1 ⟨rfl, hb1⟩))
    go_ret
    exact ⟨rfl, hb1⟩
  | false =>
    rw [plc_not (isIn_not.1 h0)]
    have hr : (rowI x L M != 0) = true := by
      cases h1 : isIn x M with
      | true => rw [(row_1 h0 h1).1]; rfl
      | false => rw [(row_2 h0 h1).1]; rfl
    generalize rowI x L M = r at *
    generalize plcI x L M = p at *
    clear h
    go_enter Tryd.func62, Tryd.ntmps62
    go_wp2_with (first | (go_at_call 88; refine hf.mono ?_; rintro e w1 ⟨rfl, hb1⟩))
    go_ret
    exact ⟨rfl, hb1⟩

/-- A deadline. -/
def deadI (x : ByteArray) (M : List Dr) : Int := if isIn x M = true then (nthD M (fidx x (nms M))).2 else 0

end Go.Proofs.YtmlkpfkeeifgeaaDoor
