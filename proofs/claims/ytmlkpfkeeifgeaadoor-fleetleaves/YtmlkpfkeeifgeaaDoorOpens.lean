/-
  How arguments are opened, the table of states, and what the start-up leaves: in one place for the last texts. No conditions.
-/
import Derived.Test.YtmlkpfkeeifgeaaDoorSt
import Derived.Test.YtmlkpfkeeifgeaaDoorStrs
import Derived.Lib.SmallJoins
import Derived.Deep.Slices
namespace Go.Proofs.YtmlkpfkeeifgeaaDoor
open Go.ChangeShapes Go.WideShapes Go.ChangeAt Go.RowKit Go.Joins Go.Deep

def laidL : List (String × DataW Unit) := St.laidL
theorem door_met (os : Os) (args : Array Value) : laidMetH Tryd.prog laidL ((World.doorLaid Tryd.prog 40 os).forCall (fun _ _ => 0) ⟨#[], args, []⟩).memory := St.door_met os args
theorem tabs_of_laid {W : World} (h : laidMetH Tryd.prog laidL W) : St.Tabs W := St.tabs_of_laid h
theorem cells47 : Tryd.prog.cellsOf 47 = 2 := by kernel_rfl

section
variable {H : Type} {enc : TypeId × Value → H} {W : World} {r : Reach} {b0 : Nat} {v : Value} {d : DataW H} {p : List MemPlace}
set_option maxRecDepth 100000 in
theorem open_arr2 (hv : Value.okWide Tryd.prog W r b0 47 v) (h : DataW.Trod enc Tryd.prog W 0 (fun _ => true) true 47 v d p) :
    ∃ x y, v = .agg #[.int .i64 x, .int .i64 y] := by
  unfold Value.okWide at hv
  rw [Tryd.underlying47] at hv
  obtain ⟨cs, rfl, hsz, _⟩ := hv
  rw [cells47] at hsz
  obtain ⟨fuel, hf⟩ := h
  obtain ⟨xs, m, _, _, _, hxl, hel⟩ := DataW.trod_array Tryd.underlying47 hf
  obtain ⟨cs⟩ := cs
  match cs, hsz with
  | [c0, c1], _ =>
    have e0 := hel 0 (by decide)
    have e1 := hel 1 (by decide)
    match xs, hxl with
    | [y0, y1], _ =>
      rw [cells3] at e0 e1
      simp [Value.cells] at e0 e1
      obtain ⟨k0, q0, _, _⟩ := DataW.trod_int Tryd.underlying3 e0
      obtain ⟨k1, q1, _, _⟩ := DataW.trod_int Tryd.underlying3 e1
      simp at q0 q1
      exact ⟨k0, k1, by rw [q0, q1]⟩
end
end Go.Proofs.YtmlkpfkeeifgeaaDoor
