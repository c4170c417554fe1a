/-
  How an argument is opened as a pair of ints. No conditions.
-/
import Derived.Test.YtnbpkjfaopfapaaStrs
namespace Go.Proofs.Ytnbpkjfaopfapaa
open Go.ChangeShapes Go.WideShapes Go.ChangeAt Go.RowKit Go.Joins Go.Deep

theorem cellsP : Try.prog.cellsOf 36 = 2 := by kernel_rfl
section
variable {H : Type} {enc : TypeId × Value → H} {W : World} {r : Reach} {b0 : Nat} {v : Value} {d : DataW H} {p : List MemPlace}
set_option maxRecDepth 100000 in
theorem open_arr2 (hv : Value.okWide Try.prog W r b0 36 v) (h : DataW.Trod enc Try.prog W 0 (fun _ => true) true 36 v d p) :
    ∃ x y, v = .agg #[.int .i64 x, .int .i64 y] := by
  unfold Value.okWide at hv
  rw [Try.underlying36] at hv
  obtain ⟨cs, rfl, hsz, _⟩ := hv
  rw [cellsP] at hsz
  obtain ⟨fuel, hf⟩ := h
  obtain ⟨xs, m, _, _, _, hxl, hel⟩ := DataW.trod_array Try.underlying36 hf
  obtain ⟨cs⟩ := cs
  match cs, hsz with
  | [c0, c1], _ =>
    have e0 := hel 0 (by decide)
    have e1 := hel 1 (by decide)
    match xs, hxl with
    | [y0, y1], _ =>
      rw [cells3] at e0 e1
      simp [Value.cells] at e0 e1
      obtain ⟨k0, q0, _, _⟩ := DataW.trod_int Try.underlying3 e0
      obtain ⟨k1, q1, _, _⟩ := DataW.trod_int Try.underlying3 e1
      simp at q0 q1
      exact ⟨k0, k1, by rw [q0, q1]⟩
end

end Go.Proofs.Ytnbpkjfaopfapaa
