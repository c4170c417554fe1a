/-
  How an argument of three ints is opened from its reading, and what an int's bounds are. No conditions.
-/
import Derived.Test.YtihbbkacnmnmhaaBase
import Derived.Lib.SmallJoins
import Derived.Deep.Slices
import Derived.Deep.RegionWith
namespace Go.Proofs.Ytihbbkacnmnmhaa
open Go.ChangeShapes Go.WideShapes Go.ChangeAt Go.RowKit Go.Joins Go.Deep

theorem quiet2_same {P : Program} {f : FuncId} {args : Array Value} {w : World} {n m : Nat} {v : Value}
    (h : Calls P f args (w.drewN (n + m)) fun e w' => e = .returned v ∧ w' = w.drewN (n + m)) : Calls P f args (w.drewN (n + m)) fun e w'' => e = .returned v ∧ ∃ k, w'' = w.drewN (n + k) :=
  h.mono fun _ _ ⟨he, hm⟩ => ⟨he, m, hm⟩

theorem cells3 : Try.prog.cellsOf 3 = 1 := by kernel_rfl
theorem cells22 : Try.prog.cellsOf 22 = 3 := by kernel_rfl

theorem in_of_wf {d : Int} (h : (Lit.int .i64 d).wf = true) : In d := by
  have m1 : IntKind.i64.min = -9223372036854775808 := by kernel_rfl
  have m2 : IntKind.i64.max = 9223372036854775807 := by kernel_rfl
  simp [Lit.wf, m1, m2] at h
  unfold In
  omega

section
variable {H : Type} {enc : TypeId × Value → H} {W : World} {r : Reach} {b0 : Nat} {v : Value} {d : DataW H} {p : List MemPlace}

set_option maxRecDepth 100000 in
theorem open_arr3 (hv : Value.okWide Try.prog W r b0 22 v) (h : DataW.Trod enc Try.prog W 0 (fun _ => true) true 22 v d p) :
    ∃ x y z, v = .agg #[.int .i64 x, .int .i64 y, .int .i64 z] ∧ In x ∧ In y ∧ In z := by
  unfold Value.okWide at hv
  rw [Try.underlying22] at hv
  obtain ⟨cs, rfl, hsz, _⟩ := hv
  rw [cells22] at hsz
  obtain ⟨fuel, hf⟩ := h
  obtain ⟨xs, m, _, _, _, hxl, hel⟩ := DataW.trod_array Try.underlying22 hf
  obtain ⟨cs⟩ := cs
  match cs, hsz with
  | [c0, c1, c2], _ =>
    have e0 := hel 0 (by decide)
    have e1 := hel 1 (by decide)
    have e2 := hel 2 (by decide)
    match xs, hxl with
    | [y0, y1, y2], _ =>
      rw [cells3] at e0 e1 e2
      simp [Value.cells] at e0 e1 e2
      obtain ⟨k0, q0, _, w0⟩ := DataW.trod_int Try.underlying3 e0
      obtain ⟨k1, q1, _, w1⟩ := DataW.trod_int Try.underlying3 e1
      obtain ⟨k2, q2, _, w2⟩ := DataW.trod_int Try.underlying3 e2
      simp at q0 q1 q2
      exact ⟨k0, k1, k2, by rw [q0, q1, q2], in_of_wf w0, in_of_wf w1, in_of_wf w2⟩
end

end Go.Proofs.Ytihbbkacnmnmhaa
