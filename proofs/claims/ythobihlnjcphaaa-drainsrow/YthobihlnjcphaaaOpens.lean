/-
  How an argument is opened: a pair of ints, from its reading. No conditions.
-/
import Derived.Test.YthobihlnjcphaaaSteps
namespace Go.Proofs.Ythobihlnjcphaaa
open Go.ChangeShapes Go.WideShapes Go.ChangeAt Go.RowKit Go.Joins Go.Deep

theorem cells62 : Try.prog.cellsOf 62 = 2 := by kernel_rfl

theorem BoolsAt.keep {w w' : World} {A : Nat → Prop} {a : Option Addr} {len cap : Nat} {zs : List Bool} (h : BoolsAt w a len cap zs) (hk : Keep A w w') (hA : ∀ x, a = some x → A x.block) : BoolsAt w' a len cap zs := by
  refine ⟨h.hlen, h.hle, h.hcap, fun j hj => ?_⟩
  obtain ⟨b, off, e, hlt, hc⟩ := h.at_ j hj
  exact ⟨b, off, e, Nat.lt_of_lt_of_le hlt hk.size, hk.cell hc (hA ⟨b, off, none⟩ e)⟩

section
variable {H : Type} {enc : TypeId × Value → H} {W : World} {r : Reach} {b0 : Nat} {v : Value} {d : DataW H} {p : List MemPlace}

set_option maxRecDepth 100000 in
theorem open_arr2 (hv : Value.okWide Try.prog W r b0 62 v) (h : DataW.Trod enc Try.prog W 0 (fun _ => true) true 62 v d p) :
    ∃ x y, v = .agg #[.int .i64 x, .int .i64 y] := by
  unfold Value.okWide at hv
  rw [Try.underlying62] at hv
  obtain ⟨cs, rfl, hsz, _⟩ := hv
  rw [cells62] at hsz
  obtain ⟨fuel, hf⟩ := h
  obtain ⟨xs, m, _, _, _, hxl, hel⟩ := DataW.trod_array Try.underlying62 hf
  obtain ⟨cs⟩ := cs
  match cs, hsz with
  | [c0, c1], _ =>
    have e0 := hel 0 (by decide)
    have e1 := hel 1 (by decide)
    match xs, hxl with
    | [y0, y1], _ =>
      rw [cells3] at e0 e1
      simp [Value.cells] at e0 e1
      obtain ⟨k0, q0, _, _⟩ := DataW.trod_int Try.underlying3 e0
      obtain ⟨k1, q1, _, _⟩ := DataW.trod_int Try.underlying3 e1
      simp at q0 q1
      exact ⟨k0, k1, by rw [q0, q1]⟩

end

end Go.Proofs.Ythobihlnjcphaaa
