/-
  How arguments are opened: a slice of ints, and two and three ints, as the words of the walks, each from its reading, whatever memory it lies in. No conditions.
-/
import Derived.Test.YtkppicocjipakaaLives
import Derived.Lib.SmallJoins
import Derived.Deep.Slices
namespace Go.Proofs.Ytkppicocjipakaa
open Go.ChangeShapes Go.WideShapes Go.ChangeAt Go.RowKit Go.Joins Go.Deep

theorem cells23 : Try.prog.cellsOf 23 = 3 := by kernel_rfl
theorem cells33 : Try.prog.cellsOf 33 = 2 := by kernel_rfl

section
variable {H : Type} {enc : TypeId × Value → H} {W : World} {r : Reach} {b0 : Nat} {v : Value} {d : DataW H} {p : List MemPlace}

set_option maxRecDepth 100000 in
theorem open_nums (hv : Value.okWide Try.prog W r b0 22 v) (h : DataW.Trod enc Try.prog W 0 (fun _ => true) true 22 v d p) :
    ∃ a len cap zs, v = .slice a len cap ∧ IntsAt W a len cap zs ∧ (a = none → len = 0 ∧ cap = 0) := by
  obtain ⟨a0, len, cap, rfl⟩ := okWide_slice Try.underlying22 hv
  obtain ⟨fuel, hf⟩ := h
  rcases open_ints Try.underlying22 Try.underlying3 cells3 hf with ⟨hcs, _⟩ | ⟨x, l, c, zs, hcs, _, hl, hm, hz, _, hcell, hwz⟩
  · simp [Value.cells] at hcs
    obtain ⟨rfl, rfl, rfl⟩ := hcs
    exact ⟨_, _, _, [], rfl, ⟨rfl, Nat.le_refl _, Nat.zero_le _, fun j hj => absurd hj (Nat.not_lt_zero _)⟩, fun _ => ⟨rfl, rfl⟩⟩
  · simp [Value.cells] at hcs
    obtain ⟨rfl, rfl, rfl⟩ := hcs
    simp only [if_true] at hz
    refine ⟨_, _, _, zs.take len, rfl, ⟨by rw [List.length_take]; omega, hl, hm, fun j hj => ?_⟩, fun h => by cases h⟩
    obtain ⟨b, off, spot⟩ := x
    have h0 := hcell j (by omega)
    have hspot : spot = none := by
      have h00 := hcell 0 (by omega)
      simpa [Addr.add] using World.cell?_spot h00
    subst hspot
    have e0 : ((⟨b, off, none⟩ : Addr).add j) = ⟨b, off + j, none⟩ := by unfold Addr.add; split <;> simp_all
    rw [e0] at h0
    refine ⟨b, off, rfl, World.block_lt_of_cell? W _ h0, h0.trans ?_⟩
    simp [List.getD, hj]

set_option maxRecDepth 100000 in
theorem open_arr3 (hv : Value.okWide Try.prog W r b0 23 v) (h : DataW.Trod enc Try.prog W 0 (fun _ => true) true 23 v d p) :
    ∃ x y z, v = .agg #[.int .i64 x, .int .i64 y, .int .i64 z] := by
  unfold Value.okWide at hv
  rw [Try.underlying23] at hv
  obtain ⟨cs, rfl, hsz, _⟩ := hv
  rw [cells23] at hsz
  obtain ⟨fuel, hf⟩ := h
  obtain ⟨xs, m, _, _, _, hxl, hel⟩ := DataW.trod_array Try.underlying23 hf
  obtain ⟨cs⟩ := cs
  match cs, hsz with
  | [c0, c1, c2], _ =>
    have e0 := hel 0 (by decide)
    have e1 := hel 1 (by decide)
    have e2 := hel 2 (by decide)
    match xs, hxl with
    | [y0, y1, y2], _ =>
      rw [cells3] at e0 e1 e2
      simp [Value.cells] at e0 e1 e2
      obtain ⟨k0, q0, _, _⟩ := DataW.trod_int Try.underlying3 e0
      obtain ⟨k1, q1, _, _⟩ := DataW.trod_int Try.underlying3 e1
      obtain ⟨k2, q2, _, _⟩ := DataW.trod_int Try.underlying3 e2
      simp at q0 q1 q2
      exact ⟨k0, k1, k2, by rw [q0, q1, q2]⟩

set_option maxRecDepth 100000 in
theorem open_arr2 (hv : Value.okWide Try.prog W r b0 33 v) (h : DataW.Trod enc Try.prog W 0 (fun _ => true) true 33 v d p) :
    ∃ x y, v = .agg #[.int .i64 x, .int .i64 y] := by
  unfold Value.okWide at hv
  rw [Try.underlying33] at hv
  obtain ⟨cs, rfl, hsz, _⟩ := hv
  rw [cells33] at hsz
  obtain ⟨fuel, hf⟩ := h
  obtain ⟨xs, m, _, _, _, hxl, hel⟩ := DataW.trod_array Try.underlying33 hf
  obtain ⟨cs⟩ := cs
  match cs, hsz with
  | [c0, c1], _ =>
    have e0 := hel 0 (by decide)
    have e1 := hel 1 (by decide)
    match xs, hxl with
    | [y0, y1], _ =>
      rw [cells3] at e0 e1
      simp [Value.cells] at e0 e1
      obtain ⟨k0, q0, _, _⟩ := DataW.trod_int Try.underlying3 e0
      obtain ⟨k1, q1, _, _⟩ := DataW.trod_int Try.underlying3 e1
      simp at q0 q1
      exact ⟨k0, k1, by rw [q0, q1]⟩

end

end Go.Proofs.Ytkppicocjipakaa
