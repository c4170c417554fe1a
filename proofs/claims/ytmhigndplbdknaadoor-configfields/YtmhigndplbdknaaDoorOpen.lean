/-
  How arguments are opened: a config by value, an array of two ints, a text; each from its reading. No conditions.
-/
import Derived.Test.YtmhigndplbdknaaDoorLaid
import Derived.Test.YtmhigndplbdknaaDoorText
import Derived.Lib.SmallJoins
import Derived.Deep.Slices
namespace Go.Proofs.YtmhigndplbdknaaDoor
open Go.ChangeShapes Go.WideShapes Go.ChangeAt Go.RowKit Go.Joins Go.Deep

set_option maxRecDepth 100000 in
theorem open_str {H : Type} {enc : TypeId × Value → H} {W : World} {r : Reach} {b0 : Nat} {v : Value} {d : DataW H} {p : List MemPlace} (hv : Value.okWide Tryd.prog W r b0 9 v) (h : DataW.Trod enc Tryd.prog W 0 (fun _ => true) true 9 v d p) :
    ∃ s, v = .string s ∧ s.size ≤ maxLen := by
  obtain ⟨s0, rfl⟩ := okWide_string Tryd.underlying9 hv
  obtain ⟨fuel, hf⟩ := h
  obtain ⟨s, e1, _, hs⟩ := DataW.trod_string Tryd.underlying9 hf
  simp [Value.cells] at e1
  subst e1
  exact ⟨_, rfl, hs⟩

set_option maxRecDepth 100000 in
theorem open_arr2 {H : Type} {enc : TypeId × Value → H} {W : World} {r : Reach} {b0 : Nat} {v : Value} {d : DataW H} {p : List MemPlace} (hv : Value.okWide Tryd.prog W r b0 44 v) (h : DataW.Trod enc Tryd.prog W 0 (fun _ => true) true 44 v d p) :
    ∃ x y, v = .agg #[.int .i64 x, .int .i64 y] := by
  unfold Value.okWide at hv
  rw [Tryd.underlying44] at hv
  obtain ⟨cs, rfl, hsz, _⟩ := hv
  rw [cells44] at hsz
  obtain ⟨fuel, hf⟩ := h
  obtain ⟨xs, m, _, _, _, hxl, hel⟩ := DataW.trod_array Tryd.underlying44 hf
  obtain ⟨cs⟩ := cs
  match cs, hsz with
  | [c0, c1], _ =>
    have e0 := hel 0 (by decide)
    have e1 := hel 1 (by decide)
    match xs, hxl with
    | [y0, y1], _ =>
      rw [cells3] at e0 e1
      simp [Value.cells] at e0 e1
      obtain ⟨k0, q0, _, _⟩ := DataW.trod_int Tryd.underlying3 e0
      obtain ⟨k1, q1, _, _⟩ := DataW.trod_int Tryd.underlying3 e1
      simp at q0 q1
      exact ⟨k0, k1, by rw [q0, q1]⟩

set_option maxRecDepth 100000 in
theorem open_cfg {H : Type} {enc : TypeId × Value → H} {W : World} {r : Reach} {b0 : Nat} {v : Value} {d : DataW H} {p : List MemPlace} (hv : Value.okWide Tryd.prog W r b0 23 v) (h : DataW.Trod enc Tryd.prog W 0 (fun _ => true) true 23 v d p) :
    ∃ l, v = .agg (cc l) ∧ l.length = 15 ∧ ok64 l := by
  obtain ⟨cs, rfl, hsz⟩ := okWide_struct Tryd.underlying23 hv
  rw [cells23] at hsz
  obtain ⟨fuel, hf⟩ := h
  obtain ⟨xs, n, _, _, _, hxl, hel⟩ := DataW.trod_struct Tryd.underlying23 hf
  have hall : ∀ i, i < 15 → ∃ k : Int, cs[i]? = some (.int .i64 k) ∧ (-9223372036854775808 ≤ k ∧ k ≤ 9223372036854775807) := by
    intro i hi
    have hone : DataW.trod enc Tryd.prog W 0 (fun _ => true) true n 3 ((cs.toList.drop i).take (Tryd.prog.cellsOf 3)) = xs[i]? := by
      match i, hi with
      | 0, _ => exact hel 0 _ rfl
      | 1, _ => exact hel 1 _ rfl
      | 2, _ => exact hel 2 _ rfl
      | 3, _ => exact hel 3 _ rfl
      | 4, _ => exact hel 4 _ rfl
      | 5, _ => exact hel 5 _ rfl
      | 6, _ => exact hel 6 _ rfl
      | 7, _ => exact hel 7 _ rfl
      | 8, _ => exact hel 8 _ rfl
      | 9, _ => exact hel 9 _ rfl
      | 10, _ => exact hel 10 _ rfl
      | 11, _ => exact hel 11 _ rfl
      | 12, _ => exact hel 12 _ rfl
      | 13, _ => exact hel 13 _ rfl
      | 14, _ => exact hel 14 _ rfl
    rw [cells3] at hone
    have hlt : i < cs.toList.length := by simp; omega
    rw [List.drop_eq_getElem_cons hlt, List.take_succ_cons, List.take_zero, List.getElem?_eq_getElem (by rw [hxl]; exact hi)] at hone
    obtain ⟨k, q, _, wk⟩ := DataW.trod_int Tryd.underlying3 hone
    simp only [List.cons.injEq, and_true] at q
    refine ⟨k, ?_, bounds_i64 wk⟩
    rw [← Array.getElem?_toList, List.getElem?_eq_getElem hlt, q]
  obtain ⟨F, hF⟩ := choose_lt hall
  refine ⟨(List.range 15).map F, ?_, by simp, ?_⟩
  · congr 1
    apply Array.ext_getElem?
    intro i
    by_cases hi : i < 15
    · rw [(hF i hi).1, cc_get _ i (by simpa using hi)]
      simp [List.getD, hi]
    · rw [Array.getElem?_eq_none (by omega), Array.getElem?_eq_none (by rw [cc_size]; simp; omega)]
  · intro v hv
    simp only [List.mem_map, List.mem_range] at hv
    obtain ⟨i, hi, rfl⟩ := hv
    exact (hF i hi).2

end Go.Proofs.YtmhigndplbdknaaDoor
