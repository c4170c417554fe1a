/-
  How arguments are opened: a pair of ints, a slice of bools, a slice of steps, from their readings, whatever memory they lie in. No conditions.
-/
import Derived.Test.YtahdeliopmkpmaaStrs
namespace Go.Proofs.Ytahdeliopmkpmaa
open Go.ChangeShapes Go.WideShapes Go.ChangeAt Go.RowKit Go.Joins Go.Deep

theorem cells4 : Try.prog.cellsOf 4 = 1 := by kernel_rfl
theorem cells31 : Try.prog.cellsOf 31 = 3 := by kernel_rfl
theorem cells54 : Try.prog.cellsOf 54 = 2 := by kernel_rfl

/-- A step: its kind, its key, its deadline. -/
structure Stp where
  kd : Int
  key : Int
  at_ : Int
def s0 : Stp := ⟨0, 0, 0⟩

/-- The slice (a, len, cap) reads as the steps ss; their keys are ints. -/
structure StepsAt (w : World) (a : Option Addr) (len cap : Nat) (ss : List Stp) : Prop where
  hlen : ss.length = len
  hle : len ≤ cap
  hcap : cap ≤ maxLen
  wf : ∀ s ∈ ss, Wf s.kd ∧ Wf s.key ∧ Wf s.at_
  rd : ∀ j, j < len → ∃ b off, a = some ⟨b, off, none⟩ ∧ b < w.heap.size ∧ w.cell? ⟨b, off + j * 3, none⟩ = some (.int .i64 (ss.getD j s0).kd) ∧ w.cell? ⟨b, off + j * 3 + 1, none⟩ = some (.int .i64 (ss.getD j s0).key) ∧ w.cell? ⟨b, off + j * 3 + 2, none⟩ = some (.int .i64 (ss.getD j s0).at_)

theorem StepsAt.keep {w w' : World} {A : Nat → Prop} {a : Option Addr} {len cap : Nat} {zs : List Stp} (h : StepsAt w a len cap zs) (hk : Keep A w w') (hA : ∀ x, a = some x → A x.block) : StepsAt w' a len cap zs := by
  refine ⟨h.hlen, h.hle, h.hcap, h.wf, fun j hj => ?_⟩
  obtain ⟨b, off, e, hlt, h0, h1, h2⟩ := h.rd j hj
  have hb := hA ⟨b, off, none⟩ e
  exact ⟨b, off, e, Nat.lt_of_lt_of_le hlt hk.size, hk.cell h0 hb, hk.cell h1 hb, hk.cell h2 hb⟩

/-- The slice (a, len, cap) reads as the bools bs. -/
structure BoolsAt (w : World) (a : Option Addr) (len cap : Nat) (bs : List Bool) : Prop where
  hlen : bs.length = len
  hle : len ≤ cap
  hcap : cap ≤ maxLen
  at_ : ∀ j, j < len → ∃ b off, a = some ⟨b, off, none⟩ ∧ b < w.heap.size ∧ w.cell? ⟨b, off + j, none⟩ = some (.bool (bs.getD j false))

theorem BoolsAt.keep {w w' : World} {A : Nat → Prop} {a : Option Addr} {len cap : Nat} {zs : List Bool} (h : BoolsAt w a len cap zs) (hk : Keep A w w') (hA : ∀ x, a = some x → A x.block) : BoolsAt w' a len cap zs := by
  refine ⟨h.hlen, h.hle, h.hcap, fun j hj => ?_⟩
  obtain ⟨b, off, e, hlt, hc⟩ := h.at_ j hj
  exact ⟨b, off, e, Nat.lt_of_lt_of_le hlt hk.size, hk.cell hc (hA ⟨b, off, none⟩ e)⟩

section
variable {H : Type} {enc : TypeId × Value → H} {W : World} {r : Reach} {b0 : Nat} {v : Value} {d : DataW H} {p : List MemPlace}

set_option maxRecDepth 100000 in
theorem open_arr2 (hv : Value.okWide Try.prog W r b0 54 v) (h : DataW.Trod enc Try.prog W 0 (fun _ => true) true 54 v d p) :
    ∃ x y, v = .agg #[.int .i64 x, .int .i64 y] := by
  unfold Value.okWide at hv
  rw [Try.underlying54] at hv
  obtain ⟨cs, rfl, hsz, _⟩ := hv
  rw [cells54] at hsz
  obtain ⟨fuel, hf⟩ := h
  obtain ⟨xs, m, _, _, _, hxl, hel⟩ := DataW.trod_array Try.underlying54 hf
  obtain ⟨cs⟩ := cs
  match cs, hsz with
  | [c0, c1], _ =>
    have e0 := hel 0 (by decide)
    have e1 := hel 1 (by decide)
    match xs, hxl with
    | [y0, y1], _ =>
      rw [cells3] at e0 e1
      simp [Value.cells] at e0 e1
      obtain ⟨k0, q0, _, _⟩ := DataW.trod_int Try.underlying3 e0
      obtain ⟨k1, q1, _, _⟩ := DataW.trod_int Try.underlying3 e1
      simp at q0 q1
      exact ⟨k0, k1, by rw [q0, q1]⟩

set_option maxRecDepth 100000 in
theorem open_flags (hv : Value.okWide Try.prog W r b0 49 v) (h : DataW.Trod enc Try.prog W 0 (fun _ => true) true 49 v d p) :
    ∃ a len cap bs, v = .slice a len cap ∧ BoolsAt W a len cap bs := by
  obtain ⟨a0, len, cap, rfl⟩ := okWide_slice Try.underlying49 hv
  obtain ⟨fuel, hf⟩ := h
  rcases open_slice Try.underlying49 hf with ⟨hcs, _⟩ | ⟨x, l, c, m, n, D, Pl, hcs, _, hl, hm, hmm, _, hel⟩
  · simp [Value.cells] at hcs
    obtain ⟨rfl, rfl, rfl⟩ := hcs
    exact ⟨_, _, _, [], rfl, ⟨rfl, Nat.le_refl _, Nat.zero_le _, fun j hj => absurd hj (Nat.not_lt_zero _)⟩⟩
  · simp [Value.cells] at hcs
    obtain ⟨rfl, rfl, rfl⟩ := hcs
    simp only [if_true] at hmm
    subst hmm
    rw [cells4] at hel
    have hall : ∀ i, i < len → ∃ f : Bool, W.cell? (x.add i) = some (.bool f) := by
      intro i hi
      obtain ⟨cs', hc, ht⟩ := hel i (by omega)
      obtain ⟨hlen, _, hcell⟩ := World.cells?_some hc
      rw [Nat.mul_one] at hcell
      match cs', hlen with
      | [c0], _ =>
        obtain ⟨k, e0, _⟩ := DataW.trod_bool Try.underlying4 ht
        simp at e0
        subst e0
        have q0 := hcell 0 (by omega)
        rw [add_add] at q0
        exact ⟨k, by simpa using q0⟩
    obtain ⟨F, hF⟩ := choose_lt hall
    refine ⟨_, _, _, (List.range len).map F, rfl, ⟨by simp, hl, hm, fun j hj => ?_⟩⟩
    obtain ⟨b, off, spot⟩ := x
    have q0 := hF j hj
    have hspot : spot = none := by
      have h00 := hF 0 (by omega)
      simpa [Addr.add] using World.cell?_spot h00
    subst hspot
    have e0 : ((⟨b, off, none⟩ : Addr).add j) = ⟨b, off + j, none⟩ := by unfold Addr.add; split <;> simp_all
    rw [e0] at q0
    refine ⟨b, off, rfl, World.block_lt_of_cell? W _ q0, q0.trans ?_⟩
    simp [List.getD, hj]

set_option maxRecDepth 100000 in
theorem open_steps (hv : Value.okWide Try.prog W r b0 22 v) (h : DataW.Trod enc Try.prog W 0 (fun _ => true) true 22 v d p) :
    ∃ a len cap ss, v = .slice a len cap ∧ StepsAt W a len cap ss := by
  obtain ⟨a0, len, cap, rfl⟩ := okWide_slice Try.underlying22 hv
  obtain ⟨fuel, hf⟩ := h
  rcases open_slice Try.underlying22 hf with ⟨hcs, _⟩ | ⟨x, l, c, m, n, D, Pl, hcs, _, hl, hm, hmm, _, hel⟩
  · simp [Value.cells] at hcs
    obtain ⟨rfl, rfl, rfl⟩ := hcs
    exact ⟨_, _, _, [], rfl, ⟨rfl, Nat.le_refl _, Nat.zero_le _, fun s hs => by simp at hs, fun j hj => absurd hj (Nat.not_lt_zero _)⟩⟩
  · simp [Value.cells] at hcs
    obtain ⟨rfl, rfl, rfl⟩ := hcs
    simp only [if_true] at hmm
    subst hmm
    rw [cells31] at hel
    have hall : ∀ i, i < len → ∃ f : Int × Int × Int, W.cell? (x.add (i * 3)) = some (.int .i64 f.1) ∧ W.cell? (x.add (i * 3 + 1)) = some (.int .i64 f.2.1) ∧ W.cell? (x.add (i * 3 + 2)) = some (.int .i64 f.2.2) ∧ Wf f.1 ∧ Wf f.2.1 ∧ Wf f.2.2 := by
      intro i hi
      obtain ⟨cs', hc, ht⟩ := hel i (by omega)
      obtain ⟨y0, y1, y2, n', _, hlen, hy0, hy1, hy2⟩ := trod_struct3 Try.underlying31 ht
      obtain ⟨_, _, hcell⟩ := World.cells?_some hc
      rw [cells31] at hlen
      match cs', hlen with
      | [c0, c1, c2], _ =>
        rw [show Try.prog.cellsOf 3 = 1 from cells3] at hy0 hy1 hy2
        obtain ⟨k, e0, _, w0⟩ := DataW.trod_int Try.underlying3 hy0
        obtain ⟨k1, e1, _, w1⟩ := DataW.trod_int Try.underlying3 hy1
        obtain ⟨k2, e2, _, w2⟩ := DataW.trod_int Try.underlying3 hy2
        simp at e0 e1 e2
        subst e0 e1 e2
        have q0 := hcell 0 (by omega)
        have q1 := hcell 1 (by omega)
        have q2 := hcell 2 (by omega)
        rw [add_add] at q0 q1 q2
        exact ⟨(k, k1, k2), by simpa using q0, by simpa using q1, by simpa using q2, w0, w1, w2⟩
    obtain ⟨F, hF⟩ := choose_lt hall
    refine ⟨_, _, _, (List.range len).map fun i => ⟨(F i).1, (F i).2.1, (F i).2.2⟩, rfl, ⟨by simp, hl, hm, fun s hs => ?_, fun j hj => ?_⟩⟩
    · simp only [List.mem_map, List.mem_range] at hs
      obtain ⟨i, hi, rfl⟩ := hs
      exact (hF i hi).2.2.2
    · obtain ⟨b, off, spot⟩ := x
      obtain ⟨q0, q1, q2, _⟩ := hF j hj
      have hspot : spot = none := by
        have h00 := (hF 0 (by omega)).1
        simpa [Addr.add] using World.cell?_spot h00
      subst hspot
      have e0 : ((⟨b, off, none⟩ : Addr).add (j * 3)) = ⟨b, off + j * 3, none⟩ := by unfold Addr.add; split <;> simp_all
      have e1 : ((⟨b, off, none⟩ : Addr).add (j * 3 + 1)) = ⟨b, off + j * 3 + 1, none⟩ := by unfold Addr.add; split <;> simp_all [Nat.add_assoc]
      have e2 : ((⟨b, off, none⟩ : Addr).add (j * 3 + 2)) = ⟨b, off + j * 3 + 2, none⟩ := by unfold Addr.add; split <;> simp_all [Nat.add_assoc]
      rw [e0] at q0
      rw [e1] at q1
      rw [e2] at q2
      refine ⟨b, off, rfl, World.block_lt_of_cell? W _ q0, q0.trans ?_, q1.trans ?_, q2.trans ?_⟩ <;> simp [List.getD, hj]

end

end Go.Proofs.Ytahdeliopmkpmaa
