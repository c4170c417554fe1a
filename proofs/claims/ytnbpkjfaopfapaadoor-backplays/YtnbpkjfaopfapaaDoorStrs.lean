/-
  Words for what lies in memory: a slice of steps reads as a list of steps; how it lasts, and how an argument is opened as one, as a step, as a text. No conditions.
-/
import Derived.Test.YtnbpkjfaopfapaaDoorStep
import Derived.ProofKit
import Derived.OpenShut
import Derived.Lib.SmallJoins
import Derived.Deep.Slices
namespace Go.Proofs.YtnbpkjfaopfapaaDoor
open Go.ChangeShapes Go.WideShapes Go.ChangeAt Go.RowKit Go.Joins Go.Deep

theorem cells3 : Tryd.prog.cellsOf 3 = 1 := by kernel_rfl
theorem cellsSt : Tryd.prog.cellsOf 30 = 3 := by kernel_rfl

/-- A step: its kind, its two numbers. -/
structure Stp where
  kd : Int
  a : Int
  b : Int
def s0 : Stp := ⟨0, 0, 0⟩

/-- The slice (a, len, cap) reads as the steps ss. -/
structure StepsAt (w : World) (a : Option Addr) (len cap : Nat) (ss : List Stp) : Prop where
  hlen : ss.length = len
  hle : len ≤ cap
  hcap : cap ≤ maxLen
  rd : ∀ j, j < len → ∃ b off, a = some ⟨b, off, none⟩ ∧ b < w.heap.size ∧ w.cell? ⟨b, off + j * 3, none⟩ = some (.int .i64 (ss.getD j s0).kd) ∧ w.cell? ⟨b, off + j * 3 + 1, none⟩ = some (.int .i64 (ss.getD j s0).a) ∧ w.cell? ⟨b, off + j * 3 + 2, none⟩ = some (.int .i64 (ss.getD j s0).b)

theorem StepsAt.below {w w' : World} {a : Option Addr} {len cap : Nat} {zs : List Stp} (h : StepsAt w a len cap zs) (hb : Below w.heap.size w w') : StepsAt w' a len cap zs := by
  refine ⟨h.hlen, h.hle, h.hcap, fun j hj => ?_⟩
  obtain ⟨b, off, e, hlt, h0, h1, h2⟩ := h.rd j hj
  exact ⟨b, off, e, Nat.lt_of_lt_of_le hlt hb.size, (hb.cell (p := ⟨b, off + j * 3, none⟩) hlt).trans h0, (hb.cell (p := ⟨b, off + j * 3 + 1, none⟩) hlt).trans h1, (hb.cell (p := ⟨b, off + j * 3 + 2, none⟩) hlt).trans h2⟩

section
variable {H : Type} {enc : TypeId × Value → H} {W : World} {r : Reach} {b0 : Nat} {v : Value} {d : DataW H} {p : List MemPlace}

theorem open_str (hv : Value.okWide Tryd.prog W r b0 9 v) (h : DataW.Trod enc Tryd.prog W 0 (fun _ => true) true 9 v d p) :
    ∃ s, v = .string s ∧ s.size ≤ maxLen := by
  obtain ⟨s0, rfl⟩ := okWide_string Tryd.underlying9 hv
  obtain ⟨fuel, hf⟩ := h
  obtain ⟨s, e1, _, hs⟩ := DataW.trod_string Tryd.underlying9 hf
  simp [Value.cells] at e1
  subst e1
  exact ⟨_, rfl, hs⟩

set_option maxRecDepth 100000 in
theorem open_stp (hv : Value.okWide Tryd.prog W r b0 30 v) (h : DataW.Trod enc Tryd.prog W 0 (fun _ => true) true 30 v d p) :
    ∃ x y z, v = .agg #[.int .i64 x, .int .i64 y, .int .i64 z] := by
  unfold Value.okWide at hv
  rw [Tryd.underlying30] at hv
  obtain ⟨cs, rfl, hsz, _⟩ := hv
  rw [cellsSt] at hsz
  obtain ⟨fuel, hf⟩ := h
  obtain ⟨y0, y1, y2, n', _, hlen, hy0, hy1, hy2⟩ := trod_struct3 Tryd.underlying30 hf
  obtain ⟨cs⟩ := cs
  match cs, hsz with
  | [c0, c1, c2], _ =>
    rw [show Tryd.prog.cellsOf 3 = 1 from cells3] at hy0 hy1 hy2
    simp [Value.cells] at hy0 hy1 hy2
    obtain ⟨k0, q0, _, _⟩ := DataW.trod_int Tryd.underlying3 hy0
    obtain ⟨k1, q1, _, _⟩ := DataW.trod_int Tryd.underlying3 hy1
    obtain ⟨k2, q2, _, _⟩ := DataW.trod_int Tryd.underlying3 hy2
    simp at q0 q1 q2
    exact ⟨k0, k1, k2, by rw [q0, q1, q2]⟩

set_option maxRecDepth 100000 in
theorem open_steps (hv : Value.okWide Tryd.prog W r b0 22 v) (h : DataW.Trod enc Tryd.prog W 0 (fun _ => true) true 22 v d p) :
    ∃ a len cap ss, v = .slice a len cap ∧ StepsAt W a len cap ss := by
  obtain ⟨a0, len, cap, rfl⟩ := okWide_slice Tryd.underlying22 hv
  obtain ⟨fuel, hf⟩ := h
  rcases open_slice Tryd.underlying22 hf with ⟨hcs, _⟩ | ⟨x, l, c, m, n, D, Pl, hcs, _, hl, hm, hmm, _, hel⟩
  · simp [Value.cells] at hcs
    obtain ⟨rfl, rfl, rfl⟩ := hcs
    exact ⟨_, _, _, [], rfl, ⟨rfl, Nat.le_refl _, Nat.zero_le _, fun j hj => absurd hj (Nat.not_lt_zero _)⟩⟩
  · simp [Value.cells] at hcs
    obtain ⟨rfl, rfl, rfl⟩ := hcs
    simp only [if_true] at hmm
    subst hmm
    rw [cellsSt] at hel
    have hall : ∀ i, i < len → ∃ f : Int × Int × Int, W.cell? (x.add (i * 3)) = some (.int .i64 f.1) ∧ W.cell? (x.add (i * 3 + 1)) = some (.int .i64 f.2.1) ∧ W.cell? (x.add (i * 3 + 2)) = some (.int .i64 f.2.2) := by
      intro i hi
      obtain ⟨cs', hc, ht⟩ := hel i (by omega)
      obtain ⟨y0, y1, y2, n', _, hlen, hy0, hy1, hy2⟩ := trod_struct3 Tryd.underlying30 ht
      obtain ⟨_, _, hcell⟩ := World.cells?_some hc
      rw [cellsSt] at hlen
      match cs', hlen with
      | [c0, c1, c2], _ =>
        rw [show Tryd.prog.cellsOf 3 = 1 from cells3] at hy0 hy1 hy2
        obtain ⟨k, e0, _, w0⟩ := DataW.trod_int Tryd.underlying3 hy0
        obtain ⟨k1, e1, _, w1⟩ := DataW.trod_int Tryd.underlying3 hy1
        obtain ⟨k2, e2, _, w2⟩ := DataW.trod_int Tryd.underlying3 hy2
        simp at e0 e1 e2
        subst e0 e1 e2
        have q0 := hcell 0 (by omega)
        have q1 := hcell 1 (by omega)
        have q2 := hcell 2 (by omega)
        rw [add_add] at q0 q1 q2
        exact ⟨(k, k1, k2), by simpa using q0, by simpa using q1, by simpa using q2⟩
    obtain ⟨F, hF⟩ := choose_lt hall
    refine ⟨_, _, _, (List.range len).map fun i => ⟨(F i).1, (F i).2.1, (F i).2.2⟩, rfl, ⟨by simp, hl, hm, fun j hj => ?_⟩⟩
    · obtain ⟨b, off, spot⟩ := x
      obtain ⟨q0, q1, q2⟩ := hF j hj
      have hspot : spot = none := by
        have h00 := (hF 0 (by omega)).1
        simpa [Addr.add] using World.cell?_spot h00
      subst hspot
      have e0 : ((⟨b, off, none⟩ : Addr).add (j * 3)) = ⟨b, off + j * 3, none⟩ := by unfold Addr.add; split <;> simp_all
      have e1 : ((⟨b, off, none⟩ : Addr).add (j * 3 + 1)) = ⟨b, off + j * 3 + 1, none⟩ := by unfold Addr.add; split <;> simp_all [Nat.add_assoc]
      have e2 : ((⟨b, off, none⟩ : Addr).add (j * 3 + 2)) = ⟨b, off + j * 3 + 2, none⟩ := by unfold Addr.add; split <;> simp_all [Nat.add_assoc]
      rw [e0] at q0
      rw [e1] at q1
      rw [e2] at q2
      refine ⟨b, off, rfl, World.block_lt_of_cell? W _ q0, q0.trans ?_, q1.trans ?_, q2.trans ?_⟩ <;> simp [List.getD, hj]

end

end Go.Proofs.YtnbpkjfaopfapaaDoor
