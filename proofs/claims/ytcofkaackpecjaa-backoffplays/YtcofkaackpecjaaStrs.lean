/-
  Words for what lies in memory: a slice of ints reads as a list, a slice of steps as a list of steps whose draws are ints; how they last, and how an argument is opened as one; the remainder of a number as uint. No conditions.
-/
import Derived.Test.YtcofkaackpecjaaLives
import Derived.ProofKit
import Derived.OpenShut
import Derived.Lib.SmallJoins
import Derived.Deep.Slices
namespace Go.Proofs.Ytcofkaackpecjaa
open Go.ChangeShapes Go.WideShapes Go.ChangeAt Go.RowKit Go.Joins Go.Deep

theorem cells3 : Try.prog.cellsOf 3 = 1 := by kernel_rfl
theorem cells31 : Try.prog.cellsOf 31 = 3 := by kernel_rfl

theorem um_bd (m z : Int) (h0 : 0 < m) (h1 : m ≤ 1000000) : 0 ≤ wrap64 ((IntKind.u64.wrap z).tmod m) ∧ wrap64 ((IntKind.u64.wrap z).tmod m) < m := by
  have e : IntKind.u64.wrap z = z % 18446744073709551616 := by simp [IntKind.wrap, IntKind.signed, IntKind.bits]
  have hnn : 0 ≤ z % 18446744073709551616 := Int.emod_nonneg _ (by decide)
  rw [e, Int.tmod_eq_emod_of_nonneg hnn]
  have a1 := Int.emod_nonneg (z % 18446744073709551616) (show m ≠ 0 by omega)
  have a2 := Int.emod_lt_of_pos (z % 18446744073709551616) h0
  generalize z % 18446744073709551616 % m = y at a1 a2
  have e2 : wrap64 y = y := by
    unfold wrap64
    omega
  rw [e2]
  exact ⟨a1, a2⟩

theorem in_of_wf {d : Int} (h : (Lit.int .i64 d).wf = true) : In d := by
  have m1 : IntKind.i64.min = -9223372036854775808 := by kernel_rfl
  have m2 : IntKind.i64.max = 9223372036854775807 := by kernel_rfl
  simp [Lit.wf, m1, m2] at h
  unfold In
  omega

/-- The slice (a, len, cap) reads as the ints zs. -/
structure IntsAt (w : World) (a : Option Addr) (len cap : Nat) (zs : List Int) : Prop where
  hlen : zs.length = len
  hle : len ≤ cap
  hcap : cap ≤ maxLen
  at_ : ∀ j, j < len → ∃ b off, a = some ⟨b, off, none⟩ ∧ b < w.heap.size ∧ w.cell? ⟨b, off + j, none⟩ = some (.int .i64 (zs.getD j 0))

theorem IntsAt.keep {w w' : World} {A : Nat → Prop} {a : Option Addr} {len cap : Nat} {zs : List Int} (h : IntsAt w a len cap zs) (hk : Keep A w w') (hA : ∀ x, a = some x → x.block < w.heap.size → A x.block) : IntsAt w' a len cap zs := by
  refine ⟨h.hlen, h.hle, h.hcap, fun j hj => ?_⟩
  obtain ⟨b, off, e, hlt, hc⟩ := h.at_ j hj
  exact ⟨b, off, e, Nat.lt_of_lt_of_le hlt hk.size, hk.cell hc (hA ⟨b, off, none⟩ e hlt)⟩
theorem IntsAt.below {w w' : World} {a : Option Addr} {len cap : Nat} {zs : List Int} (h : IntsAt w a len cap zs) (hb : Below w.heap.size w w') : IntsAt w' a len cap zs := by
  refine ⟨h.hlen, h.hle, h.hcap, fun j hj => ?_⟩
  obtain ⟨b, off, e, hlt, hc⟩ := h.at_ j hj
  exact ⟨b, off, e, Nat.lt_of_lt_of_le hlt hb.size, (hb.cell (p := ⟨b, off + j, none⟩) hlt).trans hc⟩
theorem IntsAt.take {w : World} {a : Option Addr} {len cap : Nat} {zs : List Int} (h : IntsAt w a len cap zs) {n : Nat} (hn : n ≤ len) : IntsAt w a n cap (zs.take n) := by
  refine ⟨by rw [List.length_take, h.hlen]; omega, Nat.le_trans hn h.hle, h.hcap, fun j hj => ?_⟩
  obtain ⟨b, off, e, hlt, hc⟩ := h.at_ j (by omega)
  refine ⟨b, off, e, hlt, hc.trans ?_⟩
  simp [List.getD, hj]

/-- A step: its kind, its tick, its draw. -/
structure Stp where
  kd : Int
  at_ : Int
  dr : Int
def s0 : Stp := ⟨0, 0, 0⟩

/-- The slice (a, len, cap) reads as the steps ss; their draws are ints. -/
structure StepsAt (w : World) (a : Option Addr) (len cap : Nat) (ss : List Stp) : Prop where
  hlen : ss.length = len
  hle : len ≤ cap
  hcap : cap ≤ maxLen
  wf : ∀ j, j < len → In (ss.getD j s0).dr
  rd : ∀ j, j < len → ∃ b off, a = some ⟨b, off, none⟩ ∧ b < w.heap.size ∧ w.cell? ⟨b, off + j * 3, none⟩ = some (.int .i64 (ss.getD j s0).kd) ∧ w.cell? ⟨b, off + j * 3 + 1, none⟩ = some (.int .i64 (ss.getD j s0).at_) ∧ w.cell? ⟨b, off + j * 3 + 2, none⟩ = some (.int .i64 (ss.getD j s0).dr)

theorem StepsAt.below {w w' : World} {a : Option Addr} {len cap : Nat} {zs : List Stp} (h : StepsAt w a len cap zs) (hb : Below w.heap.size w w') : StepsAt w' a len cap zs := by
  refine ⟨h.hlen, h.hle, h.hcap, h.wf, fun j hj => ?_⟩
  obtain ⟨b, off, e, hlt, h0, h1, h2⟩ := h.rd j hj
  exact ⟨b, off, e, Nat.lt_of_lt_of_le hlt hb.size, (hb.cell (p := ⟨b, off + j * 3, none⟩) hlt).trans h0, (hb.cell (p := ⟨b, off + j * 3 + 1, none⟩) hlt).trans h1, (hb.cell (p := ⟨b, off + j * 3 + 2, none⟩) hlt).trans h2⟩

section
variable {H : Type} {enc : TypeId × Value → H} {W : World} {r : Reach} {b0 : Nat} {v : Value} {d : DataW H} {p : List MemPlace}

set_option maxRecDepth 100000 in
theorem open_nums (hv : Value.okWide Try.prog W r b0 39 v) (h : DataW.Trod enc Try.prog W 0 (fun _ => true) true 39 v d p) :
    ∃ a len cap zs, v = .slice a len cap ∧ IntsAt W a len cap zs := by
  obtain ⟨a0, len, cap, rfl⟩ := okWide_slice Try.underlying39 hv
  obtain ⟨fuel, hf⟩ := h
  rcases open_ints Try.underlying39 Try.underlying3 cells3 hf with ⟨hcs, _⟩ | ⟨x, l, c, zs, hcs, _, hl, hm, hz, _, hcell, hwz⟩
  · simp [Value.cells] at hcs
    obtain ⟨rfl, rfl, rfl⟩ := hcs
    exact ⟨_, _, _, [], rfl, ⟨rfl, Nat.le_refl _, Nat.zero_le _, fun j hj => absurd hj (Nat.not_lt_zero _)⟩⟩
  · simp [Value.cells] at hcs
    obtain ⟨rfl, rfl, rfl⟩ := hcs
    simp only [if_true] at hz
    refine ⟨_, _, _, zs.take len, rfl, by rw [List.length_take]; omega, hl, hm, fun j hj => ?_⟩
    obtain ⟨b, off, spot⟩ := x
    have h0 := hcell j (by omega)
    have hspot : spot = none := by
      have h00 := hcell 0 (by omega)
      simpa [Addr.add] using World.cell?_spot h00
    subst hspot
    have e0 : ((⟨b, off, none⟩ : Addr).add j) = ⟨b, off + j, none⟩ := by unfold Addr.add; split <;> simp_all
    rw [e0] at h0
    refine ⟨b, off, rfl, World.block_lt_of_cell? W _ h0, h0.trans ?_⟩
    simp [List.getD, hj]

set_option maxRecDepth 100000 in
theorem open_steps (hv : Value.okWide Try.prog W r b0 22 v) (h : DataW.Trod enc Try.prog W 0 (fun _ => true) true 22 v d p) :
    ∃ a len cap ss, v = .slice a len cap ∧ StepsAt W a len cap ss := by
  obtain ⟨a0, len, cap, rfl⟩ := okWide_slice Try.underlying22 hv
  obtain ⟨fuel, hf⟩ := h
  rcases open_slice Try.underlying22 hf with ⟨hcs, _⟩ | ⟨x, l, c, m, n, D, Pl, hcs, _, hl, hm, hmm, _, hel⟩
  · simp [Value.cells] at hcs
    obtain ⟨rfl, rfl, rfl⟩ := hcs
    exact ⟨_, _, _, [], rfl, ⟨rfl, Nat.le_refl _, Nat.zero_le _, fun j hj => absurd hj (Nat.not_lt_zero _), fun j hj => absurd hj (Nat.not_lt_zero _)⟩⟩
  · simp [Value.cells] at hcs
    obtain ⟨rfl, rfl, rfl⟩ := hcs
    simp only [if_true] at hmm
    subst hmm
    rw [cells31] at hel
    have hall : ∀ i, i < len → ∃ f : Int × Int × Int, W.cell? (x.add (i * 3)) = some (.int .i64 f.1) ∧ W.cell? (x.add (i * 3 + 1)) = some (.int .i64 f.2.1) ∧ W.cell? (x.add (i * 3 + 2)) = some (.int .i64 f.2.2) ∧ In f.2.2 := by
      intro i hi
      obtain ⟨cs', hc, ht⟩ := hel i (by omega)
      obtain ⟨y0, y1, y2, n', _, hlen, hy0, hy1, hy2⟩ := trod_struct3 Try.underlying31 ht
      obtain ⟨_, _, hcell⟩ := World.cells?_some hc
      rw [cells31] at hlen
      match cs', hlen with
      | [c0, c1, c2], _ =>
        rw [show Try.prog.cellsOf 3 = 1 from cells3] at hy0 hy1 hy2
        obtain ⟨k, e0, _, w0⟩ := DataW.trod_int Try.underlying3 hy0
        obtain ⟨k1, e1, _, w1⟩ := DataW.trod_int Try.underlying3 hy1
        obtain ⟨k2, e2, _, w2⟩ := DataW.trod_int Try.underlying3 hy2
        simp at e0 e1 e2
        subst e0 e1 e2
        have q0 := hcell 0 (by omega)
        have q1 := hcell 1 (by omega)
        have q2 := hcell 2 (by omega)
        rw [add_add] at q0 q1 q2
        exact ⟨(k, k1, k2), by simpa using q0, by simpa using q1, by simpa using q2, in_of_wf w2⟩
    obtain ⟨F, hF⟩ := choose_lt hall
    refine ⟨_, _, _, (List.range len).map fun i => ⟨(F i).1, (F i).2.1, (F i).2.2⟩, rfl, ⟨by simp, hl, hm, fun j hj => ?_, fun j hj => ?_⟩⟩
    · have := (hF j hj).2.2.2
      simpa [List.getD, hj] using this
    · obtain ⟨b, off, spot⟩ := x
      obtain ⟨q0, q1, q2, _⟩ := hF j hj
      have hspot : spot = none := by
        have h00 := (hF 0 (by omega)).1
        simpa [Addr.add] using World.cell?_spot h00
      subst hspot
      have e0 : ((⟨b, off, none⟩ : Addr).add (j * 3)) = ⟨b, off + j * 3, none⟩ := by unfold Addr.add; split <;> simp_all
      have e1 : ((⟨b, off, none⟩ : Addr).add (j * 3 + 1)) = ⟨b, off + j * 3 + 1, none⟩ := by unfold Addr.add; split <;> simp_all [Nat.add_assoc]
      have e2 : ((⟨b, off, none⟩ : Addr).add (j * 3 + 2)) = ⟨b, off + j * 3 + 2, none⟩ := by unfold Addr.add; split <;> simp_all [Nat.add_assoc]
      rw [e0] at q0
      rw [e1] at q1
      rw [e2] at q2
      refine ⟨b, off, rfl, World.block_lt_of_cell? W _ q0, q0.trans ?_, q1.trans ?_, q2.trans ?_⟩ <;> simp [List.getD, hj]

end

end Go.Proofs.Ytcofkaackpecjaa
