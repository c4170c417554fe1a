/-
  How arguments are opened: a slice of ints, a slice of bools, a slice of steps, from their readings, whatever memory they lie in; how they last; the remainder of a number as uint. No conditions.
-/
import Derived.Test.YtcndgcfdopjjfaaLives
import Derived.Lib.SmallJoins
import Derived.Deep.Slices
namespace Go.Proofs.Ytcndgcfdopjjfaa
open Go.ChangeShapes Go.WideShapes Go.ChangeAt Go.RowKit Go.Joins Go.Deep

theorem cells4 : Try.prog.cellsOf 4 = 1 := by kernel_rfl
theorem cells32 : Try.prog.cellsOf 32 = 4 := by kernel_rfl

theorem um_bd (m z : Int) (h0 : 0 < m) (h1 : m ≤ 1000000) : 0 ≤ wrap64 ((IntKind.u64.wrap z).tmod m) ∧ wrap64 ((IntKind.u64.wrap z).tmod m) < m := by
  have e : IntKind.u64.wrap z = z % 18446744073709551616 := by simp [IntKind.wrap, IntKind.signed, IntKind.bits]
  have hnn : 0 ≤ z % 18446744073709551616 := Int.emod_nonneg _ (by decide)
  rw [e, Int.tmod_eq_emod_of_nonneg hnn]
  have a1 := Int.emod_nonneg (z % 18446744073709551616) (show m ≠ 0 by omega)
  have a2 := Int.emod_lt_of_pos (z % 18446744073709551616) h0
  generalize z % 18446744073709551616 % m = y at a1 a2
  have e2 : wrap64 y = y := by
    unfold wrap64
    omega
  rw [e2]
  exact ⟨a1, a2⟩

/-- A step: its kind, its id, its tick, its wait. -/
structure Stp where
  kd : Int
  id : Int
  now : Int
  wt : Int
def s0 : Stp := ⟨0, 0, 0, 0⟩

/-- The slice (a, len, cap) reads as the steps ss. -/
structure StepsAt (w : World) (a : Option Addr) (len cap : Nat) (ss : List Stp) : Prop where
  hlen : ss.length = len
  hle : len ≤ cap
  hcap : cap ≤ maxLen
  rd : ∀ j, j < len → ∃ b off, a = some ⟨b, off, none⟩ ∧ b < w.heap.size ∧ w.cell? ⟨b, off + j * 4, none⟩ = some (.int .i64 (ss.getD j s0).kd) ∧ w.cell? ⟨b, off + j * 4 + 1, none⟩ = some (.int .i64 (ss.getD j s0).id) ∧ w.cell? ⟨b, off + j * 4 + 2, none⟩ = some (.int .i64 (ss.getD j s0).now) ∧ w.cell? ⟨b, off + j * 4 + 3, none⟩ = some (.int .i64 (ss.getD j s0).wt)

theorem StepsAt.below {w w' : World} {a : Option Addr} {len cap : Nat} {zs : List Stp} (h : StepsAt w a len cap zs) (hb : Below w.heap.size w w') : StepsAt w' a len cap zs := by
  refine ⟨h.hlen, h.hle, h.hcap, fun j hj => ?_⟩
  obtain ⟨b, off, e, hlt, h0, h1, h2, h3⟩ := h.rd j hj
  exact ⟨b, off, e, Nat.lt_of_lt_of_le hlt hb.size, (hb.cell (p := ⟨b, off + j * 4, none⟩) hlt).trans h0, (hb.cell (p := ⟨b, off + j * 4 + 1, none⟩) hlt).trans h1, (hb.cell (p := ⟨b, off + j * 4 + 2, none⟩) hlt).trans h2, (hb.cell (p := ⟨b, off + j * 4 + 3, none⟩) hlt).trans h3⟩
theorem StepsAt.take {w : World} {a : Option Addr} {len cap : Nat} {zs : List Stp} (h : StepsAt w a len cap zs) {n : Nat} (hn : n ≤ len) : StepsAt w a n cap (zs.take n) := by
  refine ⟨by rw [List.length_take, h.hlen]; omega, Nat.le_trans hn h.hle, h.hcap, fun j hj => ?_⟩
  have e1 : (zs.take n).getD j s0 = zs.getD j s0 := by simp [List.getD, hj]
  rw [e1]
  exact h.rd j (by omega)

/-- The slice (a, len, cap) reads as the bools bs. -/
structure BoolsAt (w : World) (a : Option Addr) (len cap : Nat) (bs : List Bool) : Prop where
  hlen : bs.length = len
  hle : len ≤ cap
  hcap : cap ≤ maxLen
  at_ : ∀ j, j < len → ∃ b off, a = some ⟨b, off, none⟩ ∧ b < w.heap.size ∧ w.cell? ⟨b, off + j, none⟩ = some (.bool (bs.getD j false))

theorem BoolsAt.below {w w' : World} {a : Option Addr} {len cap : Nat} {zs : List Bool} (h : BoolsAt w a len cap zs) (hb : Below w.heap.size w w') : BoolsAt w' a len cap zs := by
  refine ⟨h.hlen, h.hle, h.hcap, fun j hj => ?_⟩
  obtain ⟨b, off, e, hlt, hc⟩ := h.at_ j hj
  exact ⟨b, off, e, Nat.lt_of_lt_of_le hlt hb.size, (hb.cell (p := ⟨b, off + j, none⟩) hlt).trans hc⟩

section
variable {H : Type} {enc : TypeId × Value → H} {W : World} {r : Reach} {b0 : Nat} {v : Value} {d : DataW H} {p : List MemPlace}

set_option maxRecDepth 100000 in
theorem open_nums (hv : Value.okWide Try.prog W r b0 26 v) (h : DataW.Trod enc Try.prog W 0 (fun _ => true) true 26 v d p) :
    ∃ a len cap zs, v = .slice a len cap ∧ IntsAt W a len cap zs := by
  obtain ⟨a0, len, cap, rfl⟩ := okWide_slice Try.underlying26 hv
  obtain ⟨fuel, hf⟩ := h
  rcases open_ints Try.underlying26 Try.underlying3 cells3 hf with ⟨hcs, _⟩ | ⟨x, l, c, zs, hcs, _, hl, hm, hz, _, hcell, hwz⟩
  · simp [Value.cells] at hcs
    obtain ⟨rfl, rfl, rfl⟩ := hcs
    exact ⟨_, _, _, [], rfl, ⟨rfl, Nat.le_refl _, Nat.zero_le _, fun j hj => absurd hj (Nat.not_lt_zero _)⟩⟩
  · simp [Value.cells] at hcs
    obtain ⟨rfl, rfl, rfl⟩ := hcs
    simp only [if_true] at hz
    refine ⟨_, _, _, zs.take len, rfl, by rw [List.length_take]; omega, hl, hm, fun j hj => ?_⟩
    obtain ⟨b, off, spot⟩ := x
    have h0 := hcell j (by omega)
    have hspot : spot = none := by
      have h00 := hcell 0 (by omega)
      simpa [Addr.add] using World.cell?_spot h00
    subst hspot
    have e0 : ((⟨b, off, none⟩ : Addr).add j) = ⟨b, off + j, none⟩ := by unfold Addr.add; split <;> simp_all
    rw [e0] at h0
    refine ⟨b, off, rfl, World.block_lt_of_cell? W _ h0, h0.trans ?_⟩
    simp [List.getD, hj]

set_option maxRecDepth 100000 in
theorem open_flags (hv : Value.okWide Try.prog W r b0 54 v) (h : DataW.Trod enc Try.prog W 0 (fun _ => true) true 54 v d p) :
    ∃ a len cap bs, v = .slice a len cap ∧ BoolsAt W a len cap bs := by
  obtain ⟨a0, len, cap, rfl⟩ := okWide_slice Try.underlying54 hv
  obtain ⟨fuel, hf⟩ := h
  rcases open_slice Try.underlying54 hf with ⟨hcs, _⟩ | ⟨x, l, c, m, n, D, Pl, hcs, _, hl, hm, hmm, _, hel⟩
  · simp [Value.cells] at hcs
    obtain ⟨rfl, rfl, rfl⟩ := hcs
    exact ⟨_, _, _, [], rfl, ⟨rfl, Nat.le_refl _, Nat.zero_le _, fun j hj => absurd hj (Nat.not_lt_zero _)⟩⟩
  · simp [Value.cells] at hcs
    obtain ⟨rfl, rfl, rfl⟩ := hcs
    simp only [if_true] at hmm
    subst hmm
    rw [cells4] at hel
    have hall : ∀ i, i < len → ∃ f : Bool, W.cell? (x.add i) = some (.bool f) := by
      intro i hi
      obtain ⟨cs', hc, ht⟩ := hel i (by omega)
      obtain ⟨hlen, _, hcell⟩ := World.cells?_some hc
      rw [Nat.mul_one] at hcell
      match cs', hlen with
      | [c0], _ =>
        obtain ⟨k, e0, _⟩ := DataW.trod_bool Try.underlying4 ht
        simp at e0
        subst e0
        have q0 := hcell 0 (by omega)
        rw [add_add] at q0
        exact ⟨k, by simpa using q0⟩
    obtain ⟨F, hF⟩ := choose_lt hall
    refine ⟨_, _, _, (List.range len).map F, rfl, ⟨by simp, hl, hm, fun j hj => ?_⟩⟩
    obtain ⟨b, off, spot⟩ := x
    have q0 := hF j hj
    have hspot : spot = none := by
      have h00 := hF 0 (by omega)
      simpa [Addr.add] using World.cell?_spot h00
    subst hspot
    have e0 : ((⟨b, off, none⟩ : Addr).add j) = ⟨b, off + j, none⟩ := by unfold Addr.add; split <;> simp_all
    rw [e0] at q0
    refine ⟨b, off, rfl, World.block_lt_of_cell? W _ q0, q0.trans ?_⟩
    simp [List.getD, hj]

set_option maxRecDepth 100000 in
theorem open_steps (hv : Value.okWide Try.prog W r b0 22 v) (h : DataW.Trod enc Try.prog W 0 (fun _ => true) true 22 v d p) :
    ∃ a len cap ss, v = .slice a len cap ∧ StepsAt W a len cap ss := by
  obtain ⟨a0, len, cap, rfl⟩ := okWide_slice Try.underlying22 hv
  obtain ⟨fuel, hf⟩ := h
  rcases open_slice Try.underlying22 hf with ⟨hcs, _⟩ | ⟨x, l, c, m, n, D, Pl, hcs, _, hl, hm, hmm, _, hel⟩
  · simp [Value.cells] at hcs
    obtain ⟨rfl, rfl, rfl⟩ := hcs
    exact ⟨_, _, _, [], rfl, ⟨rfl, Nat.le_refl _, Nat.zero_le _, fun j hj => absurd hj (Nat.not_lt_zero _)⟩⟩
  · simp [Value.cells] at hcs
    obtain ⟨rfl, rfl, rfl⟩ := hcs
    simp only [if_true] at hmm
    subst hmm
    rw [cells32] at hel
    have hall : ∀ i, i < len → ∃ f : Int × Int × Int × Int, W.cell? (x.add (i * 4)) = some (.int .i64 f.1) ∧ W.cell? (x.add (i * 4 + 1)) = some (.int .i64 f.2.1) ∧ W.cell? (x.add (i * 4 + 2)) = some (.int .i64 f.2.2.1) ∧ W.cell? (x.add (i * 4 + 3)) = some (.int .i64 f.2.2.2) := by
      intro i hi
      obtain ⟨cs', hc, ht⟩ := hel i (by omega)
      obtain ⟨y0, y1, y2, y3, n', _, hlen, hy0, hy1, hy2, hy3⟩ := trod_struct4 Try.underlying32 ht
      obtain ⟨_, _, hcell⟩ := World.cells?_some hc
      rw [cells32] at hlen
      match cs', hlen with
      | [c0, c1, c2, c3], _ =>
        rw [show Try.prog.cellsOf 3 = 1 from cells3] at hy0 hy1 hy2 hy3
        obtain ⟨k, e0, _, _⟩ := DataW.trod_int Try.underlying3 hy0
        obtain ⟨k1, e1, _, _⟩ := DataW.trod_int Try.underlying3 hy1
        obtain ⟨k2, e2, _, _⟩ := DataW.trod_int Try.underlying3 hy2
        obtain ⟨k3, e3, _, _⟩ := DataW.trod_int Try.underlying3 hy3
        simp at e0 e1 e2 e3
        subst e0 e1 e2 e3
        have q0 := hcell 0 (by omega)
        have q1 := hcell 1 (by omega)
        have q2 := hcell 2 (by omega)
        have q3 := hcell 3 (by omega)
        rw [add_add] at q0 q1 q2 q3
        exact ⟨(k, k1, k2, k3), by simpa using q0, by simpa using q1, by simpa using q2, by simpa using q3⟩
    obtain ⟨F, hF⟩ := choose_lt hall
    refine ⟨_, _, _, (List.range len).map fun i => ⟨(F i).1, (F i).2.1, (F i).2.2.1, (F i).2.2.2⟩, rfl, ⟨by simp, hl, hm, fun j hj => ?_⟩⟩
    obtain ⟨b, off, spot⟩ := x
    obtain ⟨q0, q1, q2, q3⟩ := hF j hj
    have hspot : spot = none := by
      have h00 := (hF 0 (by omega)).1
      simpa [Addr.add] using World.cell?_spot h00
    subst hspot
    have e0 : ((⟨b, off, none⟩ : Addr).add (j * 4)) = ⟨b, off + j * 4, none⟩ := by unfold Addr.add; split <;> simp_all
    have e1 : ((⟨b, off, none⟩ : Addr).add (j * 4 + 1)) = ⟨b, off + j * 4 + 1, none⟩ := by unfold Addr.add; split <;> simp_all [Nat.add_assoc]
    have e2 : ((⟨b, off, none⟩ : Addr).add (j * 4 + 2)) = ⟨b, off + j * 4 + 2, none⟩ := by unfold Addr.add; split <;> simp_all [Nat.add_assoc]
    have e3 : ((⟨b, off, none⟩ : Addr).add (j * 4 + 3)) = ⟨b, off + j * 4 + 3, none⟩ := by unfold Addr.add; split <;> simp_all [Nat.add_assoc]
    rw [e0] at q0
    rw [e1] at q1
    rw [e2] at q2
    rw [e3] at q3
    refine ⟨b, off, rfl, World.block_lt_of_cell? W _ q0, q0.trans ?_, q1.trans ?_, q2.trans ?_, q3.trans ?_⟩ <;> simp [List.getD, hj]

end

end Go.Proofs.Ytcndgcfdopjjfaa
