/-
  How arguments are opened: a slice of ints, a slice of steps, from their readings, whatever memory they lie in; how they last; early and kind of the laws; the remainder of a number as uint. No conditions.
-/
import Derived.Test.YtedbiaopbfejfaaTake
import Derived.Lib.SmallJoins
import Derived.Deep.Slices
namespace Go.Proofs.Ytedbiaopbfejfaa
open Go.ChangeShapes Go.WideShapes Go.ChangeAt Go.RowKit Go.Joins Go.Deep

theorem cells32 : Try.prog.cellsOf 32 = 2 := by kernel_rfl

theorem um_bd (m z : Int) (h0 : 0 < m) (h1 : m ≤ 1000000) : 0 ≤ wrap64 ((IntKind.u64.wrap z).tmod m) ∧ wrap64 ((IntKind.u64.wrap z).tmod m) < m := by
  have e : IntKind.u64.wrap z = z % 18446744073709551616 := by simp [IntKind.wrap, IntKind.signed, IntKind.bits]
  have hnn : 0 ≤ z % 18446744073709551616 := Int.emod_nonneg _ (by decide)
  rw [e, Int.tmod_eq_emod_of_nonneg hnn]
  have a1 := Int.emod_nonneg (z % 18446744073709551616) (show m ≠ 0 by omega)
  have a2 := Int.emod_lt_of_pos (z % 18446744073709551616) h0
  generalize z % 18446744073709551616 % m = y at a1 a2
  have e2 : wrap64 y = y := by
    unfold wrap64
    omega
  rw [e2]
  exact ⟨a1, a2⟩

/-- A step: its kind, its id. -/
structure Stp where
  kd : Int
  id : Int
def s0 : Stp := ⟨0, 0⟩

/-- The slice (a, len, cap) reads as the steps ss. -/
structure StepsAt (w : World) (a : Option Addr) (len cap : Nat) (ss : List Stp) : Prop where
  hlen : ss.length = len
  hle : len ≤ cap
  hcap : cap ≤ maxLen
  rd : ∀ j, j < len → ∃ b off, a = some ⟨b, off, none⟩ ∧ b < w.heap.size ∧ w.cell? ⟨b, off + j * 2, none⟩ = some (.int .i64 (ss.getD j s0).kd) ∧ w.cell? ⟨b, off + j * 2 + 1, none⟩ = some (.int .i64 (ss.getD j s0).id) ∧ Wf (ss.getD j s0).id

theorem StepsAt.below {w w' : World} {a : Option Addr} {len cap : Nat} {zs : List Stp} (h : StepsAt w a len cap zs) (hb : Below w.heap.size w w') : StepsAt w' a len cap zs := by
  refine ⟨h.hlen, h.hle, h.hcap, fun j hj => ?_⟩
  obtain ⟨b, off, e, hlt, h0, h1, h2⟩ := h.rd j hj
  exact ⟨b, off, e, Nat.lt_of_lt_of_le hlt hb.size, (hb.cell (p := ⟨b, off + j * 2, none⟩) hlt).trans h0, (hb.cell (p := ⟨b, off + j * 2 + 1, none⟩) hlt).trans h1, h2⟩

section
variable {H : Type} {enc : TypeId × Value → H} {W : World} {r : Reach} {b0 : Nat} {v : Value} {d : DataW H} {p : List MemPlace}

set_option maxRecDepth 100000 in
theorem open_nums (hv : Value.okWide Try.prog W r b0 26 v) (h : DataW.Trod enc Try.prog W 0 (fun _ => true) true 26 v d p) :
    ∃ a len cap zs, v = .slice a len cap ∧ IntsAt W a len cap zs := by
  obtain ⟨a0, len, cap, rfl⟩ := okWide_slice Try.underlying26 hv
  obtain ⟨fuel, hf⟩ := h
  rcases open_ints Try.underlying26 Try.underlying3 cells3 hf with ⟨hcs, _⟩ | ⟨x, l, c, zs, hcs, _, hl, hm, hz, _, hcell, hwz⟩
  · simp [Value.cells] at hcs
    obtain ⟨rfl, rfl, rfl⟩ := hcs
    exact ⟨_, _, _, [], rfl, ⟨rfl, Nat.le_refl _, Nat.zero_le _, fun j hj => absurd hj (Nat.not_lt_zero _)⟩⟩
  · simp [Value.cells] at hcs
    obtain ⟨rfl, rfl, rfl⟩ := hcs
    simp only [if_true] at hz
    refine ⟨_, _, _, zs.take len, rfl, by rw [List.length_take]; omega, hl, hm, fun j hj => ?_⟩
    obtain ⟨b, off, spot⟩ := x
    have h0 := hcell j (by omega)
    have hspot : spot = none := by
      have h00 := hcell 0 (by omega)
      simpa [Addr.add] using World.cell?_spot h00
    subst hspot
    have e0 : ((⟨b, off, none⟩ : Addr).add j) = ⟨b, off + j, none⟩ := by unfold Addr.add; split <;> simp_all
    rw [e0] at h0
    refine ⟨b, off, rfl, World.block_lt_of_cell? W _ h0, h0.trans ?_⟩
    simp [List.getD, hj]

set_option maxRecDepth 100000 in
theorem open_steps (hv : Value.okWide Try.prog W r b0 22 v) (h : DataW.Trod enc Try.prog W 0 (fun _ => true) true 22 v d p) :
    ∃ a len cap ss, v = .slice a len cap ∧ StepsAt W a len cap ss := by
  obtain ⟨a0, len, cap, rfl⟩ := okWide_slice Try.underlying22 hv
  obtain ⟨fuel, hf⟩ := h
  rcases open_slice Try.underlying22 hf with ⟨hcs, _⟩ | ⟨x, l, c, m, n, D, Pl, hcs, _, hl, hm, hmm, _, hel⟩
  · simp [Value.cells] at hcs
    obtain ⟨rfl, rfl, rfl⟩ := hcs
    exact ⟨_, _, _, [], rfl, ⟨rfl, Nat.le_refl _, Nat.zero_le _, fun j hj => absurd hj (Nat.not_lt_zero _)⟩⟩
  · simp [Value.cells] at hcs
    obtain ⟨rfl, rfl, rfl⟩ := hcs
    simp only [if_true] at hmm
    subst hmm
    rw [cells32] at hel
    have hall : ∀ i, i < len → ∃ f : Int × Int, W.cell? (x.add (i * 2)) = some (.int .i64 f.1) ∧ W.cell? (x.add (i * 2 + 1)) = some (.int .i64 f.2) ∧ Wf f.2 := by
      intro i hi
      obtain ⟨cs', hc, ht⟩ := hel i (by omega)
      obtain ⟨y0, y1, n', _, hlen, hy0, hy1⟩ := trod_struct2 Try.underlying32 ht
      obtain ⟨_, _, hcell⟩ := World.cells?_some hc
      rw [cells32] at hlen
      match cs', hlen with
      | [c0, c1], _ =>
        rw [show Try.prog.cellsOf 3 = 1 from cells3] at hy0 hy1
        obtain ⟨k, e0, _, _⟩ := DataW.trod_int Try.underlying3 hy0
        obtain ⟨k1, e1, _, hw1⟩ := DataW.trod_int Try.underlying3 hy1
        simp at e0 e1
        subst e0 e1
        have q0 := hcell 0 (by omega)
        have q1 := hcell 1 (by omega)
        rw [add_add] at q0 q1
        exact ⟨(k, k1), by simpa using q0, by simpa using q1, hw1⟩
    obtain ⟨F, hF⟩ := choose_lt hall
    refine ⟨_, _, _, (List.range len).map fun i => ⟨(F i).1, (F i).2⟩, rfl, ⟨by simp, hl, hm, fun j hj => ?_⟩⟩
    obtain ⟨b, off, spot⟩ := x
    obtain ⟨q0, q1, q2⟩ := hF j hj
    have hspot : spot = none := by
      have h00 := (hF 0 (by omega)).1
      simpa [Addr.add] using World.cell?_spot h00
    subst hspot
    have e0 : ((⟨b, off, none⟩ : Addr).add (j * 2)) = ⟨b, off + j * 2, none⟩ := by unfold Addr.add; split <;> simp_all
    have e1 : ((⟨b, off, none⟩ : Addr).add (j * 2 + 1)) = ⟨b, off + j * 2 + 1, none⟩ := by unfold Addr.add; split <;> simp_all [Nat.add_assoc]
    rw [e0] at q0
    rw [e1] at q1
    have e2 : (((List.range len).map fun i => (⟨(F i).1, (F i).2⟩ : Stp)).getD j s0) = ⟨(F j).1, (F j).2⟩ := by simp [List.getD, hj]
    rw [e2]
    exact ⟨b, off, rfl, World.block_lt_of_cell? W _ q0, q0, q1, q2⟩

end

/-- A step's kind. -/
def kindI (z : Int) : Int := wrap64 ((IntKind.u64.wrap z).tmod 6)
theorem kindI_of (z : Int) : (kindI z = 0 ∨ kindI z = 1) ∨ kindI z = 2 ∨ kindI z = 3 ∨ kindI z = 4 ∨ kindI z = 5 := by
  have := um_bd 6 z (by decide) (by decide)
  unfold kindI
  omega

set_option maxRecDepth 100000 in
theorem kind_step (kd id : Int) (w : World) :
    Calls Try.prog 12 #[.agg #[.int .i64 kd, .int .i64 id]] w fun e w' => e = .returned (.int .i64 (kindI kd)) ∧ Below w.heap.size w w' := by
  have hb : Below w.heap.size w (w.alloc (.cells #[.int .i64 kd, .int .i64 id] 32)) := (Below.refl _ w).alloc (Nat.le_refl _) _
  have HX : Hid (wrap64 ((IntKind.u64.wrap kd).tmod 6) = kindI kd) := rfl
  go_enter Try.func12, Try.ntmps12
  go_wp2
  go_ret
  exact ⟨by first | rfl | (rw [← HX.out]), hb⟩

set_option maxRecDepth 100000 in
theorem early_any (a : Option Addr) (len cap n : Nat) (hl : len ≤ cap) (hn : min len 100 = n) (w : World) :
    Calls Try.prog 11 #[.slice a len cap] w fun e w' => e = .returned (.slice a n cap) ∧ w' = w := by
  have hn2 : Hid ((min (len : Int) 100).toNat = n) := by show _ = _; omega
  clear hn
  go_enter Try.func11, Try.ntmps11
  go_wp2
  go_ret
  refine ⟨?_, rfl⟩
  show Ending.returned (.slice a (min (len : Int) 100).toNat cap) = _
  rw [hn2.out]

end Go.Proofs.Ytedbiaopbfejfaa
