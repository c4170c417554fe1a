/-
  How arguments are opened: a slice of frames, as the words of the walks, from its reading, whatever memory it lies in. No conditions.
-/
import Derived.Test.YtbpflpngaipckaaMem
import Derived.ProofKit
import Derived.OpenShut
import Derived.Lib.SmallJoins
import Derived.Deep.Slices
namespace Go.Proofs.Ytbpflpngaipckaa
open Go.ChangeShapes Go.WideShapes Go.ChangeAt Go.RowKit Go.Joins Go.Deep

theorem own : ownKnob Try.prog.godebug = none := by kernel_rfl
theorem laidOut : laidOutB Try.prog = true := by kernel_rfl
theorem cells9 : Try.prog.cellsOf 9 = 1 := by kernel_rfl
theorem cells3 : Try.prog.cellsOf 3 = 1 := by kernel_rfl
theorem cells48 : Try.prog.cellsOf 48 = 2 := by kernel_rfl

theorem open_frames {H : Type} {enc : TypeId × Value → H} {W : World} {r : Reach} {b0 : Nat} {v : Value} {d : DataW H} {p : List MemPlace} (hv : Value.okWide Try.prog W r b0 30 v) (h : DataW.Trod enc Try.prog W 0 (fun _ => true) true 30 v d p) :
    ∃ a len cap fs, v = .slice a len cap ∧ FramesAt W a len cap fs ∧ ∀ f ∈ fs, f.s.size ≤ maxLen := by
  obtain ⟨a0, len, cap, rfl⟩ := okWide_slice Try.underlying30 hv
  obtain ⟨fuel, hf⟩ := h
  rcases open_slice Try.underlying30 hf with ⟨hcs, _⟩ | ⟨x, l, c, m, n, D, Pl, hcs, _, hl, hm, hmm, _, hel⟩
  · simp [Value.cells] at hcs
    obtain ⟨rfl, rfl, rfl⟩ := hcs
    exact ⟨_, _, _, [], rfl, ⟨rfl, Nat.le_refl _, Nat.zero_le _, fun j hj => absurd hj (Nat.not_lt_zero _)⟩, fun f hf => by cases hf⟩
  · simp [Value.cells] at hcs
    obtain ⟨rfl, rfl, rfl⟩ := hcs
    simp only [if_true] at hmm
    subst hmm
    rw [cells48] at hel
    have hall : ∀ i, i < len → ∃ f : Int × ByteArray, W.cell? (x.add (i * 2)) = some (.int .i64 f.1) ∧ W.cell? (x.add (i * 2 + 1)) = some (.string f.2) ∧ f.2.size ≤ maxLen := by
      intro i hi
      obtain ⟨cs', hc, ht⟩ := hel i (by omega)
      obtain ⟨y0, y1, n', _, hlen, hy0, hy1⟩ := trod_struct2 Try.underlying48 ht
      obtain ⟨_, _, hcell⟩ := World.cells?_some hc
      rw [cells48] at hlen
      match cs', hlen with
      | [c0, c1], _ =>
        rw [show Try.prog.cellsOf 3 = 1 from cells3] at hy0
        rw [show Try.prog.cellsOf 9 = 1 from cells9] at hy1
        obtain ⟨k, e0, _, _⟩ := DataW.trod_int Try.underlying3 hy0
        obtain ⟨s, e1, _, hs⟩ := DataW.trod_string Try.underlying9 hy1
        simp at e0 e1
        subst e0 e1
        have q0 := hcell 0 (by omega)
        have q1 := hcell 1 (by omega)
        rw [add_add] at q0 q1
        exact ⟨(k, s), by simpa using q0, by simpa using q1, hs⟩
    obtain ⟨F, hF⟩ := choose_lt hall
    refine ⟨_, _, _, (List.range len).map fun i => ⟨(F i).1, (F i).2⟩, rfl, ⟨by simp, hl, hm, fun j hj => ?_⟩, ?_⟩
    · obtain ⟨b, off, spot⟩ := x
      obtain ⟨q0, q1, _⟩ := hF j hj
      have hspot : spot = none := by
        have h00 := (hF 0 (by omega)).1
        simpa [Addr.add] using World.cell?_spot h00
      subst hspot
      have e0 : ((⟨b, off, none⟩ : Addr).add (j * 2)) = ⟨b, off + j * 2, none⟩ := by unfold Addr.add; split <;> simp_all
      have e1 : ((⟨b, off, none⟩ : Addr).add (j * 2 + 1)) = ⟨b, off + j * 2 + 1, none⟩ := by unfold Addr.add; split <;> simp_all [Nat.add_assoc]
      rw [e0] at q0
      rw [e1] at q1
      refine ⟨b, off, rfl, World.block_lt_of_cell? W _ q0, q0.trans ?_, q1.trans ?_⟩
      · simp [List.getD, hj]
      · simp [List.getD, hj]
    · intro f hf
      simp only [List.mem_map, List.mem_range] at hf
      obtain ⟨i, hi, rfl⟩ := hf
      exact (hF i hi).2.2

end Go.Proofs.Ytbpflpngaipckaa
