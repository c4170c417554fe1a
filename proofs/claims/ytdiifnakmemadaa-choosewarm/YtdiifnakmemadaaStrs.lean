/-
  How a slice of hosts is opened from its reading, whatever memory it lies in. No conditions.
-/
import Derived.Test.YtdiifnakmemadaaMem
import Derived.Lib.SmallJoins
import Derived.Deep.Slices
namespace Go.Proofs.Ytdiifnakmemadaa
open Go.ChangeShapes Go.WideShapes Go.ChangeAt Go.RowKit Go.Joins Go.Deep

section
variable {H : Type} {enc : TypeId × Value → H} {W : World} {r : Reach} {b0 : Nat} {v : Value} {d : DataW H} {p : List MemPlace}

theorem trod_struct5 {P : Program} {w : World} {base : Nat} {spare : Nat → Bool} {held : Bool} {t : TypeId} {f0 f1 f2 f3 f4 : Field} {fuel : Nat} {cs : List Value} {x : DataW H × List MemPlace} (ht : P.underlying t = some (.struct #[f0, f1, f2, f3, f4])) (h : DataW.trod enc P w base spare held fuel t cs = some x) :
    ∃ y0 y1 y2 y3 y4 n, cs.length = P.cellsOf t ∧ DataW.trod enc P w base spare held n f0.type ((cs.drop f0.offset).take (P.cellsOf f0.type)) = some y0 ∧ DataW.trod enc P w base spare held n f1.type ((cs.drop f1.offset).take (P.cellsOf f1.type)) = some y1 ∧ DataW.trod enc P w base spare held n f2.type ((cs.drop f2.offset).take (P.cellsOf f2.type)) = some y2 ∧ DataW.trod enc P w base spare held n f3.type ((cs.drop f3.offset).take (P.cellsOf f3.type)) = some y3 ∧ DataW.trod enc P w base spare held n f4.type ((cs.drop f4.offset).take (P.cellsOf f4.type)) = some y4 := by
  obtain ⟨xs, n, _, rfl, hl, hlen, hf⟩ := DataW.trod_struct ht h
  match xs, hlen with
  | [y0, y1, y2, y3, y4], _ => exact ⟨y0, y1, y2, y3, y4, n, hl, by simpa using hf 0 f0 rfl, by simpa using hf 1 f1 rfl, by simpa using hf 2 f2 rfl, by simpa using hf 3 f3 rfl, by simpa using hf 4 f4 rfl⟩

set_option maxRecDepth 100000 in
theorem open_steps (hv : Value.okWide Try.prog W r b0 22 v) (h : DataW.Trod enc Try.prog W 0 (fun _ => true) true 22 v d p) :
    ∃ a len cap hs, v = .slice a len cap ∧ HostsAt W a len cap hs := by
  obtain ⟨a0, len, cap, rfl⟩ := okWide_slice Try.underlying22 hv
  obtain ⟨fuel, hf⟩ := h
  rcases open_slice Try.underlying22 hf with ⟨hcs, _⟩ | ⟨x, l, c, m, n, D, Pl, hcs, _, hl, hm, hmm, _, hel⟩
  · simp [Value.cells] at hcs
    obtain ⟨rfl, rfl, rfl⟩ := hcs
    exact ⟨_, _, _, [], rfl, HostsAt.nil _⟩
  · simp [Value.cells] at hcs
    obtain ⟨rfl, rfl, rfl⟩ := hcs
    simp only [if_true] at hmm
    subst hmm
    rw [cells43] at hel
    have hall : ∀ i, i < len → ∃ f : Hs, W.cell? (x.add (i * 5)) = some (.int .i64 f.st) ∧ W.cell? (x.add (i * 5 + 1)) = some (.int .i64 f.mg) ∧ W.cell? (x.add (i * 5 + 2)) = some (.int .i64 f.id) ∧ W.cell? (x.add (i * 5 + 3)) = some (.int .i64 f.bz) ∧ W.cell? (x.add (i * 5 + 4)) = some (.bool f.my) := by
      intro i hi
      obtain ⟨cs', hc, ht⟩ := hel i (by omega)
      obtain ⟨y0, y1, y2, y3, y4, n', hlen, hy0, hy1, hy2, hy3, hy4⟩ := trod_struct5 Try.underlying43 ht
      obtain ⟨_, _, hcell⟩ := World.cells?_some hc
      rw [cells43] at hlen
      match cs', hlen with
      | [c0, c1, c2, c3, c4], _ =>
        rw [show Try.prog.cellsOf 3 = 1 from cells3] at hy0 hy1 hy2 hy3
        rw [show Try.prog.cellsOf 4 = 1 from cells4] at hy4
        obtain ⟨k, e0, _, _⟩ := DataW.trod_int Try.underlying3 hy0
        obtain ⟨k1, e1, _, _⟩ := DataW.trod_int Try.underlying3 hy1
        obtain ⟨k2, e2, _, _⟩ := DataW.trod_int Try.underlying3 hy2
        obtain ⟨k3, e3, _, _⟩ := DataW.trod_int Try.underlying3 hy3
        obtain ⟨k4, e4, _⟩ := DataW.trod_bool Try.underlying4 hy4
        simp at e0 e1 e2 e3 e4
        subst e0 e1 e2 e3 e4
        have q0 := hcell 0 (by omega)
        have q1 := hcell 1 (by omega)
        have q2 := hcell 2 (by omega)
        have q3 := hcell 3 (by omega)
        have q4 := hcell 4 (by omega)
        rw [add_add] at q0 q1 q2 q3 q4
        exact ⟨⟨k, k1, k2, k3, k4⟩, by simpa using q0, by simpa using q1, by simpa using q2, by simpa using q3, by simpa using q4⟩
    have hinh : Inhabited Hs := ⟨z0⟩
    obtain ⟨F, hF⟩ := choose_lt hall
    refine ⟨_, _, _, (List.range len).map F, rfl, ⟨by simp, hl, hm, fun j hj => ?_⟩⟩
    obtain ⟨b, off, spot⟩ := x
    obtain ⟨q0, q1, q2, q3, q4⟩ := hF j hj
    have hspot : spot = none := by
      have h00 := (hF 0 (by omega)).1
      simpa [Addr.add] using World.cell?_spot h00
    subst hspot
    have e0 : ∀ k, ((⟨b, off, none⟩ : Addr).add k) = ⟨b, off + k, none⟩ := fun k => by unfold Addr.add; split <;> simp_all
    rw [e0] at q0 q1 q2 q3 q4
    have e2 : ((List.range len).map F).getD j z0 = F j := by simp [List.getD, hj]
    rw [e2]
    exact ⟨b, off, rfl, World.block_lt_of_cell? W _ q0, q0, q1, q2, q3, q4⟩

end

theorem um_bd (m z : Int) (h0 : 0 < m) (h1 : m ≤ 1000000) : 0 ≤ wrap64 ((IntKind.u64.wrap z).tmod m) ∧ wrap64 ((IntKind.u64.wrap z).tmod m) < m := by
  have e : IntKind.u64.wrap z = z % 18446744073709551616 := by simp [IntKind.wrap, IntKind.signed, IntKind.bits]
  have hnn : 0 ≤ z % 18446744073709551616 := Int.emod_nonneg _ (by decide)
  rw [e, Int.tmod_eq_emod_of_nonneg hnn]
  have a1 := Int.emod_nonneg (z % 18446744073709551616) (show m ≠ 0 by omega)
  have a2 := Int.emod_lt_of_pos (z % 18446744073709551616) h0
  generalize z % 18446744073709551616 % m = y at a1 a2
  have e2 : wrap64 y = y := by
    unfold wrap64
    omega
  rw [e2]
  exact ⟨a1, a2⟩

end Go.Proofs.Ytdiifnakmemadaa
