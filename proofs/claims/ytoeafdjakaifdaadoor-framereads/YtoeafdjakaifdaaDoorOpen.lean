/-
  How arguments are opened: a slice of bytes, a frame, a slice of frames, as the words of the walks; each from its reading, whatever memory it lies in. No conditions.
-/
import Derived.Test.YtoeafdjakaifdaaDoorLaid
import Derived.Lib.SmallJoins
import Derived.Deep.Slices
namespace Go.Proofs.YtoeafdjakaifdaaDoor
open Go.ChangeShapes Go.WideShapes Go.ChangeAt Go.RowKit Go.Joins Go.Deep

theorem open_bytes {H : Type} {enc : TypeId × Value → H} {W : World} {r : Reach} {b0 : Nat} {v : Value} {d : DataW H} {p : List MemPlace} (hv : Value.okWide Tryd.prog W r b0 26 v) (h : DataW.Trod enc Tryd.prog W 0 (fun _ => true) true 26 v d p) :
    ∃ a len cap bs, v = .slice a len cap ∧ BytesAt W a len cap bs := by
  obtain ⟨a0, len, cap, rfl⟩ := okWide_slice Tryd.underlying26 hv
  obtain ⟨fuel, hf⟩ := h
  rcases open_ints Tryd.underlying26 Tryd.underlying5 cells5 hf with ⟨hcs, _⟩ | ⟨x, l, c, zs, hcs, _, hl, hm, hz, _, hcell, hwz⟩
  · simp [Value.cells] at hcs
    obtain ⟨rfl, rfl, rfl⟩ := hcs
    exact ⟨_, _, _, [], rfl, BytesAt.nil _ _ _ (Nat.zero_le _)⟩
  · simp [Value.cells] at hcs
    obtain ⟨rfl, rfl, rfl⟩ := hcs
    simp only [if_true] at hz
    refine ⟨_, _, _, (zs.take len).map fun n => UInt8.ofNat n.toNat, rfl, by rw [List.length_map, List.length_take]; omega, hl, hm, fun j hj => ?_⟩
    obtain ⟨b, off, spot⟩ := x
    have h0 := hcell j (by omega)
    have hspot : spot = none := by
      have h00 := hcell 0 (by omega)
      simpa [Addr.add] using World.cell?_spot h00
    subst hspot
    have e0 : ((⟨b, off, none⟩ : Addr).add j) = ⟨b, off + j, none⟩ := by unfold Addr.add; split <;> simp_all
    rw [e0] at h0
    refine ⟨b, off, rfl, World.block_lt_of_cell? W _ h0, h0.trans ?_⟩
    have hjz : j < zs.length := by omega
    have hbd := bounds_u8 (hwz zs[j] (List.getElem_mem hjz))
    have e1 : zs.getD j 0 = zs[j] := by simp [List.getD, hjz]
    have e2 : ((zs.take len).map fun n => UInt8.ofNat n.toNat).getD j 0 = UInt8.ofNat zs[j].toNat := by simp [List.getD, hjz, hj]
    rw [e1, e2, UInt8.toNat_ofNat']
    congr 2
    omega

theorem nil_bytes {H : Type} {enc : TypeId × Value → H} {W : World} {a : Option Addr} {len cap : Nat} {d : DataW H} {p : List MemPlace} (h : DataW.Trod enc Tryd.prog W 0 (fun _ => true) true 26 (.slice a len cap) d p) : a = none → len = 0 ∧ cap = 0 := by
  intro ha
  subst ha
  obtain ⟨fuel, hf⟩ := h
  rcases open_ints Tryd.underlying26 Tryd.underlying5 cells5 hf with ⟨hcs, _⟩ | ⟨x, l, c, zs, hcs, _⟩
  · simp [Value.cells] at hcs
    exact hcs
  · simp [Value.cells] at hcs

theorem open_frame {H : Type} {enc : TypeId × Value → H} {W : World} {r : Reach} {b0 : Nat} {v : Value} {d : DataW H} {p : List MemPlace} (hv : Value.okWide Tryd.prog W r b0 23 v) (h : DataW.Trod enc Tryd.prog W 0 (fun _ => true) true 23 v d p) :
    ∃ k s, v = .agg #[.int .i64 k, .string s] ∧ s.size ≤ maxLen := by
  obtain ⟨c0, c1, y0, y1, m, rfl, _, _, hy0, hy1⟩ := open_agg2 Tryd.underlying23 (by kernel_rfl) cells23 hv h
  obtain ⟨k, e0, _, _⟩ := DataW.trod_int Tryd.underlying3 hy0
  obtain ⟨s, e1, _, hs⟩ := DataW.trod_string Tryd.underlying9 hy1
  simp only [List.cons.injEq, and_true] at e0 e1
  subst e0 e1
  exact ⟨k, s, rfl, hs⟩

theorem open_frames {H : Type} {enc : TypeId × Value → H} {W : World} {r : Reach} {b0 : Nat} {v : Value} {d : DataW H} {p : List MemPlace} (hv : Value.okWide Tryd.prog W r b0 39 v) (h : DataW.Trod enc Tryd.prog W 0 (fun _ => true) true 39 v d p) :
    ∃ a len cap fs, v = .slice a len cap ∧ FramesAt W a len cap fs ∧ ∀ f ∈ fs, f.s.size ≤ maxLen := by
  obtain ⟨a0, len, cap, rfl⟩ := okWide_slice Tryd.underlying39 hv
  obtain ⟨fuel, hf⟩ := h
  rcases open_slice Tryd.underlying39 hf with ⟨hcs, _⟩ | ⟨x, l, c, m, n, D, Pl, hcs, _, hl, hm, hmm, _, hel⟩
  · simp [Value.cells] at hcs
    obtain ⟨rfl, rfl, rfl⟩ := hcs
    exact ⟨_, _, _, [], rfl, ⟨rfl, Nat.le_refl _, Nat.zero_le _, fun j hj => absurd hj (Nat.not_lt_zero _)⟩, fun f hf => by cases hf⟩
  · simp [Value.cells] at hcs
    obtain ⟨rfl, rfl, rfl⟩ := hcs
    simp only [if_true] at hmm
    subst hmm
    rw [cells23] at hel
    have hall : ∀ i, i < len → ∃ f : Int × ByteArray, W.cell? (x.add (i * 2)) = some (.int .i64 f.1) ∧ W.cell? (x.add (i * 2 + 1)) = some (.string f.2) ∧ f.2.size ≤ maxLen := by
      intro i hi
      obtain ⟨cs', hc, ht⟩ := hel i (by omega)
      obtain ⟨y0, y1, n', _, hlen, hy0, hy1⟩ := trod_struct2 Tryd.underlying23 ht
      obtain ⟨_, _, hcell⟩ := World.cells?_some hc
      rw [cells23] at hlen
      match cs', hlen with
      | [c0, c1], _ =>
        rw [show Tryd.prog.cellsOf 3 = 1 from cells3] at hy0
        rw [show Tryd.prog.cellsOf 9 = 1 from cells9] at hy1
        obtain ⟨k, e0, _, _⟩ := DataW.trod_int Tryd.underlying3 hy0
        obtain ⟨s, e1, _, hs⟩ := DataW.trod_string Tryd.underlying9 hy1
        simp at e0 e1
        subst e0 e1
        have q0 := hcell 0 (by omega)
        have q1 := hcell 1 (by omega)
        rw [add_add] at q0 q1
        exact ⟨(k, s), by simpa using q0, by simpa using q1, hs⟩
    obtain ⟨F, hF⟩ := choose_lt hall
    refine ⟨_, _, _, (List.range len).map fun i => ⟨(F i).1, (F i).2⟩, rfl, ⟨by simp, hl, hm, fun j hj => ?_⟩, ?_⟩
    · obtain ⟨b, off, spot⟩ := x
      obtain ⟨q0, q1, _⟩ := hF j hj
      have hspot : spot = none := by
        have h00 := (hF 0 (by omega)).1
        simpa [Addr.add] using World.cell?_spot h00
      subst hspot
      have e0 : ((⟨b, off, none⟩ : Addr).add (j * 2)) = ⟨b, off + j * 2, none⟩ := by unfold Addr.add; split <;> simp_all
      have e1 : ((⟨b, off, none⟩ : Addr).add (j * 2 + 1)) = ⟨b, off + j * 2 + 1, none⟩ := by unfold Addr.add; split <;> simp_all [Nat.add_assoc]
      rw [e0] at q0
      rw [e1] at q1
      refine ⟨b, off, rfl, World.block_lt_of_cell? W _ q0, q0.trans ?_, q1.trans ?_⟩
      · simp [List.getD, hj]
      · simp [List.getD, hj]
    · intro f hf
      simp only [List.mem_map, List.mem_range] at hf
      obtain ⟨i, hi, rfl⟩ := hf
      exact (hF i hi).2.2

end Go.Proofs.YtoeafdjakaifdaaDoor
