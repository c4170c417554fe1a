/-
  How arguments are opened: a slice of steps, of ints, of bools, a frame, each from its reading, whatever memory it lies in; how they last. No conditions.
-/
import Derived.Test.YtegjaoaoiojhfaaDoorLives
import Derived.Lib.SmallJoins
import Derived.Deep.Slices
import Derived.OpenShut
namespace Go.Proofs.YtegjaoaoiojhfaaDoor
open Go.ChangeShapes Go.WideShapes Go.ChangeAt Go.RowKit Go.Joins Go.Deep

theorem cells3' : Tryd.prog.cellsOf 3 = 1 := by kernel_rfl
theorem cells4 : Tryd.prog.cellsOf 4 = 1 := by kernel_rfl
theorem cells9' : Tryd.prog.cellsOf 9 = 1 := by kernel_rfl
theorem cells31 : Tryd.prog.cellsOf 31 = 2 := by kernel_rfl
theorem cells33 : Tryd.prog.cellsOf 33 = 3 := by kernel_rfl
theorem info33 : (Tryd.prog.info? 33).map (fun i => (i.zero, i.size, i.bytes)) = some (some (.agg #[.int .i64 0, .int .i64 0, .string ⟨#[]⟩]), 3, 32) := by kernel_rfl

/-- A step: its kind, its frame's kind and data. -/
structure Stp where
  kd : Int
  k : Int
  s : ByteArray
def s0 : Stp := ⟨0, 0, ⟨#[]⟩⟩
/-- Its cells. -/
def cc (s : Stp) : List Value := [.int .i64 s.kd, .int .i64 s.k, .string s.s]

/-- The slice (a, len, cap) reads as the steps ss. -/
structure StepsAt (w : World) (a : Option Addr) (len cap : Nat) (ss : List Stp) : Prop where
  hlen : ss.length = len
  hle : len ≤ cap
  hcap : cap ≤ maxLen
  rd : ∀ j, j < len → ∃ b off, a = some ⟨b, off, none⟩ ∧ b < w.heap.size ∧ (∀ i u, (cc (ss.getD j s0))[i]? = some u → w.cell? ⟨b, off + j * 3 + i, none⟩ = some u) ∧ (ss.getD j s0).s.size ≤ maxLen
theorem StepsAt.below {w w' : World} {a : Option Addr} {len cap : Nat} {zs : List Stp} (h : StepsAt w a len cap zs) (hb : Below w.heap.size w w') : StepsAt w' a len cap zs := by
  refine ⟨h.hlen, h.hle, h.hcap, fun j hj => ?_⟩
  obtain ⟨b, off, e, hlt, h0, h1⟩ := h.rd j hj
  exact ⟨b, off, e, Nat.lt_of_lt_of_le hlt hb.size, fun i u hu => (hb.cell (p := ⟨b, off + j * 3 + i, none⟩) hlt).trans (h0 i u hu), h1⟩

/-- The slice (a, len, cap) reads as the bools bs. -/
structure BoolsAt (w : World) (a : Option Addr) (len cap : Nat) (bs : List Bool) : Prop where
  hlen : bs.length = len
  hle : len ≤ cap
  hcap : cap ≤ maxLen
  at_ : ∀ j, j < len → ∃ b off, a = some ⟨b, off, none⟩ ∧ b < w.heap.size ∧ w.cell? ⟨b, off + j, none⟩ = some (.bool (bs.getD j false))
theorem BoolsAt.below {w w' : World} {a : Option Addr} {len cap : Nat} {zs : List Bool} (h : BoolsAt w a len cap zs) (hb : Below w.heap.size w w') : BoolsAt w' a len cap zs := by
  refine ⟨h.hlen, h.hle, h.hcap, fun j hj => ?_⟩
  obtain ⟨b, off, e, hlt, hc⟩ := h.at_ j hj
  exact ⟨b, off, e, Nat.lt_of_lt_of_le hlt hb.size, (hb.cell (p := ⟨b, off + j, none⟩) hlt).trans hc⟩

section
variable {H : Type} {enc : TypeId × Value → H} {W : World} {r : Reach} {b0 : Nat} {v : Value} {d : DataW H} {p : List MemPlace}

set_option maxRecDepth 100000 in
theorem open_nums (hv : Value.okWide Tryd.prog W r b0 52 v) (h : DataW.Trod enc Tryd.prog W 0 (fun _ => true) true 52 v d p) :
    ∃ a len cap zs, v = .slice a len cap ∧ IntsAt W a len cap zs ∧ (a = none → len = 0 ∧ cap = 0) := by
  obtain ⟨a0, len, cap, rfl⟩ := okWide_slice Tryd.underlying52 hv
  obtain ⟨fuel, hf⟩ := h
  rcases open_ints Tryd.underlying52 Tryd.underlying3 cells3' hf with ⟨hcs, _⟩ | ⟨x, l, c, zs, hcs, _, hl, hm, hz, _, hcell, hwz⟩
  · simp [Value.cells] at hcs
    obtain ⟨rfl, rfl, rfl⟩ := hcs
    exact ⟨_, _, _, [], rfl, ⟨rfl, Nat.le_refl _, Nat.zero_le _, fun j hj => absurd hj (Nat.not_lt_zero _)⟩, fun _ => ⟨rfl, rfl⟩⟩
  · simp [Value.cells] at hcs
    obtain ⟨rfl, rfl, rfl⟩ := hcs
    simp only [if_true] at hz
    refine ⟨_, _, _, zs.take len, rfl, ⟨by rw [List.length_take]; omega, hl, hm, fun j hj => ?_⟩, fun h => by cases h⟩
    obtain ⟨b, off, spot⟩ := x
    have h0 := hcell j (by omega)
    have hspot : spot = none := by
      have h00 := hcell 0 (by omega)
      simpa [Addr.add] using World.cell?_spot h00
    subst hspot
    have e0 : ((⟨b, off, none⟩ : Addr).add j) = ⟨b, off + j, none⟩ := by unfold Addr.add; split <;> simp_all
    rw [e0] at h0
    refine ⟨b, off, rfl, World.block_lt_of_cell? W _ h0, h0.trans ?_⟩
    simp [List.getD, hj]

set_option maxRecDepth 100000 in
theorem open_flags (hv : Value.okWide Tryd.prog W r b0 53 v) (h : DataW.Trod enc Tryd.prog W 0 (fun _ => true) true 53 v d p) :
    ∃ a len cap bs, v = .slice a len cap ∧ BoolsAt W a len cap bs := by
  obtain ⟨a0, len, cap, rfl⟩ := okWide_slice Tryd.underlying53 hv
  obtain ⟨fuel, hf⟩ := h
  rcases open_slice Tryd.underlying53 hf with ⟨hcs, _⟩ | ⟨x, l, c, m, n, D, Pl, hcs, _, hl, hm, hmm, _, hel⟩
  · simp [Value.cells] at hcs
    obtain ⟨rfl, rfl, rfl⟩ := hcs
    exact ⟨_, _, _, [], rfl, ⟨rfl, Nat.le_refl _, Nat.zero_le _, fun j hj => absurd hj (Nat.not_lt_zero _)⟩⟩
  · simp [Value.cells] at hcs
    obtain ⟨rfl, rfl, rfl⟩ := hcs
    simp only [if_true] at hmm
    subst hmm
    rw [cells4] at hel
    have hall : ∀ i, i < len → ∃ f : Bool, W.cell? (x.add i) = some (.bool f) := by
      intro i hi
      obtain ⟨cs', hc, ht⟩ := hel i (by omega)
      obtain ⟨hlen, _, hcell⟩ := World.cells?_some hc
      rw [Nat.mul_one] at hcell
      match cs', hlen with
      | [c0], _ =>
        obtain ⟨k, e0, _⟩ := DataW.trod_bool Tryd.underlying4 ht
        simp at e0
        subst e0
        have q0 := hcell 0 (by omega)
        rw [add_add] at q0
        exact ⟨k, by simpa using q0⟩
    obtain ⟨F, hF⟩ := choose_lt hall
    refine ⟨_, _, _, (List.range len).map F, rfl, ⟨by simp, hl, hm, fun j hj => ?_⟩⟩
    obtain ⟨b, off, spot⟩ := x
    have q0 := hF j hj
    have hspot : spot = none := by
      have h00 := hF 0 (by omega)
      simpa [Addr.add] using World.cell?_spot h00
    subst hspot
    have e0 : ((⟨b, off, none⟩ : Addr).add j) = ⟨b, off + j, none⟩ := by unfold Addr.add; split <;> simp_all
    rw [e0] at q0
    refine ⟨b, off, rfl, World.block_lt_of_cell? W _ q0, q0.trans ?_⟩
    simp [List.getD, hj]

set_option maxRecDepth 100000 in
theorem open_frame (hv : Value.okWide Tryd.prog W r b0 31 v) (h : DataW.Trod enc Tryd.prog W 0 (fun _ => true) true 31 v d p) :
    ∃ k s, v = .agg #[.int .i64 k, .string s] ∧ s.size ≤ maxLen := by
  unfold Value.okWide at hv
  rw [Tryd.underlying31] at hv
  obtain ⟨cs, rfl, hsz, _⟩ := hv
  rw [cells31] at hsz
  obtain ⟨fuel, hf⟩ := h
  obtain ⟨y0, y1, n', _, hlen, hy0, hy1⟩ := trod_struct2 Tryd.underlying31 hf
  obtain ⟨cs⟩ := cs
  match cs, hsz with
  | [c0, c1], _ =>
    rw [show Tryd.prog.cellsOf 3 = 1 from cells3'] at hy0
    rw [show Tryd.prog.cellsOf 9 = 1 from cells9'] at hy1
    simp [Value.cells] at hy0 hy1
    obtain ⟨k0, q0, _, _⟩ := DataW.trod_int Tryd.underlying3 hy0
    obtain ⟨k1, q1, _, hs⟩ := DataW.trod_string Tryd.underlying9 hy1
    simp at q0 q1
    exact ⟨k0, k1, by rw [q0, q1], hs⟩

set_option maxRecDepth 100000 in
theorem open_steps (hv : Value.okWide Tryd.prog W r b0 22 v) (h : DataW.Trod enc Tryd.prog W 0 (fun _ => true) true 22 v d p) :
    ∃ a len cap ss, v = .slice a len cap ∧ StepsAt W a len cap ss := by
  obtain ⟨a0, len, cap, rfl⟩ := okWide_slice Tryd.underlying22 hv
  obtain ⟨fuel, hf⟩ := h
  rcases open_slice Tryd.underlying22 hf with ⟨hcs, _⟩ | ⟨x, l, c, m, n, D, Pl, hcs, _, hl, hm, hmm, _, hel⟩
  · simp [Value.cells] at hcs
    obtain ⟨rfl, rfl, rfl⟩ := hcs
    exact ⟨_, _, _, [], rfl, ⟨rfl, Nat.le_refl _, Nat.zero_le _, fun j hj => absurd hj (Nat.not_lt_zero _)⟩⟩
  · simp [Value.cells] at hcs
    obtain ⟨rfl, rfl, rfl⟩ := hcs
    simp only [if_true] at hmm
    subst hmm
    rw [cells33] at hel
    have hall : ∀ i, i < len → ∃ f : Stp, (∀ k u, (cc f)[k]? = some u → W.cell? (x.add (i * 3 + k)) = some u) ∧ f.s.size ≤ maxLen := by
      intro i hi
      obtain ⟨cs', hc, ht⟩ := hel i (by omega)
      obtain ⟨y0, y1, n', _, hlen, hy0, hy1⟩ := trod_struct2 Tryd.underlying33 ht
      obtain ⟨_, _, hcell⟩ := World.cells?_some hc
      rw [cells33] at hlen
      match cs', hlen with
      | [c0, c1, c2], _ =>
        rw [show Tryd.prog.cellsOf 3 = 1 from cells3'] at hy0
        rw [show Tryd.prog.cellsOf 31 = 2 from cells31] at hy1
        obtain ⟨z0, z1, n2, _, _, hz0, hz1⟩ := trod_struct2 Tryd.underlying31 hy1
        rw [show Tryd.prog.cellsOf 3 = 1 from cells3'] at hz0
        rw [show Tryd.prog.cellsOf 9 = 1 from cells9'] at hz1
        obtain ⟨k, e0, _, _⟩ := DataW.trod_int Tryd.underlying3 hy0
        obtain ⟨k1, e1, _, _⟩ := DataW.trod_int Tryd.underlying3 hz0
        obtain ⟨s2, e2, _, hs2⟩ := DataW.trod_string Tryd.underlying9 hz1
        simp at e0 e1 e2
        subst e0 e1 e2
        have q0 := hcell 0 (by omega)
        have q1 := hcell 1 (by omega)
        have q2 := hcell 2 (by omega)
        rw [add_add] at q0 q1 q2
        refine ⟨⟨k, k1, s2⟩, fun t u hu => ?_, hs2⟩
        match t, hu with
        | 0, hu => simp [cc] at hu; subst hu; simpa using q0
        | 1, hu => simp [cc] at hu; subst hu; simpa using q1
        | 2, hu => simp [cc] at hu; subst hu; simpa using q2
    have hinh : Inhabited Stp := ⟨s0⟩
    obtain ⟨F, hF⟩ := choose_lt hall
    refine ⟨_, _, _, (List.range len).map F, rfl, ⟨by simp, hl, hm, fun j hj => ?_⟩⟩
    obtain ⟨b, off, spot⟩ := x
    obtain ⟨q0, q1⟩ := hF j hj
    have hspot : spot = none := by
      have h00 := (hF 0 (by omega)).1 0 _ rfl
      simpa [Addr.add] using World.cell?_spot h00
    subst hspot
    have e1 : ((List.range len).map F).getD j s0 = F j := by simp [List.getD, hj]
    rw [e1]
    have e0 : ∀ t, ((⟨b, off, none⟩ : Addr).add (j * 3 + t)) = ⟨b, off + j * 3 + t, none⟩ := fun t => by unfold Addr.add; split <;> simp_all [Nat.add_assoc]
    have q4 := q0 0 _ rfl
    rw [e0] at q4
    refine ⟨b, off, rfl, World.block_lt_of_cell? W _ q4, fun t u hu => ?_, q1⟩
    rw [← e0]
    exact q0 t u hu

end

end Go.Proofs.YtegjaoaoiojhfaaDoor
