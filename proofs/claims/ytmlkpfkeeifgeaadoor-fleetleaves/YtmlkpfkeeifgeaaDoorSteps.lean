/-
  How arguments are opened: a slice of steps, a step, from their readings, whatever memory they lie in; how they last. No conditions.
-/
import Derived.Test.YtmlkpfkeeifgeaaDoorOpens
import Derived.Test.YtmlkpfkeeifgeaaDoorGood
namespace Go.Proofs.YtmlkpfkeeifgeaaDoor
open Go.ChangeShapes Go.WideShapes Go.ChangeAt Go.RowKit Go.Joins Go.Deep

theorem cells27 : Tryd.prog.cellsOf 27 = 1 := by kernel_rfl
theorem cells36 : Tryd.prog.cellsOf 36 = 4 := by kernel_rfl
theorem info36 : (Tryd.prog.info? 36).map (fun i => (i.zero, i.size, i.bytes)) = some (some (.agg #[.int .i64 0, .int .i64 0, .string ⟨#[]⟩, .slice none 0 0]), 4, 56) := by kernel_rfl

/-- A step: its kind, its number, its name, those that may. -/
structure Stp where
  kd : Int
  n : Int
  nm : ByteArray
  ma : Option Addr
  ml : Nat
  mc : Nat
  ms : List ByteArray
def s0 : Stp := ⟨0, 0, ⟨#[]⟩, none, 0, 0, []⟩
/-- Its cells. -/
def cc (s : Stp) : List Value := [.int .i64 s.kd, .int .i64 s.n, .string s.nm, .slice s.ma s.ml s.mc]

/-- The slice (a, len, cap) reads as the steps ss. -/
structure StepsAt (w : World) (a : Option Addr) (len cap : Nat) (ss : List Stp) : Prop where
  hlen : ss.length = len
  hle : len ≤ cap
  hcap : cap ≤ maxLen
  rd : ∀ j, j < len → ∃ b off, a = some ⟨b, off, none⟩ ∧ b < w.heap.size ∧ (∀ i u, (cc (ss.getD j s0))[i]? = some u → w.cell? ⟨b, off + j * 4 + i, none⟩ = some u) ∧ (ss.getD j s0).nm.size ≤ maxLen ∧ StrsAt w (ss.getD j s0).ma (ss.getD j s0).ml (ss.getD j s0).mc (ss.getD j s0).ms ∧ ∀ x ∈ (ss.getD j s0).ms, x.size ≤ maxLen

theorem StepsAt.below {w w' : World} {a : Option Addr} {len cap : Nat} {zs : List Stp} (h : StepsAt w a len cap zs) (hb : Below w.heap.size w w') : StepsAt w' a len cap zs := by
  refine ⟨h.hlen, h.hle, h.hcap, fun j hj => ?_⟩
  obtain ⟨b, off, e, hlt, h0, h1, h2, h3⟩ := h.rd j hj
  exact ⟨b, off, e, Nat.lt_of_lt_of_le hlt hb.size, fun i u hu => (hb.cell (p := ⟨b, off + j * 4 + i, none⟩) hlt).trans (h0 i u hu), h1, h2.below (Nat.le_refl _) hb, h3⟩

section
variable {H : Type} {enc : TypeId × Value → H} {W : World} {r : Reach} {b0 : Nat} {v : Value} {d : DataW H} {p : List MemPlace}

theorem strs_of {n : Nat} {c : Value} {y : DataW H × List MemPlace} (hf : DataW.trod enc Tryd.prog W 0 (fun _ => true) true n 27 [c] = some y) :
    ∃ a len cap ss, c = .slice a len cap ∧ StrsAt W a len cap ss ∧ ∀ s ∈ ss, s.size ≤ maxLen := by
  rcases open_strs Tryd.underlying27 Tryd.underlying9 cells9 hf with ⟨hcs, _⟩ | ⟨x, l, c, m, Sx, hcs, _, hl, hm, hmm, _, hcell⟩
  · simp at hcs
    subst hcs
    exact ⟨_, _, _, [], rfl, StrsAt.nil _ _ _ (Nat.zero_le _), fun s hs => by cases hs⟩
  · simp at hcs
    subst hcs
    simp only [if_true] at hmm
    subst hmm
    refine ⟨_, _, _, (List.range l).map Sx, rfl, ⟨by simp, hl, hm, fun j hj => ?_⟩, fun s hs => by
      obtain ⟨j, hj, rfl⟩ := List.mem_map.1 hs
      have hj' := List.mem_range.1 hj
      exact (hcell j (by omega)).2⟩
    obtain ⟨b, off, spot⟩ := x
    have h0 := (hcell j (by omega)).1
    have hspot : spot = none := by
      have h00 := (hcell 0 (by omega)).1
      simpa [Addr.add] using World.cell?_spot h00
    subst hspot
    have e0 : ((⟨b, off, none⟩ : Addr).add j) = ⟨b, off + j, none⟩ := by unfold Addr.add; split <;> simp_all
    rw [e0] at h0
    refine ⟨b, off, rfl, World.block_lt_of_cell? W _ h0, h0.trans ?_⟩
    simp [List.getD, hj]

set_option maxRecDepth 100000 in
theorem open_steps (hv : Value.okWide Tryd.prog W r b0 22 v) (h : DataW.Trod enc Tryd.prog W 0 (fun _ => true) true 22 v d p) :
    ∃ a len cap ss, v = .slice a len cap ∧ StepsAt W a len cap ss := by
  obtain ⟨a0, len, cap, rfl⟩ := okWide_slice Tryd.underlying22 hv
  obtain ⟨fuel, hf⟩ := h
  rcases open_slice Tryd.underlying22 hf with ⟨hcs, _⟩ | ⟨x, l, c, m, n, D, Pl, hcs, _, hl, hm, hmm, _, hel⟩
  · simp [Value.cells] at hcs
    obtain ⟨rfl, rfl, rfl⟩ := hcs
    exact ⟨_, _, _, [], rfl, ⟨rfl, Nat.le_refl _, Nat.zero_le _, fun j hj => absurd hj (Nat.not_lt_zero _)⟩⟩
  · simp [Value.cells] at hcs
    obtain ⟨rfl, rfl, rfl⟩ := hcs
    simp only [if_true] at hmm
    subst hmm
    rw [cells36] at hel
    have hall : ∀ i, i < len → ∃ f : Stp, (∀ k u, (cc f)[k]? = some u → W.cell? (x.add (i * 4 + k)) = some u) ∧ f.nm.size ≤ maxLen ∧ StrsAt W f.ma f.ml f.mc f.ms ∧ ∀ s ∈ f.ms, s.size ≤ maxLen := by
      intro i hi
      obtain ⟨cs', hc, ht⟩ := hel i (by omega)
      obtain ⟨y0, y1, y2, y3, n', _, hlen, hy0, hy1, hy2, hy3⟩ := trod_struct4 Tryd.underlying36 ht
      obtain ⟨_, _, hcell⟩ := World.cells?_some hc
      rw [cells36] at hlen
      match cs', hlen with
      | [c0, c1, c2, c3], _ =>
        rw [show Tryd.prog.cellsOf 3 = 1 from cells3] at hy0 hy1
        rw [show Tryd.prog.cellsOf 9 = 1 from cells9] at hy2
        rw [show Tryd.prog.cellsOf 27 = 1 from cells27] at hy3
        obtain ⟨k, e0, _, _⟩ := DataW.trod_int Tryd.underlying3 hy0
        obtain ⟨k1, e1, _, _⟩ := DataW.trod_int Tryd.underlying3 hy1
        obtain ⟨s2, e2, _, hs2⟩ := DataW.trod_string Tryd.underlying9 hy2
        obtain ⟨a3, l3, cp3, ss3, e3, hs3, hz3⟩ := strs_of (c := c3) hy3
        simp at e0 e1 e2
        subst e0 e1 e2 e3
        have q0 := hcell 0 (by omega)
        have q1 := hcell 1 (by omega)
        have q2 := hcell 2 (by omega)
        have q3 := hcell 3 (by omega)
        rw [add_add] at q0 q1 q2 q3
        refine ⟨⟨k, k1, s2, a3, l3, cp3, ss3⟩, fun t u hu => ?_, hs2, hs3, hz3⟩
        match t, hu with
        | 0, hu => simp [cc] at hu; subst hu; simpa using q0
        | 1, hu => simp [cc] at hu; subst hu; simpa using q1
        | 2, hu => simp [cc] at hu; subst hu; simpa using q2
        | 3, hu => simp [cc] at hu; subst hu; simpa using q3
    have hinh : Inhabited Stp := ⟨s0⟩
    obtain ⟨F, hF⟩ := choose_lt hall
    refine ⟨_, _, _, (List.range len).map F, rfl, ⟨by simp, hl, hm, fun j hj => ?_⟩⟩
    obtain ⟨b, off, spot⟩ := x
    obtain ⟨q0, q1, q2, q3⟩ := hF j hj
    have hspot : spot = none := by
      have h00 := (hF 0 (by omega)).1 0 _ rfl
      simpa [Addr.add] using World.cell?_spot h00
    subst hspot
    have e1 : ((List.range len).map F).getD j s0 = F j := by simp [List.getD, hj]
    rw [e1]
    have e0 : ∀ t, ((⟨b, off, none⟩ : Addr).add (j * 4 + t)) = ⟨b, off + j * 4 + t, none⟩ := fun t => by unfold Addr.add; split <;> simp_all [Nat.add_assoc]
    have q4 := q0 0 _ rfl
    rw [e0] at q4
    refine ⟨b, off, rfl, World.block_lt_of_cell? W _ q4, fun t u hu => ?_, q1, q2, q3⟩
    rw [← e0]
    exact q0 t u hu


set_option maxRecDepth 100000 in
theorem open_step (hv : Value.okWide Tryd.prog W r b0 36 v) (h : DataW.Trod enc Tryd.prog W 0 (fun _ => true) true 36 v d p) :
    ∃ st : Stp, v = .agg #[.int .i64 st.kd, .int .i64 st.n, .string st.nm, .slice st.ma st.ml st.mc] ∧ st.nm.size ≤ maxLen ∧ StrsAt W st.ma st.ml st.mc st.ms ∧ ∀ s ∈ st.ms, s.size ≤ maxLen := by
  unfold Value.okWide at hv
  rw [Tryd.underlying36] at hv
  obtain ⟨cs, rfl, hsz, _⟩ := hv
  rw [cells36] at hsz
  obtain ⟨fuel, hf⟩ := h
  obtain ⟨y0, y1, y2, y3, n', _, hlen, hy0, hy1, hy2, hy3⟩ := trod_struct4 Tryd.underlying36 hf
  obtain ⟨cs⟩ := cs
  match cs, hsz with
  | [c0, c1, c2, c3], _ =>
    rw [show Tryd.prog.cellsOf 3 = 1 from cells3] at hy0 hy1
    rw [show Tryd.prog.cellsOf 9 = 1 from cells9] at hy2
    rw [show Tryd.prog.cellsOf 27 = 1 from cells27] at hy3
    obtain ⟨k, e0, _, _⟩ := DataW.trod_int Tryd.underlying3 hy0
    obtain ⟨k1, e1, _, _⟩ := DataW.trod_int Tryd.underlying3 hy1
    obtain ⟨s2, e2, _, hs2⟩ := DataW.trod_string Tryd.underlying9 hy2
    obtain ⟨a3, l3, cp3, ss3, e3, hs3, hz3⟩ := strs_of (c := c3) hy3
    simp [Value.cells] at e0 e1 e2
    subst e0 e1 e2 e3
    exact ⟨⟨k, k1, s2, a3, l3, cp3, ss3⟩, rfl, hs2, hs3, hz3⟩
end

end Go.Proofs.YtmlkpfkeeifgeaaDoor
