/-
  What holds all through QueuePlays: the queue and the document's one have the same; how it lasts. Conditions: both lie where they are said to lie.
-/
import Derived.Test.YtcndgcfdopjjfaaRPush
import Derived.Test.YtcndgcfdopjjfaaRExp
import Derived.Deep.CutBlock
import Derived.Deep.RegionHeld3
namespace Go.Proofs.Ytcndgcfdopjjfaa
open Go.ChangeShapes Go.WideShapes Go.ChangeAt Go.RowKit

theorem Dst.one {L : List Wt} (h : Dst (fs L)) {p q : Wt} (hp : p ∈ L) (hq : q ∈ L) (e : p.1 = q.1) : p = q := by
  induction L with
  | nil => simp at hp
  | cons x L ih =>
    have hc := List.pairwise_cons.1 h
    have hin : ∀ y ∈ L, x.1 ≠ y.1 := fun y hy => hc.1 y.1 (List.mem_map_of_mem hy)
    rcases List.mem_cons.1 hp with rfl | hp'
    · rcases List.mem_cons.1 hq with rfl | hq'
      · rfl
      · exact absurd e (hin q hq')
    · rcases List.mem_cons.1 hq with rfl | hq'
      · exact absurd e.symm (hin p hp')
      · exact ih hc.2 hp' hq'
theorem kept_eq {L : List Wt} (h : Dst (fs L)) (now wait : Int) : without (lates now wait L) L = kept now wait L := by
  unfold without kept
  apply List.filter_congr
  intro p hp
  congr 1
  by_cases hl : lateB now wait p = true
  · rw [hl]
    have : p.1 ∈ lates now wait L := List.mem_map_of_mem (List.mem_filter.2 ⟨hp, hl⟩)
    simpa using this
  · rw [Bool.not_eq_true] at hl
    rw [hl]
    have : p.1 ∉ lates now wait L := fun hm => by
      obtain ⟨q, hq, e⟩ := List.mem_map.1 hm
      obtain ⟨hq1, hq2⟩ := List.mem_filter.1 hq
      have := h.one hq1 hp e
      rw [this, hl] at hq2
      cases hq2
    simpa using this
theorem Dst.without {L : List Wt} (h : Dst (fs L)) (ids : List Int) : Dst (fs (without ids L)) := by
  show Dst ((Go.Proofs.Ytcndgcfdopjjfaa.without ids L).map Prod.fst)
  rw [map_without]
  exact Dst.filter h _
theorem Dst.pushed {L : List Wt} (h : Dst (fs L)) (R : Nat) (x t : Int) : Dst (fs (pushL R x t L)) := by
  unfold pushL
  by_cases h0 : x ∈ L.map Prod.fst
  · rw [if_pos h0]; exact h
  · rw [if_neg h0]
    by_cases h1 : R ≤ L.length
    · rw [if_pos h1]; exact h
    · rw [if_neg h1, fs_append]
      exact Dst.more h h0

/-- The queue at g has L, the document's at b reads as L'; the queue's blocks are none of A. -/
structure PS (w1 wr : World) (A : Nat → Prop) (g b R : Nat) (L L' : List Wt) (kv av : Value) : Prop where
  q : QAt wr A g R L
  low : ∀ k, k < w1.heap.size → A k
  ab : A b
  hb : w1.heap.size ≤ b
  blk : wr.heap[b]? = some (.cells #[.int .i64 R, kv, av] 28 (0, 0))
  rd : QvAt wr kv av L'
  inA : ∀ k, kv.ownBlock = some k ∨ av.ownBlock = some k → A k ∧ k ≠ b
  keep : Keep (fun k => k < w1.heap.size) w1 wr

section
variable {w1 wr w' : World} {A : Nat → Prop} {g b R : Nat} {L L' : List Wt} {kv av : Value}
theorem PS.lt (h : PS w1 wr A g b R L L' kv av) : b < wr.heap.size := lt_of_heap h.blk
theorem PS.below (h : PS w1 wr A g b R L L' kv av) (hb : Below wr.heap.size wr w') : PS w1 w' (fun k => A k ∨ (wr.heap.size ≤ k ∧ k < w'.heap.size)) g b R L L' kv av :=
  ⟨h.q.below hb, fun k hk => .inl (h.low k hk), .inl h.ab, h.hb, (hb.block b h.lt).trans h.blk, h.rd.below hb, fun k e => ⟨.inl (h.inA k e).1, (h.inA k e).2⟩, h.keep.trans (keep_below hb)⟩
theorem PS.same (h : PS w1 wr A g b R L L' kv av) (hb : Below wr.heap.size wr w') : PS w1 w' A g b R L L' kv av :=
  ⟨(h.q.below hb).fewer (fun _ h => .inl h), h.low, h.ab, h.hb, (hb.block b h.lt).trans h.blk, h.rd.below hb, h.inA, h.keep.trans (keep_below hb)⟩
theorem PS.step {L2 : List Wt} (h : PS w1 wr A g b R L L' kv av) (hq : QAt w' A g R L2) (hk : Keep A wr w') : PS w1 w' A g b R L2 L' kv av :=
  ⟨hq, h.low, h.ab, h.hb, (hk.block b h.lt h.ab).trans h.blk, h.rd.keep hk (fun k e => (h.inA k e).1), h.inA, h.keep.trans (hk.mono fun k _ hk => h.low k hk)⟩
theorem PS.put {kv' av' : Value} {L2 : List Wt} (h : PS w1 wr A g b R L L' kv av) (hv : QvAt wr kv' av' L2) (hin : ∀ k, kv'.ownBlock = some k ∨ av'.ownBlock = some k → A k ∧ k ≠ b) :
    PS w1 (((wr.setCell ⟨b, 0, none⟩ (.int .i64 R)).setCell ⟨b, 1, none⟩ kv').setCell ⟨b, 2, none⟩ av') A g b R L L2 kv' av' := by
  obtain ⟨x0, k9⟩ := res_put h.blk (.int .i64 R) kv' av'
  have hb := h.hb
  refine ⟨h.q.keep (k9.mono fun k _ hn e => hn (e ▸ h.ab)) (fun k hk => .inl hk) (fun k hk => Nat.lt_of_lt_of_le (h.q.q.guard k hk) k9.size), h.low, h.ab, h.hb, x0, hv.keep k9 (fun k e => (hin k e).2), hin, h.keep.trans (k9.mono fun k _ hk => by omega)⟩

/-- The same, and the step lies at z. -/
structure PQ (w1 wr : World) (A : Nat → Prop) (g b z R : Nat) (L L' : List Wt) (kv av : Value) (st : Stp) : Prop where
  ps : PS w1 wr A g b R L L' kv av
  az : A z
  st : StAt wr z st

variable {z : Nat} {st : Stp}
theorem PQ.below (h : PQ w1 wr A g b z R L L' kv av st) (hb : Below wr.heap.size wr w') : PQ w1 w' (fun k => A k ∨ (wr.heap.size ≤ k ∧ k < w'.heap.size)) g b z R L L' kv av st :=
  ⟨h.ps.below hb, .inl h.az, h.st.below hb⟩
theorem PQ.same (h : PQ w1 wr A g b z R L L' kv av st) (hb : Below wr.heap.size wr w') : PQ w1 w' A g b z R L L' kv av st :=
  ⟨h.ps.same hb, h.az, h.st.below hb⟩
theorem PQ.step {L2 : List Wt} (h : PQ w1 wr A g b z R L L' kv av st) (hq : QAt w' A g R L2) (hk : Keep A wr w') : PQ w1 w' A g b z R L2 L' kv av st :=
  ⟨h.ps.step hq hk, h.az, h.st.keep hk h.az⟩
theorem PQ.ne (h : PQ w1 wr A g b z R L L' kv av st) : z ≠ b := by
  rintro rfl
  have := h.st
  unfold StAt at this
  rw [h.ps.blk] at this
  simp at this
theorem PQ.put {kv' av' : Value} {L2 : List Wt} (h : PQ w1 wr A g b z R L L' kv av st) (hv : QvAt wr kv' av' L2) (hin : ∀ k, kv'.ownBlock = some k ∨ av'.ownBlock = some k → A k ∧ k ≠ b) :
    PQ w1 (((wr.setCell ⟨b, 0, none⟩ (.int .i64 R)).setCell ⟨b, 1, none⟩ kv').setCell ⟨b, 2, none⟩ av') A g b z R L L2 kv' av' st :=
  ⟨h.ps.put hv hin, h.az, h.st.keep (res_put h.ps.blk _ _ _).2 h.ne⟩

/-- The document's queue is the next one: it was laid in new blocks, or is the elder one, and lies in a block of its own ahead of being stored. -/
theorem PQ.next {w5 : World} {kv' av' : Value} {L2 : List Wt} (h : PQ w1 wr A g b z R L L' kv av st) (hb : Below wr.heap.size wr w5) (hv : QvAt w5 kv' av' L2) (hf : From wr w5 kv av kv' av') :
    PQ w1 ((((w5.alloc (.cells #[.int .i64 R, kv', av'] 28)).setCell ⟨b, 0, none⟩ (.int .i64 R)).setCell ⟨b, 1, none⟩ kv').setCell ⟨b, 2, none⟩ av') (fun k => A k ∨ (wr.heap.size ≤ k ∧ k < w5.heap.size)) g b z R L L2 kv' av' st := by
  have hb9 : Below w5.heap.size w5 (w5.alloc (.cells #[.int .i64 R, kv', av'] 28)) := (Below.refl _ w5).alloc (Nat.le_refl _) _
  have hlt := h.ps.lt
  refine ((h.below hb).same hb9).put (hv.below hb9) (fun k e => ?_)
  rcases hf k e with h1 | h1
  · exact ⟨.inl (h.ps.inA k h1).1, (h.ps.inA k h1).2⟩
  · exact ⟨.inr h1, by omega⟩
end

theorem room_e (w : World) (A : Nat → Prop) (g R : Nat) (L : List Wt) (h : QAt w A g R L) :
    Calls Try.prog 26 #[.pointer (some ⟨g, 0, none⟩)] w fun e w' => e = .returned (.int .i64 ((R : Int) - (L.length : Int))) ∧ w' = w := by
  have hle := h.le
  refine (room_w w A g R L h).mono fun e w' ⟨he, hw⟩ => ⟨he.trans (ret_int ?_), hw⟩
  omega
theorem QvAt.ids {w : World} {a : Option Addr} {n c : Nat} {av : Value} {L : List Wt} (h : QvAt w (.slice a n c) av L) : IntsAt w a n c (fs L) := by
  obtain ⟨⟨a1, c1, e1, h1, _⟩, _⟩ := h
  cases e1
  exact h1
theorem QvAt.ats {w : World} {a : Option Addr} {n c : Nat} {kv : Value} {L : List Wt} (h : QvAt w kv (.slice a n c) L) : IntsAt w a n c (sn L) := by
  obtain ⟨_, ⟨a1, c1, e1, h1, _⟩⟩ := h
  cases e1
  exact h1

/-- What holds all through the look at both. -/
structure LP (w1 w5 : World) (A : Nat → Prop) (g b z R : Nat) (L : List Wt) (kv av : Value) (st : Stp) (w' : World) : Prop where
  q : PQ w1 w' A g b z R L L kv av st
  bel : Below w5.heap.size w5 w'

section
variable {w1 w5 w' w'' : World} {A : Nat → Prop} {g b z R : Nat} {L : List Wt} {kv av : Value} {st : Stp}
theorem LP.step (h : LP w1 w5 A g b z R L kv av st w') (hb : Below w'.heap.size w' w'') : LP w1 w5 A g b z R L kv av st w'' :=
  ⟨h.q.same hb, below_trans h.bel hb⟩
/-- What the look reads. -/
def Held (w1 w5 : World) (A : Nat → Prop) (g b z R : Nat) (L : List Wt) (kv av : Value) (st : Stp) (w' : World) : Prop :=
  w'.cell? ⟨b, 0, none⟩ = some (.int .i64 R) ∧ w'.cell? ⟨b, 1, none⟩ = some kv ∧ w'.cell? ⟨b, 2, none⟩ = some av ∧ w'.cell? ⟨z, 1, none⟩ = some (.int .i64 st.id) ∧ LP w1 w5 A g b z R L kv av st w'
theorem LP.held (h : LP w1 w5 A g b z R L kv av st w') (hb : Below w'.heap.size w' w'') : Held w1 w5 A g b z R L kv av st w'' := by
  have h2 := h.step hb
  obtain ⟨c0, c1, c2, _⟩ := blk3 h2.q.ps.blk
  exact ⟨c0, c1, c2, h2.q.st.cells.2.1, h2⟩
theorem lp_of (h : w'.cell? ⟨b, 0, none⟩ = some (.int .i64 R) ∧ w'.cell? ⟨b, 1, none⟩ = some kv ∧ w'.cell? ⟨b, 2, none⟩ = some av ∧ w'.cell? ⟨z, 1, none⟩ = some (.int .i64 st.id) ∧ LP w1 w5 A g b z R L kv av st w') : LP w1 w5 A g b z R L kv av st w' := h.2.2.2.2
theorem LP.qat (h : LP w1 w5 A g b z R L kv av st w') : QAt w' A g R L := h.q.ps.q
theorem LP.held5 {b5 o5 : Nat} {y : Int} (h : LP w1 w5 A g b z R L kv av st w') (hc : w'.cell? ⟨b5, o5, none⟩ = some (.int .i64 y)) (hb : Below w'.heap.size w' w'') :
    w''.cell? ⟨b5, o5, none⟩ = some (.int .i64 y) ∧ w''.cell? ⟨b, 0, none⟩ = some (.int .i64 R) ∧ w''.cell? ⟨b, 1, none⟩ = some kv ∧ w''.cell? ⟨b, 2, none⟩ = some av ∧ w''.cell? ⟨z, 1, none⟩ = some (.int .i64 st.id) ∧ LP w1 w5 A g b z R L kv av st w'' :=
  ⟨(hb.cell (World.block_lt_of_cell? _ _ hc)).trans hc, h.held hb⟩
theorem lp5_of {b5 o5 : Nat} {y : Int} (h : w'.cell? ⟨b5, o5, none⟩ = some (.int .i64 y) ∧ w'.cell? ⟨b, 0, none⟩ = some (.int .i64 R) ∧ w'.cell? ⟨b, 1, none⟩ = some kv ∧ w'.cell? ⟨b, 2, none⟩ = some av ∧ w'.cell? ⟨z, 1, none⟩ = some (.int .i64 st.id) ∧ LP w1 w5 A g b z R L kv av st w') : LP w1 w5 A g b z R L kv av st w' := h.2.2.2.2.2
theorem lp5_c {b5 o5 : Nat} {y : Int} (h : w'.cell? ⟨b5, o5, none⟩ = some (.int .i64 y) ∧ w'.cell? ⟨b, 0, none⟩ = some (.int .i64 R) ∧ w'.cell? ⟨b, 1, none⟩ = some kv ∧ w'.cell? ⟨b, 2, none⟩ = some av ∧ w'.cell? ⟨z, 1, none⟩ = some (.int .i64 st.id) ∧ LP w1 w5 A g b z R L kv av st w') : w'.cell? ⟨b5, o5, none⟩ = some (.int .i64 y) := h.1
end

end Go.Proofs.Ytcndgcfdopjjfaa
