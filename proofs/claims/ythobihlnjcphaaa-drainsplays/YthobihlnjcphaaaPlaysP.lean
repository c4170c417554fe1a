/-
  What holds all through DrainsPlays: the drains and the document's have the same; how it lasts. Conditions: both lie where they are said to lie.
-/
import Derived.Test.YthobihlnjcphaaaOnceP
import Derived.Test.YthobihlnjcphaaaREnd
import Derived.Test.YthobihlnjcphaaaRFirst
import Derived.Deep.CutBlock
import Derived.Deep.RegionHeld3
namespace Go.Proofs.Ythobihlnjcphaaa
open Go.ChangeShapes Go.WideShapes Go.ChangeAt Go.RowKit

theorem TxAt.strs {w : World} {a : Option Addr} {n c : Nat} {l : List ByteArray} (h : TxAt w (.slice a n c) l) : StrsAt w a n c l := by
  obtain ⟨a1, c1, e, h1, _⟩ := h
  cases e
  exact h1
theorem IxAt.ints {w : World} {a : Option Addr} {n c : Nat} {l : List Int} (h : IxAt w (.slice a n c) l) : IntsAt w a n c l := by
  obtain ⟨a1, c1, e, h1, _⟩ := h
  cases e
  exact h1

/-- A step's names lie where they lay ahead of all. -/
theorem early_ms {w wr : World} {a : Option Addr} {len cap n j : Nat} {ss : List Stp} (h : StepsAt w a len cap ss) (hn : min len 80 = n) (hj : j < n) (hk : Keep (fun k => k < w.heap.size) w wr) :
    StrsAt wr ((trs (ss.take n)).getD j s0).ma ((trs (ss.take n)).getD j s0).ml ((trs (ss.take n)).getD j s0).mc ((trs (ss.take n)).getD j s0).ms := by
  have hg : (trs (ss.take n)).getD j s0 = tr (ss.getD j s0) := by
    unfold trs
    have : j < ss.length := by rw [h.hlen]; omega
    simp [List.getD, hj, this]
  rw [hg]
  obtain ⟨b, off, _, _, _, _, h3⟩ := h.rd j (by omega)
  show StrsAt wr (ss.getD j s0).ma (ss.getD j s0).ml (ss.getD j s0).mc (ss.getD j s0).ms
  generalize ss.getD j s0 = st at *
  obtain ⟨kd, m, nm, ma, ml, mc, ms⟩ := st
  simp only at h3 ⊢
  by_cases h0 : 0 < ml
  · obtain ⟨b', o', e, hb', -⟩ := h3.at_ 0 h0
    refine h3.keep hk (fun x hx => ?_)
    rw [e] at hx
    cases hx
    exact hb'
  · obtain rfl : ml = 0 := by omega
    have : ms = [] := List.eq_nil_of_length_eq_zero h3.hlen
    subst this
    exact StrsAt.nil _ _ _ h3.hcap

theorem Inv.firsted {L M : List Dr} (h : Inv L M) (v : Bool) : Inv (if v = true then L.drop 1 else L) M := by
  cases v with
  | false => exact h
  | true =>
    show Inv (L.drop 1) M
    by_cases h0 : 0 < L.length
    · rw [← wo_head h.n1 h0]
      exact h.wait
    · have : L = [] := List.eq_nil_of_length_eq_zero (by omega)
      subst this
      exact h

theorem blkc {w : World} {g : Nat} {x : Value} {t : TypeId} (h : w.heap[g]? = some (.cells #[x] t (0, 0))) : w.cell? ⟨g, 0, none⟩ = some x := by simp [World.cell?, h]

/-- First, handed the law's closure. -/
theorem first_of (w : World) (A : Nat → Prop) (g k : Nat) (L M : List Dr) (a : Option Addr) (n c : Nat) (ms : List ByteArray) (h : DIn w A g 0 L M) (hv : Inv L M) (hk : w.cell? ⟨k, 0, none⟩ = some (.slice a n c)) (hs : StrsAt w a n c ms) :
    Calls Try.prog 19 #[.pointer (some ⟨g, 0, none⟩), ofv k] w fun e w' => e = .returned (.tuple #[.string (if fB ms L = true then (nthD L 0).1 else ⟨#[]⟩), .bool (fB ms L)]) ∧ DIn w' A g 0 (if fB ms L = true then L.drop 1 else L) M ∧ Keep A w w' := by
  unfold fB
  by_cases h0 : 0 < L.length
  · have hb : Below w.heap.size w (w.alloc (.cells #[ofv k] 42)) := (Below.refl _ w).alloc (Nat.le_refl _) _
    have hb1 := hb.size
    have hask := asked_of w.heap.size k a n c ms (nthD L 0).1 (w.alloc (.cells #[ofv k] 42)) (blkc (heap_alloc_new w (.cells #[ofv k] 42))) ((hb.cell (p := ⟨k, 0, none⟩) (World.block_lt_of_cell? _ _ hk)).trans hk) (hs.below (Nat.le_refl _) hb)
    rw [decide_eq_true h0, Bool.true_and]
    cases hB : hasB ms (nthD L 0).1 with
    | true =>
      rw [hB] at hask
      simp only [if_true]
      exact (first_yes (.func 42) #[] #[.pointer (some ⟨k, 0, none⟩)] w A g L M (fun w' => Below w.heap.size w w') h hv h0 (hask.mono fun e w' ⟨he, hbl⟩ => ⟨he, below_trans hb hbl, keep_below (below_trans hb hbl)⟩)).mono fun e w' ⟨he, w2, hr, hd, hk2⟩ => ⟨he, hd, (keep_below hr).trans hk2⟩
    | false =>
      rw [hB] at hask
      simp only [reduceCtorEq, if_false]
      exact (first_no (.func 42) #[] #[.pointer (some ⟨k, 0, none⟩)] w A g L M (fun w' => Below w.heap.size w w') h h0 (hask.mono fun e w' ⟨he, hbl⟩ => ⟨he, below_trans hb hbl, keep_below (below_trans hb hbl)⟩)).mono fun e w' ⟨he, hr, hd⟩ => ⟨he, hd, keep_below hr⟩
  · have e0 : L = [] := List.eq_nil_of_length_eq_zero (by omega)
    subst e0
    simp only [List.length_nil, Nat.lt_irrefl, decide_false, Bool.false_and, reduceCtorEq, if_false]
    exact (first_none (.func 42) #[] #[.pointer (some ⟨k, 0, none⟩)] w A g M h).mono fun e w' ⟨he, hw⟩ => by subst hw; exact ⟨he, h, Keep.refl _ _⟩

theorem same_is (a a' : Option Addr) (n n' ca cb : Nat) (l : List ByteArray) (w : World) (h : StrsAt w a n ca l) (h' : StrsAt w a' n' cb l) :
    Calls Try.prog 23 #[.slice a n ca, .slice a' n' cb] w fun e w' => e = .returned (.bool true) ∧ Below w.heap.size w w' := by
  have := same_any a a' n n' ca cb l l w h h'
  rwa [decide_eq_true rfl] at this

/-- The drains at g have L and M, the document's at b read as L' and M'; the drains' blocks are none of A. -/
structure PS (w1 wr : World) (P A : Nat → Prop) (g b : Nat) (L M L' M' : List Dr) (x y z : Value) : Prop where
  d : DIn wr A g 0 L M
  low : ∀ k, P k → A k
  ab : A b
  pb : ¬ P b
  blk : wr.heap[b]? = some (.cells #[x, y, z] 29 (0, 0))
  rd : RfAt wr x y z L' M'
  inA : ∀ k, x.ownBlock = some k ∨ y.ownBlock = some k ∨ z.ownBlock = some k → A k ∧ k ≠ b
  keep : Keep P w1 wr

section
variable {w1 wr w' : World} {P A : Nat → Prop} {g b : Nat} {L M L' M' L2 M2 : List Dr} {x y z : Value}
theorem PS.lt (h : PS w1 wr P A g b L M L' M' x y z) : b < wr.heap.size := lt_of_heap h.blk
theorem PS.below (h : PS w1 wr P A g b L M L' M' x y z) (hb : Below wr.heap.size wr w') : PS w1 w' P (fun k => A k ∨ (wr.heap.size ≤ k ∧ k < w'.heap.size)) g b L M L' M' x y z :=
  ⟨h.d.below hb, fun k hk => .inl (h.low k hk), .inl h.ab, h.pb, (hb.block b h.lt).trans h.blk, h.rd.below hb, fun k e => ⟨.inl (h.inA k e).1, (h.inA k e).2⟩, h.keep.trans (keep_below hb)⟩
theorem PS.same (h : PS w1 wr P A g b L M L' M' x y z) (hb : Below wr.heap.size wr w') : PS w1 w' P A g b L M L' M' x y z :=
  ⟨h.d.same hb, h.low, h.ab, h.pb, (hb.block b h.lt).trans h.blk, h.rd.below hb, h.inA, h.keep.trans (keep_below hb)⟩
theorem PS.step (h : PS w1 wr P A g b L M L' M' x y z) (hq : DIn w' A g 0 L2 M2) (hk : Keep A wr w') : PS w1 w' P A g b L2 M2 L' M' x y z :=
  ⟨hq, h.low, h.ab, h.pb, (hk.block b h.lt h.ab).trans h.blk, h.rd.keep hk (fun k e => (h.inA k e).1), h.inA, h.keep.trans (hk.mono fun k _ hk => h.low k hk)⟩
theorem PS.put {x' y' z' : Value} (h : PS w1 wr P A g b L M L' M' x y z) (hv : RfAt wr x' y' z' L2 M2) (hin : ∀ k, x'.ownBlock = some k ∨ y'.ownBlock = some k ∨ z'.ownBlock = some k → A k ∧ k ≠ b) :
    PS w1 (((wr.setCell ⟨b, 0, none⟩ x').setCell ⟨b, 1, none⟩ y').setCell ⟨b, 2, none⟩ z') P A g b L M L2 M2 x' y' z' := by
  obtain ⟨x0, k9⟩ := res_put h.blk x' y' z'
  refine ⟨h.d.keep (k9.mono fun k _ hn e => hn (e ▸ h.ab)) (fun k hk => .inl hk) (fun k hk => Nat.lt_of_lt_of_le (h.d.guard k hk) k9.size), h.low, h.ab, h.pb, x0, hv.keep k9 (fun k e => (hin k e).2), hin, h.keep.trans (k9.mono fun k _ hk => fun e => h.pb (e ▸ hk))⟩

/-- The same, and the step lies at s. -/
structure PQ (w1 wr : World) (P A : Nat → Prop) (g b s : Nat) (L M L' M' : List Dr) (x y z : Value) (st : Stp) : Prop where
  ps : PS w1 wr P A g b L M L' M' x y z
  az : A s
  st : StAt wr s st

variable {s : Nat} {st : Stp}
theorem PQ.below (h : PQ w1 wr P A g b s L M L' M' x y z st) (hb : Below wr.heap.size wr w') : PQ w1 w' P (fun k => A k ∨ (wr.heap.size ≤ k ∧ k < w'.heap.size)) g b s L M L' M' x y z st :=
  ⟨h.ps.below hb, .inl h.az, h.st.below hb⟩
theorem PQ.same (h : PQ w1 wr P A g b s L M L' M' x y z st) (hb : Below wr.heap.size wr w') : PQ w1 w' P A g b s L M L' M' x y z st :=
  ⟨h.ps.same hb, h.az, h.st.below hb⟩
theorem PQ.step (h : PQ w1 wr P A g b s L M L' M' x y z st) (hq : DIn w' A g 0 L2 M2) (hk : Keep A wr w') : PQ w1 w' P A g b s L2 M2 L' M' x y z st :=
  ⟨h.ps.step hq hk, h.az, h.st.keep hk h.az⟩
theorem PQ.ne (h : PQ w1 wr P A g b s L M L' M' x y z st) : s ≠ b := by
  rintro rfl
  have := h.st
  unfold StAt at this
  rw [h.ps.blk] at this
  simp at this
theorem PQ.put {x' y' z' : Value} (h : PQ w1 wr P A g b s L M L' M' x y z st) (hv : RfAt wr x' y' z' L2 M2) (hin : ∀ k, x'.ownBlock = some k ∨ y'.ownBlock = some k ∨ z'.ownBlock = some k → A k ∧ k ≠ b) :
    PQ w1 (((wr.setCell ⟨b, 0, none⟩ x').setCell ⟨b, 1, none⟩ y').setCell ⟨b, 2, none⟩ z') P A g b s L M L2 M2 x' y' z' st :=
  ⟨h.ps.put hv hin, h.az, h.st.keep (res_put h.ps.blk _ _ _).2 h.ne⟩

/-- The document's drains are the next ones: they were laid in new blocks, or are the elder ones, and lie in a block of their own ahead of being stored. -/
theorem PQ.next {w5 : World} {x' y' z' : Value} (h : PQ w1 wr P A g b s L M L' M' x y z st) (hb : Below wr.heap.size wr w5) (hv : RfAt w5 x' y' z' L2 M2) (hf : From wr w5 x y z x' ∧ From wr w5 x y z y' ∧ From wr w5 x y z z') :
    PQ w1 ((((w5.alloc (.cells #[x', y', z'] 29)).setCell ⟨b, 0, none⟩ x').setCell ⟨b, 1, none⟩ y').setCell ⟨b, 2, none⟩ z') P (fun k => A k ∨ (wr.heap.size ≤ k ∧ k < w5.heap.size)) g b s L M L2 M2 x' y' z' st := by
  have hb9 : Below w5.heap.size w5 (w5.alloc (.cells #[x', y', z'] 29)) := (Below.refl _ w5).alloc (Nat.le_refl _) _
  have hlt := h.ps.lt
  refine ((h.below hb).same hb9).put (hv.below hb9) (fun k e => ?_)
  have : (x.ownBlock = some k ∨ y.ownBlock = some k ∨ z.ownBlock = some k) ∨ (wr.heap.size ≤ k ∧ k < w5.heap.size) := by
    rcases e with e | e | e
    · exact hf.1 k e
    · exact hf.2.1 k e
    · exact hf.2.2 k e
  rcases this with h1 | h1
  · exact ⟨.inl (h.ps.inA k h1).1, (h.ps.inA k h1).2⟩
  · exact ⟨.inr h1, by omega⟩
end

/-- What holds all through the look at both. -/
structure LP (w1 w5 : World) (P A : Nat → Prop) (g b s : Nat) (L M : List Dr) (x y z : Value) (st : Stp) (w' : World) : Prop where
  q : PQ w1 w' P A g b s L M L M x y z st
  bel : Below w5.heap.size w5 w'

section
variable {w1 w5 w' w'' : World} {P A : Nat → Prop} {g b s : Nat} {L M : List Dr} {x y z : Value} {st : Stp}
theorem LP.step (h : LP w1 w5 P A g b s L M x y z st w') (hb : Below w'.heap.size w' w'') : LP w1 w5 P A g b s L M x y z st w'' :=
  ⟨h.q.same hb, below_trans h.bel hb⟩
/-- What the look reads. -/
def Held (w1 w5 : World) (P A : Nat → Prop) (g b s : Nat) (L M : List Dr) (x y z : Value) (st : Stp) (w' : World) : Prop :=
  w'.cell? ⟨b, 0, none⟩ = some x ∧ w'.cell? ⟨b, 1, none⟩ = some y ∧ w'.cell? ⟨b, 2, none⟩ = some z ∧ w'.cell? ⟨s, 1, none⟩ = some (.int .i64 st.n) ∧ w'.cell? ⟨s, 2, none⟩ = some (.string st.nm) ∧ LP w1 w5 P A g b s L M x y z st w'
theorem LP.held (h : LP w1 w5 P A g b s L M x y z st w') (hb : Below w'.heap.size w' w'') : Held w1 w5 P A g b s L M x y z st w'' := by
  have h2 := h.step hb
  obtain ⟨c0, c1, c2, _⟩ := blk3 h2.q.ps.blk
  exact ⟨c0, c1, c2, h2.q.st.cells.2.1, h2.q.st.cells.2.2.1, h2⟩
theorem lp_of (h : w'.cell? ⟨b, 0, none⟩ = some x ∧ w'.cell? ⟨b, 1, none⟩ = some y ∧ w'.cell? ⟨b, 2, none⟩ = some z ∧ w'.cell? ⟨s, 1, none⟩ = some (.int .i64 st.n) ∧ w'.cell? ⟨s, 2, none⟩ = some (.string st.nm) ∧ LP w1 w5 P A g b s L M x y z st w') : LP w1 w5 P A g b s L M x y z st w' := h.2.2.2.2.2
theorem LP.dat (h : LP w1 w5 P A g b s L M x y z st w') : DIn w' A g 0 L M := h.q.ps.d
theorem LP.wt {a : Option Addr} {n c : Nat} (h : LP w1 w5 P A g b s L M (.slice a n c) y z st w') : StrsAt w' a n c (nms L) := h.q.ps.rd.wt.strs
theorem LP.un {a : Option Addr} {n c : Nat} (h : LP w1 w5 P A g b s L M x (.slice a n c) z st w') : StrsAt w' a n c (nms M) := h.q.ps.rd.un.strs
theorem LP.zs {a : Option Addr} {n c : Nat} (h : LP w1 w5 P A g b s L M x y (.slice a n c) st w') : IntsAt w' a n c (M.map Prod.snd) := h.q.ps.rd.at_.ints
theorem LP.held5 {b5 o5 : Nat} {v : Int} (h : LP w1 w5 P A g b s L M x y z st w') (hc : w'.cell? ⟨b5, o5, none⟩ = some (.int .i64 v)) (hb : Below w'.heap.size w' w'') :
    w''.cell? ⟨b5, o5, none⟩ = some (.int .i64 v) ∧ w''.cell? ⟨b, 0, none⟩ = some x ∧ w''.cell? ⟨b, 1, none⟩ = some y ∧ w''.cell? ⟨b, 2, none⟩ = some z ∧ w''.cell? ⟨s, 1, none⟩ = some (.int .i64 st.n) ∧ w''.cell? ⟨s, 2, none⟩ = some (.string st.nm) ∧ LP w1 w5 P A g b s L M x y z st w'' :=
  ⟨(hb.cell (World.block_lt_of_cell? _ _ hc)).trans hc, h.held hb⟩
theorem lp5_of {b5 o5 : Nat} {v : Int} (h : w'.cell? ⟨b5, o5, none⟩ = some (.int .i64 v) ∧ w'.cell? ⟨b, 0, none⟩ = some x ∧ w'.cell? ⟨b, 1, none⟩ = some y ∧ w'.cell? ⟨b, 2, none⟩ = some z ∧ w'.cell? ⟨s, 1, none⟩ = some (.int .i64 st.n) ∧ w'.cell? ⟨s, 2, none⟩ = some (.string st.nm) ∧ LP w1 w5 P A g b s L M x y z st w') : LP w1 w5 P A g b s L M x y z st w' := h.2.2.2.2.2.2
theorem lp5_c {b5 o5 : Nat} {v : Int} (h : w'.cell? ⟨b5, o5, none⟩ = some (.int .i64 v) ∧ w'.cell? ⟨b, 0, none⟩ = some x ∧ w'.cell? ⟨b, 1, none⟩ = some y ∧ w'.cell? ⟨b, 2, none⟩ = some z ∧ w'.cell? ⟨s, 1, none⟩ = some (.int .i64 st.n) ∧ w'.cell? ⟨s, 2, none⟩ = some (.string st.nm) ∧ LP w1 w5 P A g b s L M x y z st w') : w'.cell? ⟨b5, o5, none⟩ = some (.int .i64 v) := h.1
end

/-- What falls due, of the drains and of the document's, is the same. -/
theorem due_e (w : World) (A : Nat → Prop) (g : Nat) (L M : List Dr) (now : Int) (h : DIn w A g 0 L M) (hl : M.length ≤ 900) :
    Calls Try.prog 26 #[.pointer (some ⟨g, 0, none⟩), .int .i64 now] w fun e w' => ∃ a n c, e = .returned (.slice a n c) ∧ StrsAt w' a n c (dueL now M) ∧ Below w.heap.size w w' :=
  (due_s w A g L M now h hl).mono fun _ _ ⟨a, c, h1, h2, h3⟩ => ⟨a, _, c, h1, h2, h3⟩
theorem rdue_e (w : World) (a0 a1 a2 : Option Addr) (n0 n n2 c0 c1 c2 : Nat) (M : List Dr) (now : Int) (hu : StrsAt w a1 n c1 (nms M)) (hz : IntsAt w a2 n2 c2 (M.map Prod.snd)) (hl : M.length ≤ 900) :
    Calls Try.prog 27 #[.agg #[.slice a0 n0 c0, .slice a1 n c1, .slice a2 n2 c2], .int .i64 now] w fun e w' => ∃ a n c, e = .returned (.slice a n c) ∧ StrsAt w' a n c (dueL now M) ∧ Below w.heap.size w w' := by
  have e1 : M.length = n := by rw [← hu.hlen, nms_length]
  have e2 : M.length = n2 := by rw [← hz.hlen, List.length_map]
  obtain rfl : n2 = n := by omega
  exact (rdue_any w a0 a1 a2 n0 n2 c0 c1 c2 M now hu hz (by omega) e1).mono fun _ _ ⟨v, h1, h2, h3⟩ => by
    obtain ⟨a, c, rfl, hs, _⟩ := owns_strs h2
    exact ⟨a, _, c, h1, hs, h3⟩

end Go.Proofs.Ythobihlnjcphaaa
