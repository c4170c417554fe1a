/-
  The document's drains in a block of three cells; the pair of blocks that each of its calls lays first. No conditions.
-/
import Derived.Test.YthobihlnjcphaaaRTx
import Derived.Test.YthobihlnjcphaaaBeg
import Derived.Test.YthobihlnjcphaaaDue
namespace Go.Proofs.Ythobihlnjcphaaa
open Go.ChangeShapes Go.WideShapes Go.ChangeAt Go.RowKit

theorem blk3 {w : World} {g : Nat} {x y z : Value} {t : TypeId} (h : w.heap[g]? = some (.cells #[x, y, z] t (0, 0))) :
    w.cell? ⟨g, 0, none⟩ = some x ∧ w.cell? ⟨g, 1, none⟩ = some y ∧ w.cell? ⟨g, 2, none⟩ = some z ∧ g < w.heap.size :=
  ⟨by simp [World.cell?, h], by simp [World.cell?, h], by simp [World.cell?, h], (Array.getElem?_eq_some_iff.1 h).1⟩
theorem fz3 {w : World} {g : Nat} {x y z : Value} {t : TypeId} (h : w.heap[g]? = some (.cells #[x, y, z] t (0, 0))) (o : Nat) : w.frozen? ⟨g, o, none⟩ = false := by simp [World.frozen?, h]
theorem heap_set3 {w : World} {g : Nat} {x y z u : Value} {t : TypeId} (h : w.heap[g]? = some (.cells #[x, y, z] t (0, 0))) :
    (w.setCell ⟨g, 0, none⟩ u).heap[g]? = some (.cells #[u, y, z] t (0, 0)) ∧ (w.setCell ⟨g, 1, none⟩ u).heap[g]? = some (.cells #[x, u, z] t (0, 0)) ∧ (w.setCell ⟨g, 2, none⟩ u).heap[g]? = some (.cells #[x, y, u] t (0, 0)) :=
  ⟨by rw [heap_setCell_same w g 0 _ t _ h]; simp, by rw [heap_setCell_same w g 1 _ t _ h]; simp, by rw [heap_setCell_same w g 2 _ t _ h]; simp⟩
theorem res_put {wr : World} {b : Nat} {x y z : Value} (h : wr.heap[b]? = some (.cells #[x, y, z] 29 (0, 0))) (u v t : Value) :
    (((wr.setCell ⟨b, 0, none⟩ u).setCell ⟨b, 1, none⟩ v).setCell ⟨b, 2, none⟩ t).heap[b]? = some (.cells #[u, v, t] 29 (0, 0)) ∧ Keep (fun k => k ≠ b) wr (((wr.setCell ⟨b, 0, none⟩ u).setCell ⟨b, 1, none⟩ v).setCell ⟨b, 2, none⟩ t) :=
  ⟨(heap_set3 (heap_set3 (heap_set3 h).1).2.1).2.2, (((Keep.refl _ wr).setCell (fun hn => hn rfl) _).setCell (fun hn => hn rfl) _).setCell (fun hn => hn rfl) _⟩
theorem two_blocks (w : World) (x y z : Value) :
    ((w.alloc (.cells #[x, y, z] 29)).alloc (.cells #[.slice none 0 0, .slice none 0 0, .slice none 0 0] 29)).heap[w.heap.size]? = some (.cells #[x, y, z] 29 (0, 0)) ∧
    ((w.alloc (.cells #[x, y, z] 29)).alloc (.cells #[.slice none 0 0, .slice none 0 0, .slice none 0 0] 29)).heap[w.heap.size + 1]? = some (.cells #[.slice none 0 0, .slice none 0 0, .slice none 0 0] 29 (0, 0)) ∧
    ((w.alloc (.cells #[x, y, z] 29)).alloc (.cells #[.slice none 0 0, .slice none 0 0, .slice none 0 0] 29)).heap.size = w.heap.size + 2 ∧
    Below w.heap.size w ((w.alloc (.cells #[x, y, z] 29)).alloc (.cells #[.slice none 0 0, .slice none 0 0, .slice none 0 0] 29)) := by
  refine ⟨?_, ?_, by simp, ((Below.refl _ w).alloc (Nat.le_refl _) _).alloc (by simp) _⟩
  · rw [Below.heap_alloc _ _ _ (by simp)]; exact heap_alloc_new w _
  · have := heap_alloc_new (w.alloc (.cells #[x, y, z] 29)) (.cells #[.slice none 0 0, .slice none 0 0, .slice none 0 0] 29)
    simpa using this

/-- Two blocks b2 and b4 of a call's own: the drains at b2 are x, y, z; the result's at b4 are none yet. -/
structure Bx (w0 w : World) (b2 b4 : Nat) (x y z : Value) : Prop where
  g2 : w.heap[b2]? = some (.cells #[x, y, z] 29 (0, 0))
  g4 : w.heap[b4]? = some (.cells #[.slice none 0 0, .slice none 0 0, .slice none 0 0] 29 (0, 0))
  ne : b2 ≠ b4
  l2 : w0.heap.size ≤ b2
  l4 : w0.heap.size ≤ b4
  bel : Below w0.heap.size w0 w
section
variable {w0 w w' : World} {b2 b4 : Nat} {x y z u : Value}
theorem Bx.new (w : World) (x y z : Value) : Bx w ((w.alloc (.cells #[x, y, z] 29)).alloc (.cells #[.slice none 0 0, .slice none 0 0, .slice none 0 0] 29)) w.heap.size (w.heap.size + 1) x y z := by
  obtain ⟨h1, h2, h3, h4⟩ := two_blocks w x y z
  exact ⟨h1, h2, by omega, Nat.le_refl _, by omega, h4⟩
theorem Bx.below (h : Bx w0 w b2 b4 x y z) (hb : Below w.heap.size w w') : Bx w0 w' b2 b4 x y z :=
  ⟨(hb.block b2 (lt_of_heap h.g2)).trans h.g2, (hb.block b4 (lt_of_heap h.g4)).trans h.g4, h.ne, h.l2, h.l4, h.bel.trans (hb.mono h.bel.size)⟩
theorem Bx.set (h : Bx w0 w b2 b4 x y z) (o : Nat) (v : Value) : Keep (fun k => k ≠ b2) w (w.setCell ⟨b2, o, none⟩ v) ∧ (w.setCell ⟨b2, o, none⟩ v).heap[b4]? = some (.cells #[.slice none 0 0, .slice none 0 0, .slice none 0 0] 29 (0, 0)) ∧ Below w0.heap.size w0 (w.setCell ⟨b2, o, none⟩ v) := by
  have hk : Keep (fun k => k ≠ b2) w (w.setCell ⟨b2, o, none⟩ v) := (Keep.refl _ w).setCell (fun hn => hn rfl) _
  exact ⟨hk, (hk.block b4 (lt_of_heap h.g4) (fun e => h.ne e.symm)).trans h.g4, h.bel.trans (hk.below h.bel.size (fun k hk e => by have := h.l2; omega))⟩
theorem Bx.set0 (h : Bx w0 w b2 b4 x y z) (u : Value) : Bx w0 (w.setCell ⟨b2, 0, none⟩ u) b2 b4 u y z := ⟨(heap_set3 h.g2).1, (h.set 0 u).2.1, h.ne, h.l2, h.l4, (h.set 0 u).2.2⟩
theorem Bx.set1 (h : Bx w0 w b2 b4 x y z) (u : Value) : Bx w0 (w.setCell ⟨b2, 1, none⟩ u) b2 b4 x u z := ⟨(heap_set3 h.g2).2.1, (h.set 1 u).2.1, h.ne, h.l2, h.l4, (h.set 1 u).2.2⟩
theorem Bx.set2 (h : Bx w0 w b2 b4 x y z) (u : Value) : Bx w0 (w.setCell ⟨b2, 2, none⟩ u) b2 b4 x y u := ⟨(heap_set3 h.g2).2.2, (h.set 2 u).2.1, h.ne, h.l2, h.l4, (h.set 2 u).2.2⟩
theorem Bx.cells (h : Bx w0 w b2 b4 x y z) : w.cell? ⟨b2, 0, none⟩ = some x ∧ w.cell? ⟨b2, 1, none⟩ = some y ∧ w.cell? ⟨b2, 2, none⟩ = some z := ⟨(blk3 h.g2).1, (blk3 h.g2).2.1, (blk3 h.g2).2.2.1⟩
theorem Bx.fz (h : Bx w0 w b2 b4 x y z) (o : Nat) : w.frozen? ⟨b2, o, none⟩ = false := fz3 h.g2 o
theorem Bx.fz4 (h : Bx w0 w b2 b4 x y z) (o : Nat) : w.frozen? ⟨b4, o, none⟩ = false := fz3 h.g4 o
theorem Bx.cells4 (h : Bx w0 w b2 b4 x y z) : w.cell? ⟨b4, 0, none⟩ = some (.slice none 0 0) ∧ w.cell? ⟨b4, 1, none⟩ = some (.slice none 0 0) ∧ w.cell? ⟨b4, 2, none⟩ = some (.slice none 0 0) := ⟨(blk3 h.g4).1, (blk3 h.g4).2.1, (blk3 h.g4).2.2.1⟩
/-- The drains are the result. -/
theorem Bx.out (h : Bx w0 w b2 b4 x y z) : (((w.setCell ⟨b4, 0, none⟩ x).setCell ⟨b4, 1, none⟩ y).setCell ⟨b4, 2, none⟩ z).heap[b4]? = some (.cells #[x, y, z] 29 (0, 0)) ∧ Keep (fun k => k ≠ b4) w (((w.setCell ⟨b4, 0, none⟩ x).setCell ⟨b4, 1, none⟩ y).setCell ⟨b4, 2, none⟩ z) ∧ Below w0.heap.size w0 (((w.setCell ⟨b4, 0, none⟩ x).setCell ⟨b4, 1, none⟩ y).setCell ⟨b4, 2, none⟩ z) := by
  obtain ⟨h1, h2⟩ := res_put h.g4 x y z
  exact ⟨h1, h2, h.bel.trans (h2.below h.bel.size (fun k hk e => by have := h.l4; omega))⟩
end

/-- The document's drains are x, y, z: the names of those that wait, of those under way, their deadlines. -/
structure RfAt (w : World) (x y z : Value) (L M : List Dr) : Prop where
  wt : TxAt w x (nms L)
  un : TxAt w y (nms M)
  at_ : IxAt w z (M.map Prod.snd)
theorem RfAt.below {w w' : World} {x y z : Value} {L M : List Dr} (h : RfAt w x y z L M) (hb : Below w.heap.size w w') : RfAt w' x y z L M := ⟨h.wt.below hb, h.un.below hb, h.at_.below hb⟩
theorem RfAt.keep {w w' : World} {A : Nat → Prop} {x y z : Value} {L M : List Dr} (h : RfAt w x y z L M) (hk : Keep A w w') (hA : ∀ k, x.ownBlock = some k ∨ y.ownBlock = some k ∨ z.ownBlock = some k → A k) : RfAt w' x y z L M :=
  ⟨h.wt.keep hk (fun k e => hA k (.inl e)), h.un.keep hk (fun k e => hA k (.inr (.inl e))), h.at_.keep hk (fun k e => hA k (.inr (.inr e)))⟩
theorem RfAt.nil (w : World) : RfAt w (.slice none 0 0) (.slice none 0 0) (.slice none 0 0) [] [] := ⟨TxAt.nil w, TxAt.nil w, IxAt.nil w⟩
/-- The value's block is one of three elder ones, or new. -/
def From (w w' : World) (x y z v : Value) : Prop := ∀ k, v.ownBlock = some k → (x.ownBlock = some k ∨ y.ownBlock = some k ∨ z.ownBlock = some k) ∨ (w.heap.size ≤ k ∧ k < w'.heap.size)

end Go.Proofs.Ythobihlnjcphaaa
