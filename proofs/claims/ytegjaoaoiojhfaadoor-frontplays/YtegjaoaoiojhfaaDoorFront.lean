/-
  Where a front lies: a block with its state and its row of held frames, the row in a block of its own; the tables; how they last. Conditions: they lie where they are said to lie.
-/
import Derived.Test.YtegjaoaoiojhfaaDoorMem
namespace Go.Proofs.YtegjaoaoiojhfaaDoor
open Go.ChangeShapes Go.WideShapes Go.ChangeAt Go.RowKit

/-- The tables: what comes of a frame, and the kinds' columns. -/
structure Tabs (w : World) : Prop where
  pos : 2 < w.heap.size
  tb : ∀ j, j < 84 → w.cell? ⟨1, j, none⟩ = some (.int .i64 (tab.getD j 0))
  cl : ∀ j, j < 9 → w.cell? ⟨2, j, none⟩ = some (.int .i64 (cols.getD j 0))
theorem Tabs.below {w w' : World} (h : Tabs w) (hb : Below w.heap.size w w') : Tabs w' := by
  have h1 := h.pos
  exact ⟨Nat.lt_of_lt_of_le h.pos hb.size, fun j hj => (hb.cell (p := ⟨1, j, none⟩) (by show 1 < _; omega)).trans (h.tb j hj), fun j hj => (hb.cell (p := ⟨2, j, none⟩) h1).trans (h.cl j hj)⟩
theorem Tabs.keep {w w' : World} {A : Nat → Prop} (h : Tabs w) (hk : Keep A w w') (h1 : A 1) (h2 : A 2) : Tabs w' :=
  ⟨Nat.lt_of_lt_of_le h.pos hk.size, fun j hj => hk.cell (h.tb j hj) h1, fun j hj => hk.cell (h.cl j hj) h2⟩

/-- A front lies at block g; none of its blocks is one of A. -/
structure FIn (w : World) (A : Nat → Prop) (g : Nat) (s : Ft) : Prop where
  ex : ∃ a c l, w.heap[g]? = some (.cells #[.int .i64 s.st, .slice a s.hl.length c] 56 (0, 0)) ∧ RIn w (fun k => A k ∨ k = g) a c l ∧ s.hl.length ≤ c ∧ l.take s.hl.length = s.hl
  gout : ¬ A g
  guard : ∀ k, A k → k < w.heap.size
  tabs : Tabs w
  a1 : A 1
  a2 : A 2

section
variable {w w' : World} {A B : Nat → Prop} {g : Nat} {s : Ft}
theorem FIn.lt (h : FIn w A g s) : g < w.heap.size := by
  obtain ⟨a, c, l, h1, _⟩ := h.ex
  exact lt_of_heap h1
theorem FIn.drewN (h : FIn w A g s) (q : Nat) : FIn (w.drewN q) A g s := ⟨h.ex, h.gout, h.guard, ⟨h.tabs.pos, h.tabs.tb, h.tabs.cl⟩, h.a1, h.a2⟩
theorem FIn.drew (h : FIn w A g s) : FIn w.drew A g s := ⟨h.ex, h.gout, h.guard, ⟨h.tabs.pos, h.tabs.tb, h.tabs.cl⟩, h.a1, h.a2⟩
/-- It lasts while what is not its own is made or written. -/
theorem FIn.keep (h : FIn w A g s) (hk : Keep (fun k => ¬ A k ∨ k = 1 ∨ k = 2) w w') (hB : ∀ k, B k → A k ∨ w.heap.size ≤ k) (hs : ∀ k, B k → k < w'.heap.size) (b1 : B 1) (b2 : B 2) : FIn w' B g s := by
  have hl := h.lt
  obtain ⟨a, c, l, h1, h2, h3, h4⟩ := h.ex
  have mv : ∀ (b : Nat) (x : Array Value), ¬ (A b ∨ b = g) → w.heap[b]? = some (.cells x 31 (0, 0)) → w'.heap[b]? = w.heap[b]? ∧ ¬ (B b ∨ b = g) := by
    intro b x hn hg
    have hlt := lt_of_heap hg
    refine ⟨hk.block b hlt (.inl (fun e => hn (.inl e))), fun e => ?_⟩
    rcases e with e | e
    · rcases hB b e with e | e
      · exact hn (.inl e)
      · omega
    · exact hn (.inr e)
  refine ⟨⟨a, c, l, by rw [hk.block g hl (.inl h.gout)]; exact h1, h2.move mv, h3, h4⟩, fun e => ?_, hs, h.tabs.keep hk (.inr (.inl rfl)) (.inr (.inr rfl)), b1, b2⟩
  rcases hB g e with e | e
  · exact h.gout e
  · omega
theorem FIn.below (h : FIn w A g s) (hb : Below w.heap.size w w') : FIn w' A g s :=
  h.keep (keep_below hb) (fun _ hk => .inl hk) (fun k hk => Nat.lt_of_lt_of_le (h.guard k hk) hb.size) h.a1 h.a2
/-- The same, what is new being none of its blocks. -/
theorem FIn.belowN (h : FIn w A g s) (hb : Below w.heap.size w w') : FIn w' (fun k => A k ∨ (w.heap.size ≤ k ∧ k < w'.heap.size)) g s :=
  h.keep (keep_below hb) (fun k hk => hk.imp id (fun e => e.1)) (fun k hk => by
    rcases hk with hk | hk
    · exact Nat.lt_of_lt_of_le (h.guard k hk) hb.size
    · exact hk.2) (.inl h.a1) (.inl h.a2)
theorem FIn.fewer (h : FIn w A g s) (hB : ∀ k, B k → A k) (b1 : B 1) (b2 : B 2) : FIn w B g s :=
  h.keep (Keep.refl _ _) (fun k hk => .inl (hB k hk)) (fun k hk => h.guard k (hB k hk)) b1 b2

/-- Its cells. -/
theorem FIn.cells (h : FIn w A g s) : ∃ a c, w.cell? ⟨g, 0, none⟩ = some (.int .i64 s.st) ∧ w.cell? ⟨g, 1, none⟩ = some (.slice a s.hl.length c) ∧ (∀ o, w.frozen? ⟨g, o, none⟩ = false) ∧ s.hl.length ≤ c ∧ c ≤ maxLen ∧ g < w.heap.size ∧
    ∀ i, i < s.hl.length → ∃ b, a = some ⟨b, 0, none⟩ ∧ b < w.heap.size ∧ w.cell? ⟨b, i * 2, none⟩ = some (.int .i64 (nthD s.hl i).k) ∧ w.cell? ⟨b, i * 2 + 1, none⟩ = some (.string (nthD s.hl i).s) := by
  obtain ⟨a, c, l, h1, ⟨r1, r2, r3⟩, h3, h4⟩ := h.ex
  refine ⟨a, c, (blk2 h1).1, (blk2 h1).2.1, fun o => fz2 h1 o, h3, r2, (blk2 h1).2.2, fun i hi => ?_⟩
  rcases r3 with ⟨_, r3⟩ | ⟨b, e, _, hg⟩
  · omega
  · have := row_cells hg (i := i) (by omega)
    rw [← h4, nthD_take hi]
    exact ⟨b, e, lt_of_heap hg, this⟩
/-- Another state. -/
theorem FIn.setSt (h : FIn w A g s) (t : Int) : FIn (w.setCell ⟨g, 0, none⟩ (.int .i64 t)) A g ⟨t, s.hl⟩ ∧ Keep A w (w.setCell ⟨g, 0, none⟩ (.int .i64 t)) := by
  have hk : Keep (fun k => k ≠ g) w (w.setCell ⟨g, 0, none⟩ (.int .i64 t)) := (Keep.refl _ w).setCell (fun hn => hn rfl) _
  have hka : Keep A w (w.setCell ⟨g, 0, none⟩ (.int .i64 t)) := hk.mono (fun k _ hA e => h.gout (e ▸ hA))
  obtain ⟨a, c, l, h1, h2, h3, h4⟩ := h.ex
  refine ⟨⟨⟨a, c, l, (heap_set2 h1).1, h2.move (fun b x hb hx => ⟨hk.block b (lt_of_heap hx) (fun e => hb (.inr e)), hb⟩), h3, h4⟩, h.gout, fun k hk2 => Nat.lt_of_lt_of_le (h.guard k hk2) hk.size, h.tabs.keep hka h.a1 h.a2, h.a1, h.a2⟩, hka⟩
/-- It holds nothing any more. -/
theorem FIn.clr (h : FIn w A g s) : FIn (w.setCell ⟨g, 1, none⟩ (.slice none 0 0)) A g ⟨s.st, []⟩ ∧ Keep A w (w.setCell ⟨g, 1, none⟩ (.slice none 0 0)) := by
  have hk : Keep (fun k => k ≠ g) w (w.setCell ⟨g, 1, none⟩ (.slice none 0 0)) := (Keep.refl _ w).setCell (fun hn => hn rfl) _
  have hka : Keep A w (w.setCell ⟨g, 1, none⟩ (.slice none 0 0)) := hk.mono (fun k _ hA e => h.gout (e ▸ hA))
  obtain ⟨a, c, l, h1, h2, h3, h4⟩ := h.ex
  exact ⟨⟨⟨none, 0, [], (heap_set2 h1).2, RIn.nil _ _, Nat.le_refl _, rfl⟩, h.gout, fun k hk2 => Nat.lt_of_lt_of_le (h.guard k hk2) hk.size, h.tabs.keep hka h.a1 h.a2, h.a1, h.a2⟩, hka⟩
/-- What the row wants so that one more frame is put behind it, and what comes of it. -/
theorem FIn.push (h : FIn w A g s) :
    ∃ (a : Option Addr) (c : Nat) (l : List Fr), w.cell? ⟨g, 1, none⟩ = some (.slice a s.hl.length c) ∧ RIn w (fun k => A k ∨ k = g) a c l ∧ s.hl.length ≤ c ∧ l.take s.hl.length = s.hl ∧ (∀ k, (A k ∨ k = g) → k < w.heap.size) ∧
      ∀ (w0 w3 : World) (a' : Option Addr) (c' : Nat) (l' : List Fr) (p : Fr), Below w.heap.size w w0 → RIn w3 (fun k => A k ∨ k = g) a' c' l' → s.hl.length + 1 ≤ c' → l'.take (s.hl.length + 1) = s.hl ++ [p] → Keep (fun k => A k ∨ k = g) w0 w3 →
        w3.cell? ⟨g, 1, none⟩ = some (.slice a s.hl.length c) ∧ w3.frozen? ⟨g, 1, none⟩ = false ∧ FIn (w3.setCell ⟨g, 1, none⟩ (.slice a' (s.hl.length + 1) c')) A g ⟨s.st, s.hl ++ [p]⟩ ∧ Keep A w (w3.setCell ⟨g, 1, none⟩ (.slice a' (s.hl.length + 1) c')) := by
  have hlt := h.lt
  obtain ⟨a, c, l, h1, h2, h3, h4⟩ := h.ex
  have hB : ∀ k, (A k ∨ k = g) → k < w.heap.size := by
    rintro k (hk | rfl)
    · exact h.guard k hk
    · exact hlt
  refine ⟨a, c, l, (blk2 h1).2.1, h2, h3, h4, hB, ?_⟩
  intro w0 w3 a2 c2 l2 p hb y1 y2 y3 y4
  have hg3 : w3.heap[g]? = some (.cells #[.int .i64 s.st, .slice a s.hl.length c] 56 (0, 0)) := (y4.block g (Nat.lt_of_lt_of_le hlt hb.size) (.inr rfl)).trans ((hb.block g hlt).trans h1)
  have hc := blk2 hg3
  have hl1 : (s.hl ++ [p]).length = s.hl.length + 1 := by simp
  have hk : Keep (fun k => k ≠ g) w3 (w3.setCell ⟨g, 1, none⟩ (.slice a2 (s.hl.length + 1) c2)) := (Keep.refl _ w3).setCell (fun hn => hn rfl) _
  have hka : Keep A w (w3.setCell ⟨g, 1, none⟩ (.slice a2 (s.hl.length + 1) c2)) := ((keep_below hb).trans (y4.mono fun k _ hk => .inl hk)).trans (hk.mono (fun k _ hA e => h.gout (e ▸ hA)))
  refine ⟨hc.2.1, fz2 hg3 1, ⟨⟨a2, c2, l2, ?_, y1.move (fun b x hb hx => ⟨hk.block b (lt_of_heap hx) (fun e => hb (.inr e)), hb⟩), by rw [hl1]; exact y2, by rw [hl1]; exact y3⟩, h.gout, fun k hk2 => Nat.lt_of_lt_of_le (h.guard k hk2) hka.size, h.tabs.keep hka h.a1 h.a2, h.a1, h.a2⟩, hka⟩
  rw [hl1]
  exact (heap_set2 hg3).2
end

end Go.Proofs.YtegjaoaoiojhfaaDoor
