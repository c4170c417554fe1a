/-
  Where drains lie: two rows in one block, each row a slice of drains of its own; how they last. Conditions: they lie where they are said to lie.
-/
import Derived.Test.YtmlkpfkeeifgeaaDoorDel
import Derived.Deep.RegionWith
namespace Go.Proofs.YtmlkpfkeeifgeaaDoor
open Go.ChangeShapes Go.WideShapes Go.ChangeAt Go.RowKit

/-- The block of an address. -/
def bk (a : Option Addr) (k : Nat) : Prop := ∃ x, a = some x ∧ x.block = k
/-- Two values, the first one at place r (0 or 1). -/
def two (r : Nat) (x y : Value) : Array Value := if r = 0 then #[x, y] else #[y, x]

/-- Drains lie at block g: row r has L, the other one has M; none of their blocks is one of A. -/
structure DIn (w : World) (A : Nat → Prop) (g r : Nat) (L M : List Dr) : Prop where
  ex : ∃ a c l a' c' l', w.heap[g]? = some (.cells (two r (.slice a L.length c) (.slice a' M.length c')) 102 (0, 0)) ∧
    RIn w (fun k => A k ∨ k = g ∨ bk a' k) a c l ∧ L.length ≤ c ∧ l.take L.length = L ∧
    RIn w (fun k => A k ∨ k = g ∨ bk a k) a' c' l' ∧ M.length ≤ c' ∧ l'.take M.length = M
  gout : ¬ A g
  guard : ∀ k, A k → k < w.heap.size

theorem DIn.swap0 {w : World} {A : Nat → Prop} {g : Nat} {L M : List Dr} (h : DIn w A g 0 L M) : DIn w A g 1 M L := by
  obtain ⟨a, c, l, a', c', l', h1, h2, h3, h4, h5, h6, h7⟩ := h.ex
  exact ⟨⟨a', c', l', a, c, l, h1, h5, h6, h7, h2, h3, h4⟩, h.gout, h.guard⟩
theorem DIn.swap1 {w : World} {A : Nat → Prop} {g : Nat} {L M : List Dr} (h : DIn w A g 1 L M) : DIn w A g 0 M L := by
  obtain ⟨a, c, l, a', c', l', h1, h2, h3, h4, h5, h6, h7⟩ := h.ex
  exact ⟨⟨a', c', l', a, c, l, h1, h5, h6, h7, h2, h3, h4⟩, h.gout, h.guard⟩

theorem two_cells {w : World} {g r : Nat} {x y : Value} {t : TypeId} (hr : r = 0 ∨ r = 1) (h : w.heap[g]? = some (.cells (two r x y) t (0, 0))) :
    w.cell? ⟨g, r, none⟩ = some x ∧ w.cell? ⟨g, 1 - r, none⟩ = some y ∧ g < w.heap.size ∧ ∀ o, w.frozen? ⟨g, o, none⟩ = false := by
  rcases hr with rfl | rfl
  · exact ⟨(blk2 h).1, (blk2 h).2.1, (blk2 h).2.2, fun o => fz2 h o⟩
  · exact ⟨(blk2 h).2.1, (blk2 h).1, (blk2 h).2.2, fun o => fz2 h o⟩
theorem two_set {w : World} {g r : Nat} {x y u : Value} {t : TypeId} (hr : r = 0 ∨ r = 1) (h : w.heap[g]? = some (.cells (two r x y) t (0, 0))) :
    (w.setCell ⟨g, r, none⟩ u).heap[g]? = some (.cells (two r u y) t (0, 0)) := by
  rcases hr with rfl | rfl
  · exact (heap_set2 h).1
  · exact (heap_set2 h).2

section
variable {w w' : World} {A B : Nat → Prop} {g r : Nat} {L M : List Dr}
theorem DIn.lt (h : DIn w A g r L M) : g < w.heap.size := by
  obtain ⟨a, c, l, a', c', l', h1, _⟩ := h.ex
  exact lt_of_heap h1
theorem DIn.drewN (h : DIn w A g r L M) (q : Nat) : DIn (w.drewN q) A g r L M := ⟨h.ex, h.gout, h.guard⟩
/-- They last while what is not theirs is made or written, and what is new is none of their blocks. -/
theorem DIn.keep (h : DIn w A g r L M) (hk : Keep (fun k => ¬ A k) w w') (hB : ∀ k, B k → A k ∨ w.heap.size ≤ k) (hs : ∀ k, B k → k < w'.heap.size) : DIn w' B g r L M := by
  have hl := h.lt
  obtain ⟨a, c, l, a', c', l', h1, h2, h3, h4, h5, h6, h7⟩ := h.ex
  have mv : ∀ (z : Option Addr) (b : Nat) (x : Array Value), ¬ (A b ∨ b = g ∨ bk z b) → w.heap[b]? = some (.cells x 118 (0, 0)) → w'.heap[b]? = w.heap[b]? ∧ ¬ (B b ∨ b = g ∨ bk z b) := by
    intro z b x hn hg
    have hlt := lt_of_heap hg
    refine ⟨hk.block b hlt (fun e => hn (.inl e)), fun e => ?_⟩
    rcases e with e | e
    · rcases hB b e with e | e
      · exact hn (.inl e)
      · omega
    · exact hn (.inr e)
  refine ⟨⟨a, c, l, a', c', l', by rw [hk.block g hl h.gout]; exact h1, h2.move (mv a'), h3, h4, h5.move (mv a), h6, h7⟩, fun e => ?_, hs⟩
  rcases hB g e with e | e
  · exact h.gout e
  · omega
theorem DIn.below (h : DIn w A g r L M) (hb : Below w.heap.size w w') : DIn w' (fun k => A k ∨ (w.heap.size ≤ k ∧ k < w'.heap.size)) g r L M :=
  h.keep (keep_below hb) (fun k hk => hk.imp id (fun e => e.1)) (fun k hk => by
    rcases hk with hk | hk
    · exact Nat.lt_of_lt_of_le (h.guard k hk) hb.size
    · exact hk.2)
theorem DIn.fewer (h : DIn w A g r L M) (hB : ∀ k, B k → A k) : DIn w B g r L M :=
  h.keep (Keep.refl _ _) (fun k hk => .inl (hB k hk)) (fun k hk => h.guard k (hB k hk))
theorem DIn.same (h : DIn w A g r L M) (hb : Below w.heap.size w w') : DIn w' A g r L M := (h.below hb).fewer (fun _ h => .inl h)

/-- The row's slice, and what its cells hold. -/
theorem DIn.row (h : DIn w A g r L M) (hr : r = 0 ∨ r = 1) : ∃ a c, w.cell? ⟨g, r, none⟩ = some (.slice a L.length c) ∧ L.length ≤ c ∧ c ≤ maxLen ∧ ∀ i, i < L.length → ∃ b, a = some ⟨b, 0, none⟩ ∧ b < w.heap.size ∧ w.cell? ⟨b, i * 2, none⟩ = some (.string (nthD L i).1) ∧ w.cell? ⟨b, i * 2 + 1, none⟩ = some (.int .i64 (nthD L i).2) := by
  obtain ⟨a, c, l, a', c', l', h1, ⟨r1, r2, r3⟩, h3, h4, _⟩ := h.ex
  refine ⟨a, c, (two_cells hr h1).1, h3, r2, fun i hi => ?_⟩
  rcases r3 with ⟨_, r3⟩ | ⟨b, e, _, hg⟩
  · omega
  · have := row_cells hg (i := i) (by omega)
    rw [← h4, nthD_take hi]
    exact ⟨b, e, lt_of_heap hg, this⟩
end

end Go.Proofs.YtmlkpfkeeifgeaaDoor
