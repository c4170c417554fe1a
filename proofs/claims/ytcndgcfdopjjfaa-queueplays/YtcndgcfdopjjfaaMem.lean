/-
  Words for what lies in memory: what is kept while a call writes its own blocks; a row of waiters with room behind it; a queue: its row and its channel of free places. Conditions: the row lies where it is said to lie.
-/
import Derived.Test.YtcndgcfdopjjfaaPure
import Derived.Laws.OwnMore
import Derived.Deep.AppendSrc
import Derived.Laws.Rows
namespace Go.Proofs.Ytcndgcfdopjjfaa
open Go.ChangeShapes Go.WideShapes Go.ChangeAt Go.RowKit

/-- The blocks of A are as they were; the streams are as they were; no block has gone. -/
structure Keep (A : Nat → Prop) (w w' : World) : Prop where
  os : w'.os = w.os
  tape : w'.tape = w.tape
  output : w'.output = w.output
  size : w.heap.size ≤ w'.heap.size
  block : ∀ k, k < w.heap.size → A k → w'.heap[k]? = w.heap[k]?

theorem Keep.refl (A : Nat → Prop) (w : World) : Keep A w w := ⟨rfl, rfl, rfl, Nat.le_refl _, fun _ _ _ => rfl⟩
theorem Keep.trans {A : Nat → Prop} {a b c : World} (h : Keep A a b) (k : Keep A b c) : Keep A a c :=
  ⟨k.os.trans h.os, k.tape.trans h.tape, k.output.trans h.output, Nat.le_trans h.size k.size, fun i hi hA => (k.block i (Nat.lt_of_lt_of_le hi h.size) hA).trans (h.block i hi hA)⟩
theorem Keep.mono {A B : Nat → Prop} {w w' : World} (h : Keep A w w') (hB : ∀ k, k < w.heap.size → B k → A k) : Keep B w w' := ⟨h.os, h.tape, h.output, h.size, fun k hk hb => h.block k hk (hB k hk hb)⟩
theorem Keep.drewN {A : Nat → Prop} {a w : World} (h : Keep A a w) (q : Nat) : Keep A a (w.drewN q) := ⟨h.os, h.tape, h.output, h.size, h.block⟩
theorem Keep.drew {A : Nat → Prop} {a w : World} (h : Keep A a w) : Keep A a w.drew := ⟨h.os, h.tape, h.output, h.size, h.block⟩
theorem Keep.setCell {A : Nat → Prop} {a w : World} (h : Keep A a w) {x : Addr} (hx : ¬ A x.block) (v : Value) : Keep A a (w.setCell x v) :=
  ⟨h.os, h.tape, h.output, by rw [World.size_setCell]; exact h.size, fun k hk hA => (heap_setCell_other w x k v (fun e => hx (e ▸ hA))).trans (h.block k hk hA)⟩
theorem Keep.alloc {A : Nat → Prop} {a w : World} (h : Keep A a w) (o : Obj) : Keep A a (w.alloc o) :=
  ⟨h.os, h.tape, h.output, by rw [World.size_alloc]; exact Nat.le_succ_of_le h.size, fun k hk hA => (Below.heap_alloc w o k (Nat.lt_of_lt_of_le hk h.size)).trans (h.block k hk hA)⟩
theorem setChan_other (w : World) (c c' cap : Nat) (buf : Array Value) (closed : Bool) (s r : Nat) (tm : Bool) (h : c ≠ c') : (w.setChan c cap buf closed s r tm).heap[c']? = w.heap[c']? := by
  simp [World.setChan, Array.getElem?_setIfInBounds_ne h]
theorem Keep.setChan {A : Nat → Prop} {a w : World} (h : Keep A a w) {c : Nat} (hx : ¬ A c) (cap : Nat) (buf : Array Value) (closed : Bool) (s r : Nat) (tm : Bool) : Keep A a (w.setChan c cap buf closed s r tm) :=
  ⟨h.os, h.tape, h.output, by rw [Conc.size_setChan]; exact h.size, fun k hk hA => (setChan_other w c k _ _ _ _ _ _ (fun e => hx (e ▸ hA))).trans (h.block k hk hA)⟩
theorem Keep.below {A : Nat → Prop} {w w' : World} {B : Nat} (h : Keep A w w') (hB : B ≤ w.heap.size) (hA : ∀ k, k < B → A k) : Below B w w' :=
  ⟨h.os, h.tape, h.output, h.size, fun k hk => h.block k (Nat.lt_of_lt_of_le hk hB) (hA k hk)⟩
theorem keep_below {A : Nat → Prop} {w w' : World} (h : Below w.heap.size w w') : Keep A w w' := ⟨h.os, h.tape, h.output, h.size, fun k hk _ => h.block k hk⟩
theorem keep_grown {A : Nat → Prop} {w w' : World} {row : Option Nat} (h : w.grownBy w' row) (hr : ∀ k, row = some k → ¬ A k) : Keep A w w' :=
  ⟨h.os, h.tape, h.output, h.size, fun k hk hA => h.block k hk (fun e => hr k e.symm hA)⟩
theorem Keep.cell {A : Nat → Prop} {w w' : World} (h : Keep A w w') {a : Addr} {v : Value} (hc : w.cell? a = some v) (hA : A a.block) : w'.cell? a = some v :=
  (World.cell?_of_block (h.block a.block (World.block_lt_of_cell? w a hc) hA)).trans hc

/-- The slice (a, cap) is a row of the waiters l, up to its capacity; its block is none of A. -/
def RIn (w : World) (A : Nat → Prop) (a : Option Addr) (cap : Nat) (l : List Wt) : Prop :=
  l.length = cap ∧ cap ≤ maxLen ∧ ((a = none ∧ cap = 0) ∨ ∃ b, a = some ⟨b, 0, none⟩ ∧ ¬ A b ∧ w.heap[b]? = some (.cells (flat l).toArray 66 (0, 0)))

theorem RIn.nil (w : World) (A : Nat → Prop) : RIn w A none 0 [] := ⟨rfl, Nat.zero_le _, .inl ⟨rfl, rfl⟩⟩
theorem RIn.move {w w' : World} {A B : Nat → Prop} {a : Option Addr} {cap : Nat} {l : List Wt} (h : RIn w A a cap l) (hb : ∀ b x, ¬ A b → w.heap[b]? = some (.cells x 66 (0, 0)) → w'.heap[b]? = w.heap[b]? ∧ ¬ B b) : RIn w' B a cap l := by
  obtain ⟨h1, h2, h3 | ⟨b, e, hA, hg⟩⟩ := h
  · exact ⟨h1, h2, .inl h3⟩
  · obtain ⟨e1, e2⟩ := hb b _ hA hg
    exact ⟨h1, h2, .inr ⟨b, e, e2, by rw [e1]; exact hg⟩⟩

theorem row_cells {w : World} {b : Nat} {l : List Wt} (hg : w.heap[b]? = some (.cells (flat l).toArray 66 (0, 0))) {i : Nat} (hi : i < l.length) :
    w.cell? ⟨b, i * 2, none⟩ = some (.int .i64 (nthW l i).1) ∧ w.cell? ⟨b, i * 2 + 1, none⟩ = some (.int .i64 (nthW l i).2) := by
  have := flat_get l i hi
  simp only [World.cell?, hg]
  simpa using this
theorem row_frozen {w : World} {b : Nat} {l : List Wt} (hg : w.heap[b]? = some (.cells (flat l).toArray 66 (0, 0))) (o : Nat) : w.frozen? ⟨b, o, none⟩ = false := by simp [World.frozen?, hg]

/-- The value of a token. -/
def tok : Value := .agg #[]

/-- A queue's blocks lie at g: its capacity, its free places, its row; none of its blocks is one of A. -/
structure QIn (w : World) (A : Nat → Prop) (g R m : Nat) (L : List Wt) : Prop where
  ex : ∃ a cap c s r l, w.heap[g]? = some (.cells #[.slice a L.length cap, .chan (some c)] 62 (0, 0)) ∧ w.heap[c]? = some (.chan R (Array.replicate m tok) false s r false) ∧ ¬ A c ∧
    RIn w (fun k => A k ∨ k = g ∨ k = c) a cap l ∧ L.length ≤ cap ∧ l.take L.length = L
  gout : ¬ A g
  guard : ∀ k, A k → k < w.heap.size

/-- A queue lies at block g: its room, and those that wait; none of its blocks is one of A. -/
structure QAt (w : World) (A : Nat → Prop) (g R : Nat) (L : List Wt) : Prop where
  q : QIn w A g R (R - L.length) L
  le : L.length ≤ R
  max : R ≤ 16

theorem blk2 {w : World} {g : Nat} {x y : Value} {t : TypeId} (h : w.heap[g]? = some (.cells #[x, y] t (0, 0))) :
    w.cell? ⟨g, 0, none⟩ = some x ∧ w.cell? ⟨g, 1, none⟩ = some y ∧ g < w.heap.size :=
  ⟨by simp [World.cell?, h], by simp [World.cell?, h], (Array.getElem?_eq_some_iff.1 h).1⟩
theorem fz2 {w : World} {g : Nat} {x y : Value} {t : TypeId} (h : w.heap[g]? = some (.cells #[x, y] t (0, 0))) (o : Nat) : w.frozen? ⟨g, o, none⟩ = false := by simp [World.frozen?, h]
theorem heap_set2 {w : World} {g : Nat} {x y u : Value} {t : TypeId} (h : w.heap[g]? = some (.cells #[x, y] t (0, 0))) :
    (w.setCell ⟨g, 0, none⟩ u).heap[g]? = some (.cells #[u, y] t (0, 0)) ∧ (w.setCell ⟨g, 1, none⟩ u).heap[g]? = some (.cells #[x, u] t (0, 0)) :=
  ⟨by rw [heap_setCell_same w g 0 _ t _ h]; simp, by rw [heap_setCell_same w g 1 _ t _ h]; simp⟩

theorem QIn.lt {w : World} {A : Nat → Prop} {g R m : Nat} {L : List Wt} (h : QIn w A g R m L) : g < w.heap.size := by
  obtain ⟨a, cap, c, s, r, l, hb, _⟩ := h.ex
  exact (blk2 hb).2.2
theorem QIn.drewN {w : World} {A : Nat → Prop} {g R m : Nat} {L : List Wt} (h : QIn w A g R m L) (q : Nat) : QIn (w.drewN q) A g R m L := ⟨h.ex, h.gout, h.guard⟩

/-- It lasts while what it is not is made or written, and what is new is none of its blocks. -/
theorem QIn.keep {w w' : World} {A B : Nat → Prop} {g R m : Nat} {L : List Wt} (h : QIn w A g R m L) (hk : Keep (fun k => ¬ A k) w w') (hB : ∀ k, B k → A k ∨ w.heap.size ≤ k) (hs : ∀ k, B k → k < w'.heap.size) : QIn w' B g R m L := by
  have hl := h.lt
  obtain ⟨a, cap, c, s, r, l, hb, hc, hcA, hr, h1, h2⟩ := h.ex
  have hcl : c < w.heap.size := (Array.getElem?_eq_some_iff.1 hc).1
  refine ⟨⟨a, cap, c, s, r, l, by rw [hk.block g hl h.gout]; exact hb, by rw [hk.block c hcl hcA]; exact hc, fun hc' => ?_, ?_, h1, h2⟩, fun hg => ?_, hs⟩
  · rcases hB _ hc' with h3 | h3
    · exact hcA h3
    · omega
  · refine hr.move (fun b x hA hg => ⟨hk.block _ (Array.getElem?_eq_some_iff.1 hg).1 (fun h2 => hA (.inl h2)), fun hn => ?_⟩)
    have hlt := (Array.getElem?_eq_some_iff.1 hg).1
    rcases hn with hn | hn
    · rcases hB _ hn with h1 | h1
      · exact hA (.inl h1)
      · omega
    · exact hA (.inr hn)
  · rcases hB g hg with h1 | h1
    · exact h.gout h1
    · omega

theorem QAt.lt {w : World} {A : Nat → Prop} {g R : Nat} {L : List Wt} (h : QAt w A g R L) : g < w.heap.size := h.q.lt
theorem QAt.drewN {w : World} {A : Nat → Prop} {g R : Nat} {L : List Wt} (h : QAt w A g R L) (q : Nat) : QAt (w.drewN q) A g R L := ⟨h.q.drewN q, h.le, h.max⟩
theorem QAt.keep {w w' : World} {A B : Nat → Prop} {g R : Nat} {L : List Wt} (h : QAt w A g R L) (hk : Keep (fun k => ¬ A k) w w') (hB : ∀ k, B k → A k ∨ w.heap.size ≤ k) (hs : ∀ k, B k → k < w'.heap.size) : QAt w' B g R L := ⟨h.q.keep hk hB hs, h.le, h.max⟩

theorem rep_extract (m : Nat) (v : Value) : (Array.replicate (m + 1) v).extract 1 (Array.replicate (m + 1) v).size = Array.replicate m v := by
  apply Array.ext
  · simp
  · intro i h1 h2
    simp
theorem rep_push (m : Nat) (v : Value) : (Array.replicate m v).push v = Array.replicate (m + 1) v := Array.replicate_succ.symm

/-- With so many free places. -/
theorem QIn.chan {w : World} {A : Nat → Prop} {g R m : Nat} {L : List Wt} {a : Option Addr} {cap c s r : Nat} {l : List Wt} (h : QIn w A g R m L) (hb : w.heap[g]? = some (.cells #[.slice a L.length cap, .chan (some c)] 62 (0, 0))) (hc : w.heap[c]? = some (.chan R (Array.replicate m tok) false s r false)) (hcA : ¬ A c)
    (hr : RIn w (fun k => A k ∨ k = g ∨ k = c) a cap l) (h1 : L.length ≤ cap) (h2 : l.take L.length = L) (m' s' r' : Nat) : QIn (w.setChan c R (Array.replicate m' tok) false s' r' false) A g R m' L := by
  have hcl : c < w.heap.size := (Array.getElem?_eq_some_iff.1 hc).1
  have hne : c ≠ g := fun e => by rw [e, hb] at hc; simp at hc
  refine ⟨⟨a, cap, c, s', r', l, ?_, Conc.heap_setChan _ _ _ _ _ _ _ _ hcl, hcA, ?_, h1, h2⟩, h.gout, fun k hk => by rw [Conc.size_setChan]; exact h.guard k hk⟩
  · rw [setChan_other _ _ _ _ _ _ _ _ _ hne]; exact hb
  · exact hr.move (fun b x hA _ => ⟨setChan_other _ _ _ _ _ _ _ _ _ (fun e => hA (.inr (.inr e.symm))), hA⟩)

end Go.Proofs.Ytcndgcfdopjjfaa
