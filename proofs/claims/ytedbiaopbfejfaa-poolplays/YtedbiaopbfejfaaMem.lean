/-
  Words for what lies in memory: what is kept while a call writes its own blocks; blocks of two cells; channels of tokens. No conditions.
-/
import Derived.Test.YtedbiaopbfejfaaComm
import Derived.WalkLawsBesides
import Derived.WalkSpells
import Derived.Deep.QuietTactic
import Derived.BigQuiet
import Derived.Laws.OwnMore
import Derived.Laws.Rows
namespace Go.Proofs.Ytedbiaopbfejfaa
open Go.ChangeShapes Go.WideShapes Go.ChangeAt Go.RowKit

theorem Hid.mk' {p : Prop} (h : p) : Hid p := h
theorem ret_int {k : IntKind} {a b : Int} (h : a = b) : Ending.returned (.int k a) = .returned (.int k b) := by rw [h]
theorem ret_bool {a b : Bool} (h : a = b) : Ending.returned (.bool a) = .returned (.bool b) := by rw [h]

/-- The blocks of A are as they were; the streams are as they were; no block has gone. -/
structure Keep (A : Nat → Prop) (w w' : World) : Prop where
  os : w'.os = w.os
  tape : w'.tape = w.tape
  output : w'.output = w.output
  size : w.heap.size ≤ w'.heap.size
  block : ∀ k, k < w.heap.size → A k → w'.heap[k]? = w.heap[k]?

theorem Keep.refl (A : Nat → Prop) (w : World) : Keep A w w := ⟨rfl, rfl, rfl, Nat.le_refl _, fun _ _ _ => rfl⟩
theorem Keep.trans {A : Nat → Prop} {a b c : World} (h : Keep A a b) (k : Keep A b c) : Keep A a c :=
  ⟨k.os.trans h.os, k.tape.trans h.tape, k.output.trans h.output, Nat.le_trans h.size k.size, fun i hi hA => (k.block i (Nat.lt_of_lt_of_le hi h.size) hA).trans (h.block i hi hA)⟩
theorem Keep.mono {A B : Nat → Prop} {w w' : World} (h : Keep A w w') (hB : ∀ k, k < w.heap.size → B k → A k) : Keep B w w' := ⟨h.os, h.tape, h.output, h.size, fun k hk hb => h.block k hk (hB k hk hb)⟩
theorem Keep.drewN {A : Nat → Prop} {a w : World} (h : Keep A a w) (q : Nat) : Keep A a (w.drewN q) := ⟨h.os, h.tape, h.output, h.size, h.block⟩
theorem Keep.drew {A : Nat → Prop} {a w : World} (h : Keep A a w) : Keep A a w.drew := ⟨h.os, h.tape, h.output, h.size, h.block⟩
theorem Keep.setCell {A : Nat → Prop} {a w : World} (h : Keep A a w) {x : Addr} (hx : ¬ A x.block) (v : Value) : Keep A a (w.setCell x v) :=
  ⟨h.os, h.tape, h.output, by rw [World.size_setCell]; exact h.size, fun k hk hA => (heap_setCell_other w x k v (fun e => hx (e ▸ hA))).trans (h.block k hk hA)⟩
theorem Keep.alloc {A : Nat → Prop} {a w : World} (h : Keep A a w) (o : Obj) : Keep A a (w.alloc o) :=
  ⟨h.os, h.tape, h.output, by rw [World.size_alloc]; exact Nat.le_succ_of_le h.size, fun k hk hA => (Below.heap_alloc w o k (Nat.lt_of_lt_of_le hk h.size)).trans (h.block k hk hA)⟩
theorem setChan_other (w : World) (c c' cap : Nat) (buf : Array Value) (closed : Bool) (s r : Nat) (tm : Bool) (h : c ≠ c') : (w.setChan c cap buf closed s r tm).heap[c']? = w.heap[c']? := by
  simp [World.setChan, Array.getElem?_setIfInBounds_ne h]
theorem Keep.setChan {A : Nat → Prop} {a w : World} (h : Keep A a w) {c : Nat} (hx : ¬ A c) (cap : Nat) (buf : Array Value) (closed : Bool) (s r : Nat) (tm : Bool) : Keep A a (w.setChan c cap buf closed s r tm) :=
  ⟨h.os, h.tape, h.output, by rw [Conc.size_setChan]; exact h.size, fun k hk hA => (setChan_other w c k _ _ _ _ _ _ (fun e => hx (e ▸ hA))).trans (h.block k hk hA)⟩
theorem Keep.below {A : Nat → Prop} {w w' : World} {B : Nat} (h : Keep A w w') (hB : B ≤ w.heap.size) (hA : ∀ k, k < B → A k) : Below B w w' :=
  ⟨h.os, h.tape, h.output, h.size, fun k hk => h.block k (Nat.lt_of_lt_of_le hk hB) (hA k hk)⟩
theorem keep_below {A : Nat → Prop} {w w' : World} (h : Below w.heap.size w w') : Keep A w w' := ⟨h.os, h.tape, h.output, h.size, fun k hk _ => h.block k hk⟩
theorem keep_grown {A : Nat → Prop} {w w' : World} {row : Option Nat} (h : w.grownBy w' row) (hr : ∀ k, row = some k → ¬ A k) : Keep A w w' :=
  ⟨h.os, h.tape, h.output, h.size, fun k hk hA => h.block k hk (fun e => hr k e.symm hA)⟩
theorem Keep.cell {A : Nat → Prop} {w w' : World} (h : Keep A w w') {a : Addr} {v : Value} (hc : w.cell? a = some v) (hA : A a.block) : w'.cell? a = some v :=
  (World.cell?_of_block (h.block a.block (World.block_lt_of_cell? w a hc) hA)).trans hc

/-- The value of a token. -/
def tok : Value := .agg #[]

theorem blk2 {w : World} {g : Nat} {x y : Value} {t : TypeId} (h : w.heap[g]? = some (.cells #[x, y] t (0, 0))) :
    w.cell? ⟨g, 0, none⟩ = some x ∧ w.cell? ⟨g, 1, none⟩ = some y ∧ g < w.heap.size :=
  ⟨by simp [World.cell?, h], by simp [World.cell?, h], (Array.getElem?_eq_some_iff.1 h).1⟩
theorem fz2 {w : World} {g : Nat} {x y : Value} {t : TypeId} (h : w.heap[g]? = some (.cells #[x, y] t (0, 0))) (o : Nat) : w.frozen? ⟨g, o, none⟩ = false := by simp [World.frozen?, h]
theorem heap_set2 {w : World} {g : Nat} {x y u : Value} {t : TypeId} (h : w.heap[g]? = some (.cells #[x, y] t (0, 0))) :
    (w.setCell ⟨g, 0, none⟩ u).heap[g]? = some (.cells #[u, y] t (0, 0)) ∧ (w.setCell ⟨g, 1, none⟩ u).heap[g]? = some (.cells #[x, u] t (0, 0)) :=
  ⟨by rw [heap_setCell_same w g 0 _ t _ h]; simp, by rw [heap_setCell_same w g 1 _ t _ h]; simp⟩

theorem rep_extract (m : Nat) (v : Value) : (Array.replicate (m + 1) v).extract 1 (Array.replicate (m + 1) v).size = Array.replicate m v := by
  apply Array.ext
  · simp
  · intro i h1 h2
    simp
theorem rep_push (m : Nat) (v : Value) : (Array.replicate m v).push v = Array.replicate (m + 1) v := Array.replicate_succ.symm

theorem lt_of_heap {w : World} {k : Nat} {o : Obj} (h : w.heap[k]? = some o) : k < w.heap.size := (Array.getElem?_eq_some_iff.1 h).1
theorem below_trans {w w1 w2 : World} (h1 : Below w.heap.size w w1) (h2 : Below w1.heap.size w1 w2) : Below w.heap.size w w2 :=
  h1.trans ⟨h2.os, h2.tape, h2.output, h2.size, fun k hk => h2.block k (Nat.lt_of_lt_of_le hk h1.size)⟩
theorem below_drewN (w : World) (q : Nat) : Below w.heap.size w (w.drewN q) := ⟨rfl, rfl, rfl, Nat.le_refl _, fun _ _ => rfl⟩
theorem below_grown {w w1 w2 : World} {B t s n : Nat} {v : Value} {cs : List Value} (hown : w1.ownsRow B t s v n cs) (hg : w1.grownBy w2 v.ownBlock) (hb : Below B w w1) (hB : B ≤ w.heap.size) : Below B w w2 := by
  refine hb.trans ⟨hg.os, hg.tape, hg.output, hg.size, fun k hk => hg.block k (Nat.lt_of_lt_of_le hk (Nat.le_trans hB hb.size)) (fun e => ?_)⟩
  have := (hown.lt k e.symm).1
  omega
theorem owns_keep {w w' : World} {A : Nat → Prop} {base t s n : Nat} {v : Value} {cs : List Value} (h : w.ownsRow base t s v n cs) (hk : Keep A w w') (hA : ∀ k, v.ownBlock = some k → A k) : w'.ownsRow base t s v n cs := by
  refine ⟨h.1, ?_⟩
  rcases h.2 with h1 | ⟨g, cap, cur, rfl, hb, hg, r⟩
  · exact .inl h1
  · exact .inr ⟨g, cap, cur, rfl, hb, (hk.block g (lt_of_heap hg) (hA g rfl)).trans hg, r⟩

end Go.Proofs.Ytedbiaopbfejfaa
