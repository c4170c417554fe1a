/-
  The document's front: its state, a slice that reads as its held frames; frames appended to a row of a call's own; the blocks that each of its calls lays first. No conditions.
-/
import Derived.Test.YtegjaoaoiojhfaaDoorOnW
import Derived.Test.YtegjaoaoiojhfaaDoorNext
import Derived.Laws.OwnMore
import Derived.Laws.AppendOwnNone
import Derived.Deep.AppendLies
import Derived.Deep.CutBlock
namespace Go.Proofs.YtegjaoaoiojhfaaDoor
open Go.ChangeShapes Go.WideShapes Go.ChangeAt Go.RowKit

/-- The slice (a, len, cap) reads as the frames. -/
structure FrsAt (w : World) (a : Option Addr) (len cap : Nat) (l : List Fr) : Prop where
  hlen : l.length = len
  hle : len ≤ cap
  hcap : cap ≤ maxLen
  at_ : ∀ j, j < len → ∃ b off, a = some ⟨b, off, none⟩ ∧ b < w.heap.size ∧ w.cell? ⟨b, off + j * 2, none⟩ = some (.int .i64 (nthD l j).k) ∧ w.cell? ⟨b, off + j * 2 + 1, none⟩ = some (.string (nthD l j).s)
  non : a = none → len = 0 ∧ cap = 0
section
variable {w w' : World} {a : Option Addr} {len cap : Nat} {l : List Fr}
theorem FrsAt.below (h : FrsAt w a len cap l) (hb : Below w.heap.size w w') : FrsAt w' a len cap l := by
  refine ⟨h.hlen, h.hle, h.hcap, fun j hj => ?_, h.non⟩
  obtain ⟨b, off, e, hlt, h0, h1⟩ := h.at_ j hj
  exact ⟨b, off, e, Nat.lt_of_lt_of_le hlt hb.size, (hb.cell (p := ⟨b, off + j * 2, none⟩) hlt).trans h0, (hb.cell (p := ⟨b, off + j * 2 + 1, none⟩) hlt).trans h1⟩
theorem FrsAt.keepN (h : FrsAt w a len cap l) {A : Nat → Prop} (hk : Keep A w w') (hA : ∀ x, 0 < len → a = some x → A x.block) : FrsAt w' a len cap l := by
  refine ⟨h.hlen, h.hle, h.hcap, fun j hj => ?_, h.non⟩
  obtain ⟨b, off, e, hlt, h0, h1⟩ := h.at_ j hj
  exact ⟨b, off, e, Nat.lt_of_lt_of_le hlt hk.size, hk.cell (a := ⟨b, off + j * 2, none⟩) h0 (hA ⟨b, off, none⟩ (Nat.lt_of_le_of_lt (Nat.zero_le _) hj) e), hk.cell (a := ⟨b, off + j * 2 + 1, none⟩) h1 (hA ⟨b, off, none⟩ (Nat.lt_of_le_of_lt (Nat.zero_le _) hj) e)⟩
theorem FrsAt.nil (w : World) : FrsAt w none 0 0 [] := ⟨rfl, Nat.le_refl _, Nat.zero_le _, fun _ hj => absurd hj (Nat.not_lt_zero _), fun _ => ⟨rfl, rfl⟩⟩
/-- Behind the first one: as the model writes it. -/
theorem FrsAt.tail (h : FrsAt w a len cap l) (hn : 1 ≤ len) : FrsAt w (if cap = 1 then a else a.map (·.add 2)) (len - 1) (cap - 1) (l.drop 1) := by
  refine ⟨by rw [List.length_drop, h.hlen], by have := h.hle; omega, by have := h.hcap; omega, fun j hj => ?_, fun e => ?_⟩
  · obtain ⟨b, off, e, hlt, hc, hd⟩ := h.at_ (1 + j) (by omega)
    have hne : cap ≠ 1 := by have := h.hle; omega
    have e0 : ((⟨b, off, none⟩ : Addr).add 2) = ⟨b, off + 2, none⟩ := by unfold Addr.add; split <;> simp_all
    have e2 : nthD (l.drop 1) j = nthD l (1 + j) := by simp only [nthD, List.getD]; rw [List.getElem?_drop]
    refine ⟨b, off + 2, ?_, hlt, ?_, ?_⟩
    · rw [if_neg hne, e]
      simp only [Option.map_some, e0]
    · have e1 : off + 2 + j * 2 = off + (1 + j) * 2 := by omega
      rw [e1, hc, e2]
    · have e1 : off + 2 + j * 2 + 1 = off + (1 + j) * 2 + 1 := by omega
      rw [e1, hd, e2]
  · exfalso
    obtain ⟨b, off, ea, _⟩ := h.at_ 0 (by omega)
    rw [ea] at e
    split at e <;> simp at e
theorem FrsAt.news {x : Addr} (h : FrsAt w (some x) len cap l) : ∀ j u, (flat l)[j]? = some u → w.cell? (x.add j) = some u := by
  intro j u hu
  have hj : j < l.length * 2 := by
    have := (List.getElem?_eq_some_iff.1 hu).1
    rwa [flat_length] at this
  obtain ⟨b, off, e, _, hc, hd⟩ := h.at_ (j / 2) (by have := h.hlen; omega)
  cases e
  have e0 : ((⟨b, off, none⟩ : Addr).add j) = ⟨b, off + j, none⟩ := by unfold Addr.add; split <;> simp_all
  rw [e0]
  have hq := flat_get l (j / 2) (by omega)
  rcases Nat.mod_two_eq_zero_or_one j with hm | hm
  · have e2 : j / 2 * 2 = j := by omega
    have e3 : off + j / 2 * 2 = off + j := by omega
    rw [e2, hu] at hq
    rw [e3] at hc
    rw [hc, hq.1]
  · have e2 : j / 2 * 2 + 1 = j := by omega
    have e3 : off + j / 2 * 2 + 1 = off + j := by omega
    rw [e2, hu] at hq
    rw [e3] at hd
    rw [hd, hq.2]
end

/-- The block of the slice at a' is that of the slice at a, or new. -/
def Orig (w w' : World) (a a' : Option Addr) : Prop := ∀ x, a' = some x → (∃ y, a = some y ∧ y.block = x.block) ∨ w.heap.size ≤ x.block ∧ x.block < w'.heap.size
theorem Orig.same (w w' : World) (a : Option Addr) : Orig w w' a a := fun x h => .inl ⟨x, h, rfl⟩
theorem Orig.none (w w' : World) (a : Option Addr) : Orig w w' a none := fun x h => by cases h

theorem owns_frs {w : World} {base n : Nat} {v : Value} {l : List Fr} (h : w.ownsRow base 31 2 v n (flat l)) : ∃ a cap, v = .slice a n cap ∧ FrsAt w a n cap l ∧ (∀ x, a = some x → base ≤ x.block ∧ x.block < w.heap.size) := by
  have h0 := h
  obtain ⟨hl, hcase⟩ := h
  rw [flat_length] at hl
  have hl' : l.length = n := by omega
  rcases hcase with ⟨rfl, rfl⟩ | ⟨g, cap, cur, rfl, hbg, hg, hn, hcap, _, _⟩
  · exact ⟨_, _, rfl, ⟨hl', Nat.le_refl _, Nat.zero_le _, fun j hj => absurd hj (Nat.not_lt_zero _), fun _ => ⟨rfl, rfl⟩⟩, fun x e => by cases e⟩
  · refine ⟨_, _, rfl, ⟨hl', hn, hcap, fun j hj => ⟨g, 0, rfl, (Array.getElem?_eq_some_iff.1 hg).1, ?_, ?_⟩, fun e => by cases e⟩, fun x e => by cases e; exact ⟨hbg, (Array.getElem?_eq_some_iff.1 hg).1⟩⟩
    · have := h0.cells (g := g) rfl (j * 2) _ (flat_get l j (by omega)).1
      have e0 : ((⟨g, 0, none⟩ : Addr).add (j * 2)) = ⟨g, 0 + j * 2, none⟩ := by unfold Addr.add; split <;> simp_all
      rw [e0] at this
      exact this
    · have := h0.cells (g := g) rfl (j * 2 + 1) _ (flat_get l j (by omega)).2
      have e0 : ((⟨g, 0, none⟩ : Addr).add (j * 2 + 1)) = ⟨g, 0 + j * 2 + 1, none⟩ := by unfold Addr.add; split <;> simp_all
      rw [e0] at this
      exact this

/-- Frames are appended to a row of a call's own. -/
theorem wpList_frs (w : World) {ops : Array Oper} {rest : List Oper} {o : Oper} {a : Act} {Q : Exit → Act → World → Prop} (hgd : o.guard = none) (s x : Operand)
    (ho : o.op = .call { callee := .builtin .append, args := #[s, x], argTypes := #[26, 26] }) (base : Nat) (v : Value) (n : Nat) (xs ys zs : List Fr) (hs : a.eval s = v) (hown : w.ownsRow base 31 2 v n (flat xs)) (ao : Option Addr) (m c : Nat)
    (hx : a.eval x = .slice ao m c) (hB : FrsAt w ao m c ys) (hnm : n + m ≤ 1000) (hbase : base ≤ w.heap.size) (hz : xs ++ ys = zs) (N : Nat) (hN : N = n + m)
    (h : ∀ v' w', w'.ownsRow base 31 2 v' N (flat zs) → w.grownBy w' v.ownBlock → wpList Tryd.prog ops Q rest (a.put o.dst v') w') : wpList Tryd.prog ops Q (o :: rest) a w := by
  obtain ⟨i, hi, hz0, hz1, hz2⟩ := info_parts info31
  subst hz hN
  cases ao with
  | none =>
    obtain ⟨rfl, rfl⟩ := hB.non rfl
    obtain rfl : ys = [] := List.eq_nil_of_length_eq_zero hB.hlen
    exact wpList_append_own_none hgd s x 26 ho base 31 i 2 Tryd.underlying26 hi v n _ hs hown hx (h v w (by simpa using hown) (World.grownBy.refl _ _))
  | some ad =>
    refine wpList_append_own w hgd s x 26 ho base 31 i (.agg #[.int .i64 0, .string ⟨#[]⟩]) 2 24 Tryd.underlying26 hi hz0 hz1 hz2 rfl (by decide) v n _ hs hown ad m c (flat ys) hx (by rw [flat_length, hB.hlen]) hB.news (flat_one _) (by unfold maxLen; omega) (by omega) hbase ?_
    intro v' w' h1 h2 _
    exact h v' w' (by rw [flat_append]; exact h1) h2
/-- One frame, laid by the call. -/
theorem one_fr (w : World) (k : Int) (d : ByteArray) : FrsAt (w.alloc (.cells #[.int .i64 k, .string d] 31)) (some ⟨w.heap.size, 0, none⟩) 1 1 [⟨k, d⟩] := by
  obtain ⟨-, -, h2⟩ := blk2 (heap_alloc_new w (.cells #[.int .i64 k, .string d] 31))
  refine ⟨rfl, Nat.le_refl _, by unfold maxLen; omega, fun j hj => ⟨_, _, rfl, h2, ?_, ?_⟩, fun e => by cases e⟩
  · match j, hj with
    | 0, _ => simp [nthD]
  · match j, hj with
    | 0, _ => simp [nthD]

/-- The three blocks that the document's Take lays first: its front, its frame, its result. -/
theorem three_boxes (w : World) (x y : Value) (k : Int) (d : ByteArray) :
    Below w.heap.size w (((w.alloc (.cells #[x, y] 28)).alloc (.cells #[.int .i64 k, .string d] 31)).alloc (.cells #[.int .i64 0, .slice none 0 0] 28)) ∧
    (((w.alloc (.cells #[x, y] 28)).alloc (.cells #[.int .i64 k, .string d] 31)).alloc (.cells #[.int .i64 0, .slice none 0 0] 28)).heap[w.heap.size]? = some (.cells #[x, y] 28 (0, 0)) ∧
    (((w.alloc (.cells #[x, y] 28)).alloc (.cells #[.int .i64 k, .string d] 31)).alloc (.cells #[.int .i64 0, .slice none 0 0] 28)).heap[w.heap.size + 1]? = some (.cells #[.int .i64 k, .string d] 31 (0, 0)) ∧
    (((w.alloc (.cells #[x, y] 28)).alloc (.cells #[.int .i64 k, .string d] 31)).alloc (.cells #[.int .i64 0, .slice none 0 0] 28)).heap[w.heap.size + 1 + 1]? = some (.cells #[.int .i64 0, .slice none 0 0] 28 (0, 0)) := by
  refine ⟨(((Below.refl _ w).alloc (Nat.le_refl _) _).alloc (by simp) _).alloc (by simp; omega) _, ?_, ?_, ?_⟩
  · rw [Below.heap_alloc _ _ _ (by simp; omega), Below.heap_alloc _ _ _ (by simp)]
    exact heap_alloc_new _ _
  · rw [Below.heap_alloc _ _ _ (by simp)]
    have := heap_alloc_new (w.alloc (.cells #[x, y] 28)) (.cells #[.int .i64 k, .string d] 31)
    rwa [World.size_alloc] at this
  · have := heap_alloc_new ((w.alloc (.cells #[x, y] 28)).alloc (.cells #[.int .i64 k, .string d] 31)) (.cells #[.int .i64 0, .slice none 0 0] 28)
    rwa [World.size_alloc, World.size_alloc] at this

end Go.Proofs.YtegjaoaoiojhfaaDoor
