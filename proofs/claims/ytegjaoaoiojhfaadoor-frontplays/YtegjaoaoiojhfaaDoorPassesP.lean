/-
  What holds of a front's answers, as plain mathematics: what is passed on lies between Bound and the Commit or Rollback behind it. No conditions.
-/
import Derived.Test.YtegjaoaoiojhfaaDoorEarly
namespace Go.Proofs.YtegjaoaoiojhfaaDoor
open Go.ChangeShapes Go.WideShapes Go.ChangeAt Go.RowKit

/-- What the law asks of an answer: o, whether it was open; kx, the frame's kind; what is to be done; the state behind it. -/
structure Pq (o : Bool) (kx W X : Int) : Prop where
  four : W = 4 → o = true ∧ 3 ≤ kx ∧ kx ≤ 5 ∧ (kx == 3) = (X == 3)
  bad : W = 5 ∨ W = 6 ∨ W = 7 ∨ W = 8 → X = 6
  els : W ≠ 4 ∧ W ≠ 5 ∧ W ≠ 6 ∧ W ≠ 7 ∧ W ≠ 8 → o = (X == 3)
theorem pq_of (s k : Int) (h0 : 0 ≤ s) (h1 : s ≤ 6) : Pq (s == 3) k (onw s k) (onx s k) := by
  obtain ⟨t1, t2, t3, t4, t5, t6, t7, t8⟩ := tab_all s k h0 h1
  refine ⟨fun h => ?_, fun h => ?_, fun h => ?_⟩
  · obtain ⟨a, b, c, d⟩ := t5 h
    refine ⟨by simpa using a, b, c, ?_⟩
    rcases d with ⟨e1, e2⟩ | ⟨e1, e2⟩
    · rw [e2]
      subst e1
      rfl
    · rw [e2, beq_eq_false_iff_ne.2 e1]
      rfl
  · exact t7 (by omega)
  · by_cases hs : s = 3
    · have := t8 hs
      omega
    · have hx : onx s k ≠ 3 := fun e => hs (t6 e).1
      rw [beq_eq_false_iff_ne.2 hs, beq_eq_false_iff_ne.2 hx]
theorem pq_take {s : Ft} (hI : Inv s) (k : Int) : Pq (s.st == 3) k (tkw s k) (tkx s k) := by
  rcases tk_cases hI k with ⟨h1, h2, h3, h4, h5⟩ | ⟨h1, h2, h3⟩
  · rw [h3]
    refine ⟨fun h => ?_, fun _ => rfl, fun h => ?_⟩
    · omega
    · omega
  · rw [h2, h3]
    exact pq_of s.st k hI.lo hI.hi
theorem pq_next {s : Ft} (hI : Inv s) : Pq (s.st == 3) (nxF s).k (nxW s) (nxT s).st := by
  unfold nxW nxT
  split
  · exact pq_take (inv_nxs hI) (nxF s).k
  · exact ⟨fun h => absurd h (by decide), fun h => by omega, fun _ => rfl⟩
theorem pq_call {s : Ft} (m kx : Int) (o : Bool) (hm : m = 0 ∨ m = 1 ∨ m = 2 ∨ m = 3) (ho : o = if goB m s.st = true then (m == 0) else (s.st == 3)) : Pq o kx 0 (goT m s).st := by
  refine ⟨fun h => absurd h (by decide), fun h => by omega, fun _ => ?_⟩
  rw [ho]
  unfold goT
  split
  · show _ = (goX m s.st == 3)
    rcases hm with rfl | rfl | rfl | rfl
    · rfl
    · rfl
    · by_cases h : s.st = 4 <;> simp [goX, h]
    · rfl
  · rfl
theorem nxW_no {s : Ft} (h : nxB s = false) : nxW s = 0 := by unfold nxW; rw [h]; rfl

section
variable {w : World} {A : Nat → Prop} {g : Nat} {s : Ft}
/-- It lasts while a block of the law's own is written. -/
theorem FIn.poke (h : FIn w A g s) {q : Nat} (hq : A q) (h1 : q ≠ 1) (h2 : q ≠ 2) (u v : Value) : FIn ((w.setCell ⟨q, 0, none⟩ u).setCell ⟨q, 1, none⟩ v) A g s ∧ ∀ (B : Nat → Prop), ¬ B q → Keep B w ((w.setCell ⟨q, 0, none⟩ u).setCell ⟨q, 1, none⟩ v) := by
  have hk : ∀ (B : Nat → Prop), ¬ B q → Keep B w ((w.setCell ⟨q, 0, none⟩ u).setCell ⟨q, 1, none⟩ v) := fun B hB => ((Keep.refl _ w).setCell hB _).setCell hB _
  refine ⟨h.keep (hk _ (fun e => ?_)) (fun _ h => .inl h) (fun k hk2 => by simpa using h.guard k hk2) h.a1 h.a2, hk⟩
  rcases e with e | e | e
  · exact e hq
  · exact h1 e
  · exact h2 e
end

/-- A step in a block of the law's own, and its frame in another. -/
theorem two_boxes (w : World) (kd k : Int) (s : ByteArray) :
    Below w.heap.size w ((w.alloc (.cells #[.int .i64 kd, .int .i64 k, .string s] 33)).alloc (.cells #[.int .i64 k, .string s] 31)) ∧
    ((w.alloc (.cells #[.int .i64 kd, .int .i64 k, .string s] 33)).alloc (.cells #[.int .i64 k, .string s] 31)).heap[w.heap.size]? = some (.cells #[.int .i64 kd, .int .i64 k, .string s] 33 (0, 0)) ∧
    ((w.alloc (.cells #[.int .i64 kd, .int .i64 k, .string s] 33)).alloc (.cells #[.int .i64 k, .string s] 31)).heap[w.heap.size + 1]? = some (.cells #[.int .i64 k, .string s] 31 (0, 0)) := by
  refine ⟨((Below.refl _ w).alloc (Nat.le_refl _) _).alloc (by simp) _, ?_, ?_⟩
  · rw [Below.heap_alloc _ _ _ (by simp)]
    exact heap_alloc_new _ _
  · have := heap_alloc_new (w.alloc (.cells #[.int .i64 kd, .int .i64 k, .string s] 33)) (.cells #[.int .i64 k, .string s] 31)
    simpa using this
theorem blk3 {w : World} {g : Nat} {x y z : Value} {t : TypeId} (h : w.heap[g]? = some (.cells #[x, y, z] t (0, 0))) :
    w.cell? ⟨g, 0, none⟩ = some x ∧ w.cell? ⟨g, 1, none⟩ = some y ∧ w.cell? ⟨g, 2, none⟩ = some z ∧ g < w.heap.size :=
  ⟨by simp [World.cell?, h], by simp [World.cell?, h], by simp [World.cell?, h], (Array.getElem?_eq_some_iff.1 h).1⟩

end Go.Proofs.YtegjaoaoiojhfaaDoor
