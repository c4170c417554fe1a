/-
  What stands ahead of QueueRoom's switch, and behind it: how each of its ways leads from the one to the other. Conditions: the queue and the rows lie where they are said to lie.
-/
import Derived.Test.YtcndgcfdopjjfaaSmall
namespace Go.Proofs.Ytcndgcfdopjjfaa
open Go.ChangeShapes Go.WideShapes Go.ChangeAt Go.RowKit

theorem QAt.below {w w' : World} {A : Nat → Prop} {g R : Nat} {L : List Wt} (h : QAt w A g R L) (hb : Below w.heap.size w w') : QAt w' (fun k => A k ∨ (w.heap.size ≤ k ∧ k < w'.heap.size)) g R L :=
  h.keep (keep_below hb) (fun _ hk => hk.imp id (fun h => h.1)) (fun k hk => by
    rcases hk with h5 | h5
    · exact Nat.lt_of_lt_of_le (h.q.guard k h5) hb.size
    · exact h5.2)
theorem QAt.fewer {w : World} {A B : Nat → Prop} {g R : Nat} {L : List Wt} (h : QAt w A g R L) (hB : ∀ k, B k → A k) : QAt w B g R L :=
  h.keep (Keep.refl _ w) (fun k hk => .inl (hB k hk)) (fun k hk => h.q.guard k (hB k hk))

/-- A step in a block of its own. -/
def StAt (w : World) (b : Nat) (st : Stp) : Prop := w.heap[b]? = some (.cells #[.int .i64 st.kd, .int .i64 st.id, .int .i64 st.now, .int .i64 st.wt] 32 (0, 0))
theorem StAt.lt {w : World} {b : Nat} {st : Stp} (h : StAt w b st) : b < w.heap.size := lt_of_heap h
theorem StAt.cells {w : World} {b : Nat} {st : Stp} (h : StAt w b st) : w.cell? ⟨b, 0, none⟩ = some (.int .i64 st.kd) ∧ w.cell? ⟨b, 1, none⟩ = some (.int .i64 st.id) ∧ w.cell? ⟨b, 2, none⟩ = some (.int .i64 st.now) ∧ w.cell? ⟨b, 3, none⟩ = some (.int .i64 st.wt) := by
  unfold StAt at h
  exact ⟨by simp [World.cell?, h], by simp [World.cell?, h], by simp [World.cell?, h], by simp [World.cell?, h]⟩
theorem StAt.below {w w' : World} {b : Nat} {st : Stp} (h : StAt w b st) (hb : Below w.heap.size w w') : StAt w' b st := (hb.block b h.lt).trans h
theorem StAt.keep {w w' : World} {A : Nat → Prop} {b : Nat} {st : Stp} (h : StAt w b st) (hk : Keep A w w') (hA : A b) : StAt w' b st := (hk.block b h.lt hA).trans h

/-- What stands ahead of the switch: the step at z, the ids at z + 1, the queue. -/
structure RQ (w1 w4 : World) (g R z : Nat) (L : List Wt) (st : Stp) : Prop where
  st : StAt w4 z st
  ids : IntsAt w4 (some ⟨z + 1, 0, none⟩) L.length L.length (L.map Prod.fst)
  q : QAt w4 (fun k => k < w1.heap.size ∨ k = z ∨ k = z + 1) g R L
  keep : Keep (fun k => k < w1.heap.size) w1 w4
  dst : Dst (L.map Prod.fst)
  low : w1.heap.size ≤ z
  lt : z + 1 < w4.heap.size

/-- What stands behind the switch: the queue, and what it should have. -/
structure RE (w1 wx : World) (g R : Nat) (a : Option Addr) (n c : Nat) (L : List Wt) : Prop where
  ids : IntsAt wx a n c (L.map Prod.fst)
  q : QAt wx (fun k => k < w1.heap.size) g R L
  keep : Keep (fun k => k < w1.heap.size) w1 wx
  dst : Dst (L.map Prod.fst)

theorem QAt.own {w w2 : World} {A B : Nat → Prop} {g R : Nat} {L : List Wt} {row : Option Nat} (h : QAt w A g R L) (hg : w.grownBy w2 row) (hrow : ∀ k, row = some k → A k) (hB : ∀ k, B k → A k ∨ w.heap.size ≤ k) (hs : ∀ k, B k → k < w2.heap.size) : QAt w2 B g R L :=
  h.keep (keep_grown hg (fun k hk hA => hA (hrow k hk))) hB hs

section
variable {w1 w4 w5 w6 w7 : World} {g R z : Nat} {L : List Wt} {st : Stp} {v v' : Value}

/-- The ids, appended to nothing. -/
theorem RQ.copied (h : RQ w1 w4 g R z L st) (ho : w5.ownsRow w4.heap.size 3 1 v L.length (ic (L.map Prod.fst))) (hg : w4.grownBy w5 none) :
    QAt w5 (fun k => (k < w1.heap.size ∨ k = z ∨ k = z + 1) ∨ v.ownBlock = some k) g R L ∧ StAt w5 z st ∧ Keep (fun k => k < w1.heap.size) w1 w5 := by
  have hz := hg.size
  refine ⟨h.q.own hg (fun k hk => by cases hk) (fun k hk => ?_) (fun k hk => ?_), h.st.keep (keep_grown (A := fun _ => True) hg (fun k hk => by cases hk)) trivial, h.keep.trans (keep_grown hg (fun k hk => by cases hk))⟩
  · rcases hk with hk | hk
    · exact .inl hk
    · exact .inr (ho.lt k hk).1
  · rcases hk with hk | hk
    · exact Nat.lt_of_lt_of_le (h.q.q.guard k hk) hz
    · exact (ho.lt k hk).2

/-- Nobody came. -/
theorem RQ.nobody (h : RQ w1 w4 g R z L st) (ho : w5.ownsRow w4.heap.size 3 1 v L.length (ic (L.map Prod.fst))) (hg : w4.grownBy w5 none) : ∃ a c, v = .slice a L.length c ∧ RE w1 w5 g R a L.length c L := by
  obtain ⟨q1, _, q3⟩ := h.copied ho hg
  obtain ⟨a, c, e, hi, _⟩ := owns_ints ho
  exact ⟨a, c, e, hi, q1.fewer (fun k hk => .inl (.inl hk)), q3, h.dst⟩

/-- One came. -/
theorem RQ.more (h : RQ w1 w4 g R z L st) {t : Int} (ho : w5.ownsRow w4.heap.size 3 1 v L.length (ic (L.map Prod.fst))) (hg : w4.grownBy w5 none) (hx : st.id ∉ L.map Prod.fst) (hq6 : QAt w6 (fun k => (k < w1.heap.size ∨ k = z ∨ k = z + 1) ∨ v.ownBlock = some k) g R (L ++ [(st.id, t)])) (hk6 : Keep (fun k => (k < w1.heap.size ∨ k = z ∨ k = z + 1) ∨ v.ownBlock = some k) w5 w6) {x : Obj}
    (ho7 : w7.ownsRow w4.heap.size 3 1 v' (L.length + 1) (ic (L.map Prod.fst ++ [st.id]))) (hg7 : (w6.alloc x).grownBy w7 v.ownBlock) : ∃ a c, v' = .slice a (L ++ [(st.id, t)]).length c ∧ RE w1 w7 g R a (L ++ [(st.id, t)]).length c (L ++ [(st.id, t)]) := by
  obtain ⟨_, _, q3⟩ := h.copied ho hg
  obtain ⟨a, c, e, hi, _⟩ := owns_ints ho7
  have hl : (L ++ [(st.id, t)]).length = L.length + 1 := by simp
  have hm : (L ++ [(st.id, t)]).map Prod.fst = L.map Prod.fst ++ [st.id] := by simp
  have hz6 := hk6.size
  have hz5 := hg.size
  have hz7 := hg7.size
  have hzl := h.lt
  have hlow := h.low
  rw [World.size_alloc] at hz7
  refine ⟨a, c, by rw [hl]; exact e, ?_, ?_, ?_, ?_⟩
  · rw [hl, hm]; exact hi
  · exact hq6.keep (((Keep.refl _ w6).alloc x).trans (keep_grown hg7 (fun k hk hA => hA (.inr hk)))) (fun k hk => .inl (.inl (.inl hk))) (fun k hk => by omega)
  · refine ((q3.trans (hk6.mono (fun k _ hk => .inl (.inl hk)))).alloc x).trans (keep_grown hg7 (fun k hk hA => ?_))
    have := (ho.lt k hk).1
    omega
  · rw [hm]; exact h.dst.more hx

/-- The first one went. -/
theorem RQ.popped (h : RQ w1 w4 g R z L st) (h0 : 0 < L.length) (hq5 : QAt w5 (fun k => k < w1.heap.size ∨ k = z ∨ k = z + 1) g R (without [(nthW L 0).1] L)) (hk5 : Keep (fun k => k < w1.heap.size ∨ k = z ∨ k = z + 1) w4 w5)
    (ho : w6.ownsRow w5.heap.size 3 1 v (L.length - 1) (ic ((L.map Prod.fst).drop 1))) (hg : w5.grownBy w6 none) : ∃ a c, v = .slice a (without [(nthW L 0).1] L).length c ∧ RE w1 w6 g R a (without [(nthW L 0).1] L).length c (without [(nthW L 0).1] L) := by
  have hm : (without [(nthW L 0).1] L).map Prod.fst = (L.map Prod.fst).drop 1 := by
    rw [map_without, ← ids_getD]
    have hd := h.dst
    cases hL : L.map Prod.fst with
    | nil => simp at hL; rw [hL] at h0; simp at h0
    | cons x l =>
      rw [hL] at hd
      exact hd.tail
  have hl : (without [(nthW L 0).1] L).length = L.length - 1 := by rw [← List.length_map (f := Prod.fst), hm]; simp
  obtain ⟨a, c, e, hi, _⟩ := owns_ints ho
  have hz5 := hk5.size
  have hz6 := hg.size
  have hzl := h.lt
  have hlow := h.low
  refine ⟨a, c, by rw [hl]; exact e, ?_, ?_, ?_, ?_⟩
  · rw [hl, hm]; exact hi
  · exact hq5.own hg (fun k hk => by cases hk) (fun k hk => .inl (.inl hk)) (fun k hk => by omega)
  · exact (h.keep.trans (hk5.mono (fun k _ hk => .inl hk))).trans (keep_grown hg (fun k hk => by cases hk))
  · rw [map_without]; exact h.dst.filter _

/-- One was removed, or none. -/
theorem RQ.removed (h : RQ w1 w4 g R z L st) (hq5 : QAt w5 (fun k => k < w1.heap.size ∨ k = z ∨ k = z + 1) g R (without [st.id] L)) (hk5 : Keep (fun k => k < w1.heap.size ∨ k = z ∨ k = z + 1) w4 w5) {n : Nat}
    (ho : w6.ownsRow w5.heap.size 3 1 v n (ic ((L.map Prod.fst).filter (fun x => !([st.id].contains x))))) (hb : Below w5.heap.size w5 w6) : ∃ a c, v = .slice a (without [st.id] L).length c ∧ RE w1 w6 g R a (without [st.id] L).length c (without [st.id] L) := by
  obtain ⟨a, c, e, hi, _⟩ := owns_ints ho
  have hl : n = (without [st.id] L).length := by rw [← hi.hlen, ← map_without, List.length_map]
  subst hl
  refine ⟨a, c, e, ?_, (hq5.below hb).fewer (fun k hk => .inl (.inl hk)), (h.keep.trans (hk5.mono (fun k _ hk => .inl hk))).trans (keep_below hb), ?_⟩
  · rw [map_without]; exact hi
  · rw [map_without]; exact h.dst.filter _
end

theorem IntsAt.zero (w : World) (a : Option Addr) : IntsAt w a 0 0 [] := ⟨rfl, Nat.le_refl _, Nat.zero_le _, fun _ hj => absurd hj (Nat.not_lt_zero _)⟩
theorem IntsAt.drop1 {w : World} {b off n c : Nat} {zs : List Int} (h : IntsAt w (some ⟨b, off, none⟩) n c zs) (_ : 0 < n) : IntsAt w (some ⟨b, off + 1, none⟩) (n - 1) (c - 1) (zs.drop 1) := by
  have := h.hcap
  have := h.hle
  refine ⟨by rw [List.length_drop, h.hlen], by omega, by omega, fun j hj => ?_⟩
  obtain ⟨b', off', e, hlt, hc⟩ := h.at_ (1 + j) (by omega)
  cases e
  refine ⟨b, off + 1, rfl, hlt, ?_⟩
  rw [Nat.add_assoc, hc]
  simp [List.getD, Nat.add_comm]

end Go.Proofs.Ytcndgcfdopjjfaa
