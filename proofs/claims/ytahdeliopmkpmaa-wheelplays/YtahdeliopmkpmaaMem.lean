/-
  Words for what lies in memory: what is kept while a call writes its own blocks; a row of entries; how it lasts; what Less, Len and Swap of the order do. Conditions: the row lies where it is said to lie; places are within it.
-/
import Derived.Test.YtahdeliopmkpmaaBase
import Derived.Laws.OwnMore
namespace Go.Proofs.Ytahdeliopmkpmaa
open Go.ChangeShapes Go.WideShapes Go.ChangeAt Go.RowKit

/-- The blocks of A are as they were; the streams are as they were; no block has gone. -/
structure Keep (A : Nat → Prop) (w w' : World) : Prop where
  os : w'.os = w.os
  tape : w'.tape = w.tape
  output : w'.output = w.output
  size : w.heap.size ≤ w'.heap.size
  block : ∀ k, k < w.heap.size → A k → w'.heap[k]? = w.heap[k]?

theorem Keep.refl (A : Nat → Prop) (w : World) : Keep A w w := ⟨rfl, rfl, rfl, Nat.le_refl _, fun _ _ _ => rfl⟩
theorem Keep.trans {A : Nat → Prop} {a b c : World} (h : Keep A a b) (k : Keep A b c) : Keep A a c :=
  ⟨k.os.trans h.os, k.tape.trans h.tape, k.output.trans h.output, Nat.le_trans h.size k.size, fun i hi hA => (k.block i (Nat.lt_of_lt_of_le hi h.size) hA).trans (h.block i hi hA)⟩
theorem Keep.mono {A B : Nat → Prop} {w w' : World} (h : Keep A w w') (hB : ∀ k, k < w.heap.size → B k → A k) : Keep B w w' := ⟨h.os, h.tape, h.output, h.size, fun k hk hb => h.block k hk (hB k hk hb)⟩
theorem Keep.drewN {A : Nat → Prop} {a w : World} (h : Keep A a w) (q : Nat) : Keep A a (w.drewN q) := ⟨h.os, h.tape, h.output, h.size, h.block⟩
theorem Keep.drew {A : Nat → Prop} {a w : World} (h : Keep A a w) : Keep A a w.drew := ⟨h.os, h.tape, h.output, h.size, h.block⟩
theorem Keep.setCell {A : Nat → Prop} {a w : World} (h : Keep A a w) {x : Addr} (hx : ¬ A x.block) (v : Value) : Keep A a (w.setCell x v) :=
  ⟨h.os, h.tape, h.output, by rw [World.size_setCell]; exact h.size, fun k hk hA => (heap_setCell_other w x k v (fun e => hx (e ▸ hA))).trans (h.block k hk hA)⟩
theorem Keep.alloc {A : Nat → Prop} {a w : World} (h : Keep A a w) (o : Obj) : Keep A a (w.alloc o) :=
  ⟨h.os, h.tape, h.output, by rw [World.size_alloc]; exact Nat.le_succ_of_le h.size, fun k hk hA => (Below.heap_alloc w o k (Nat.lt_of_lt_of_le hk h.size)).trans (h.block k hk hA)⟩
theorem Keep.below {A : Nat → Prop} {w w' : World} {B : Nat} (h : Keep A w w') (hB : B ≤ w.heap.size) (hA : ∀ k, k < B → A k) : Below B w w' :=
  ⟨h.os, h.tape, h.output, h.size, fun k hk => h.block k (Nat.lt_of_lt_of_le hk hB) (hA k hk)⟩
theorem keep_below {A : Nat → Prop} {w w' : World} (h : Below w.heap.size w w') : Keep A w w' := ⟨h.os, h.tape, h.output, h.size, fun k hk _ => h.block k hk⟩
theorem keep_grown {A : Nat → Prop} {w w' : World} {row : Option Nat} (h : w.grownBy w' row) (hr : ∀ k, row = some k → ¬ A k) : Keep A w w' :=
  ⟨h.os, h.tape, h.output, h.size, fun k hk hA => h.block k hk (fun e => hr k e.symm hA)⟩

/-- A pointer to an entry. -/
def ptrE (e : Ent) : Value := .pointer (some ⟨e.b, 0, none⟩)

/-- The order ov is a row of the entries of L, each of which knows its place; none of its blocks is one of A. -/
structure OIn (w : World) (A : Nat → Prop) (ov : Value) (L : List Ent) : Prop where
  own : w.ownsRow 0 63 1 ov L.length (L.map ptrE)
  out : ∀ k, ov.ownBlock = some k → ¬ A k
  ent : ∀ i, i < L.length → EntAt w (nth L i) i
  eout : ∀ i, i < L.length → ¬ A (nth L i).b

theorem OIn.inj {w : World} {A : Nat → Prop} {ov : Value} {L : List Ent} (h : OIn w A ov L) {i j : Nat} (hi : i < L.length) (hj : j < L.length) (e : (nth L i).b = (nth L j).b) : i = j := by
  have h1 := h.ent i hi
  have h2 := h.ent j hj
  unfold EntAt at h1 h2
  rw [e, h2] at h1
  simp at h1
  omega

theorem OIn.row {w : World} {A : Nat → Prop} {ov : Value} {L : List Ent} (h : OIn w A ov L) (h0 : 0 < L.length) :
    ∃ gs cap cur, ov = .slice (some ⟨gs, 0, none⟩) L.length cap ∧ w.heap[gs]? = some (.cells cur 63 (0, 0)) ∧ ¬ A gs ∧ L.length ≤ cap ∧ cap ≤ maxLen ∧ cur.size = cap ∧ cur.toList.take L.length = L.map ptrE := by
  rcases h.own.2 with ⟨_, hn⟩ | ⟨gs, cap, cur, rfl, _, hg, h1, h2, h3, h4⟩
  · omega
  · refine ⟨gs, cap, cur, rfl, hg, h.out gs rfl, h1, h2, by omega, ?_⟩
    rw [Nat.mul_one] at h4
    exact h4

theorem row_cell {w : World} {gs : Nat} {cur : Array Value} {L : List Ent} (hg : w.heap[gs]? = some (.cells cur 63 (0, 0))) (ht : cur.toList.take L.length = L.map ptrE) {i : Nat} (hi : i < L.length) :
    w.cell? ⟨gs, i, none⟩ = some (ptrE (nth L i)) := by
  have h1 : (cur.toList.take L.length)[i]? = some (ptrE (nth L i)) := by
    rw [ht, List.getElem?_map, List.getElem?_eq_getElem hi, nth_eq hi]
    rfl
  rw [List.getElem?_take_of_lt hi] at h1
  simp [World.cell?, hg]
  simpa using h1

theorem OIn.congr {w w' : World} {A : Nat → Prop} {ov : Value} {L : List Ent} (h : OIn w A ov L) (hh : w'.heap = w.heap) : OIn w' A ov L := by
  refine ⟨⟨h.own.1, ?_⟩, h.out, fun i hi => ?_, h.eout⟩
  · rcases h.own.2 with hn | ⟨g, cap, cur, rfl, hb, hg, r⟩
    · exact .inl hn
    · exact .inr ⟨g, cap, cur, rfl, hb, by rw [hh]; exact hg, r⟩
  · have := h.ent i hi
    unfold EntAt at this ⊢
    rw [hh]; exact this
theorem OIn.drewN {w : World} {A : Nat → Prop} {ov : Value} {L : List Ent} (h : OIn w A ov L) (q : Nat) : OIn (w.drewN q) A ov L := h.congr rfl

/-- It lasts where its blocks do. -/
theorem OIn.last {w w' : World} {A B : Nat → Prop} {ov : Value} {L : List Ent} (h : OIn w A ov L) (hk : Keep B w w') (hr : ∀ k, ov.ownBlock = some k → B k) (he : ∀ i, i < L.length → B (nth L i).b) : OIn w' A ov L := by
  refine ⟨⟨h.own.1, ?_⟩, h.out, fun i hi => ?_, h.eout⟩
  · rcases h.own.2 with hn | ⟨g, cap, cur, rfl, hb, hg, r⟩
    · exact .inl hn
    · exact .inr ⟨g, cap, cur, rfl, hb, by rw [hk.block g (Array.getElem?_eq_some_iff.1 hg).1 (hr g rfl)]; exact hg, r⟩
  · have := h.ent i hi
    have hl := this.lt
    unfold EntAt at this ⊢
    rw [hk.block _ hl (he i hi)]; exact this

theorem OIn.lt {w : World} {A : Nat → Prop} {ov : Value} {L : List Ent} (h : OIn w A ov L) : ∀ k, ov.ownBlock = some k → k < w.heap.size := fun k hk => (h.own.lt k hk).2

/-- With more, or fewer, that are not its own. -/
theorem OIn.guard {w : World} {A B : Nat → Prop} {ov : Value} {L : List Ent} (h : OIn w A ov L) (hr : ∀ k, ov.ownBlock = some k → ¬ B k) (he : ∀ i, i < L.length → ¬ B (nth L i).b) : OIn w B ov L := ⟨h.own, hr, h.ent, he⟩

set_option maxRecDepth 100000 in
theorem less_any (A : Nat → Prop) (ov : Value) (L : List Ent) (i j : Nat) (w : World) (h : OIn w A ov L) (hi : i < L.length) (hj : j < L.length) :
    Calls Try.prog 96 #[ov, .int .i64 i, .int .i64 j] w fun e w' => e = .returned (.bool (ltE (nth L i) (nth L j))) ∧ ∃ q, w' = w.drewN q := by
  obtain ⟨gs, cap, cur, rfl, hg, _, hle, hcap, hcs, ht⟩ := h.row (by omega)
  have c1 := row_cell hg ht hi
  have c2 := row_cell hg ht hj
  have e1 := h.ent i hi
  have e2 := h.ent j hj
  unfold ptrE at c1 c2
  have hr := cmpE_lt (nth L i) (nth L j)
  unfold maxLen at hcap
  generalize L.length = n at hi hj hle ht
  generalize nth L i = x at c1 e1 hr ⊢
  generalize nth L j = y at c2 e2 hr ⊢
  rw [← hr]
  clear h hg ht hr
  go_enter Try.func96, Try.ntmps96
  go_wp2
  go_quiet (first | (go_at_call 42; exact Calls.quiet_of (compare_any x y i j _ e1 e2)))
  go_wp2
  go_ret
  exact ⟨rfl, _, rfl⟩

theorem len_any (A : Nat → Prop) (ov : Value) (L : List Ent) (w : World) (h : OIn w A ov L) :
    Calls Try.prog 95 #[ov] w fun e w' => e = .returned (.int .i64 L.length) ∧ w' = w := by
  by_cases h0 : 0 < L.length
  · obtain ⟨gs, cap, cur, rfl, _⟩ := h.row h0
    go_enter Try.func95, Try.ntmps95
    go_wp2
    go_ret
    exact ⟨rfl, rfl⟩
  · have h2 : L.length = 0 := by omega
    have ho := h.own.2
    rw [h2] at ho ⊢
    rcases ho with ⟨rfl, _⟩ | ⟨gs, cap, cur, rfl, _⟩
    · go_enter Try.func95, Try.ntmps95
      go_wp2
      go_ret
      exact ⟨rfl, rfl⟩
    · go_enter Try.func95, Try.ntmps95
      go_wp2
      go_ret
      exact ⟨rfl, rfl⟩

end Go.Proofs.Ytahdeliopmkpmaa
