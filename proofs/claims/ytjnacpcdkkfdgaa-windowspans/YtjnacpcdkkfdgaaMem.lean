/-
  Words for what lies in memory: what is kept while a call writes its own blocks; a row of ticks with room behind it, at whatever place of its block; one more tick appended to it; a window. Conditions: the row lies where it is said to lie; it has at most 1000 ticks where one is appended.
-/
import Derived.Test.YtjnacpcdkkfdgaaBase
import Derived.Laws.OwnMore
import Derived.Deep.AppendSrc
import Derived.Laws.Rows
namespace Go.Proofs.Ytjnacpcdkkfdgaa
open Go.ChangeShapes Go.WideShapes Go.ChangeAt Go.RowKit

/-- The blocks of A are as they were; the streams are as they were; no block has gone. -/
structure Keep (A : Nat → Prop) (w w' : World) : Prop where
  os : w'.os = w.os
  tape : w'.tape = w.tape
  output : w'.output = w.output
  size : w.heap.size ≤ w'.heap.size
  block : ∀ k, k < w.heap.size → A k → w'.heap[k]? = w.heap[k]?

theorem Keep.refl (A : Nat → Prop) (w : World) : Keep A w w := ⟨rfl, rfl, rfl, Nat.le_refl _, fun _ _ _ => rfl⟩
theorem Keep.trans {A : Nat → Prop} {a b c : World} (h : Keep A a b) (k : Keep A b c) : Keep A a c :=
  ⟨k.os.trans h.os, k.tape.trans h.tape, k.output.trans h.output, Nat.le_trans h.size k.size, fun i hi hA => (k.block i (Nat.lt_of_lt_of_le hi h.size) hA).trans (h.block i hi hA)⟩
theorem Keep.mono {A B : Nat → Prop} {w w' : World} (h : Keep A w w') (hB : ∀ k, k < w.heap.size → B k → A k) : Keep B w w' := ⟨h.os, h.tape, h.output, h.size, fun k hk hb => h.block k hk (hB k hk hb)⟩
theorem Keep.drewN {A : Nat → Prop} {a w : World} (h : Keep A a w) (q : Nat) : Keep A a (w.drewN q) := ⟨h.os, h.tape, h.output, h.size, h.block⟩
theorem Keep.drew {A : Nat → Prop} {a w : World} (h : Keep A a w) : Keep A a w.drew := ⟨h.os, h.tape, h.output, h.size, h.block⟩
theorem Keep.setCell {A : Nat → Prop} {a w : World} (h : Keep A a w) {x : Addr} (hx : ¬ A x.block) (v : Value) : Keep A a (w.setCell x v) :=
  ⟨h.os, h.tape, h.output, by rw [World.size_setCell]; exact h.size, fun k hk hA => (heap_setCell_other w x k v (fun e => hx (e ▸ hA))).trans (h.block k hk hA)⟩
theorem Keep.alloc {A : Nat → Prop} {a w : World} (h : Keep A a w) (o : Obj) : Keep A a (w.alloc o) :=
  ⟨h.os, h.tape, h.output, by rw [World.size_alloc]; exact Nat.le_succ_of_le h.size, fun k hk hA => (Below.heap_alloc w o k (Nat.lt_of_lt_of_le hk h.size)).trans (h.block k hk hA)⟩
theorem Keep.below {A : Nat → Prop} {w w' : World} {B : Nat} (h : Keep A w w') (hB : B ≤ w.heap.size) (hA : ∀ k, k < B → A k) : Below B w w' :=
  ⟨h.os, h.tape, h.output, h.size, fun k hk => h.block k (Nat.lt_of_lt_of_le hk hB) (hA k hk)⟩
theorem keep_below {A : Nat → Prop} {w w' : World} (h : Below w.heap.size w w') : Keep A w w' := ⟨h.os, h.tape, h.output, h.size, fun k hk _ => h.block k hk⟩
theorem keep_grown {A : Nat → Prop} {w w' : World} {row : Option Nat} (h : w.grownBy w' row) (hr : ∀ k, row = some k → ¬ A k) : Keep A w w' :=
  ⟨h.os, h.tape, h.output, h.size, fun k hk hA => h.block k hk (fun e => hr k e.symm hA)⟩
theorem Keep.cell {A : Nat → Prop} {w w' : World} (h : Keep A w w') {a : Addr} {v : Value} (hc : w.cell? a = some v) (hA : A a.block) : w'.cell? a = some v :=
  (World.cell?_of_block (h.block a.block (World.block_lt_of_cell? w a hc) hA)).trans hc

/-- The slice (a, n, cap) is a row of the ticks L, with room up to its capacity; its block is none of A. -/
structure TIn (w : World) (A : Nat → Prop) (a : Option Addr) (n cap : Nat) (L : List Int) : Prop where
  len : L.length = n
  le : n ≤ cap
  max : cap ≤ maxLen
  at_ : 0 < cap → ∃ b off, a = some ⟨b, off, none⟩ ∧ ¬ A b ∧ b < w.heap.size ∧ (∀ j, j < cap → (w.cell? ⟨b, off + j, none⟩).isSome = true ∧ w.frozen? ⟨b, off + j, none⟩ = false) ∧
    ∀ j, j < n → w.cell? ⟨b, off + j, none⟩ = some (.int .i64 (L.getD j 0))

theorem TIn.nil (w : World) (A : Nat → Prop) : TIn w A none 0 0 [] := ⟨rfl, Nat.le_refl _, Nat.zero_le _, fun h => absurd h (Nat.lt_irrefl _)⟩
theorem TIn.move {w w' : World} {A B : Nat → Prop} {a : Option Addr} {n cap : Nat} {L : List Int} (h : TIn w A a n cap L) (hs : w.heap.size ≤ w'.heap.size) (hb : ∀ b, ¬ A b → b < w.heap.size → w'.heap[b]? = w.heap[b]? ∧ ¬ B b) : TIn w' B a n cap L := by
  refine ⟨h.len, h.le, h.max, fun hc => ?_⟩
  obtain ⟨b, off, e, hA, hl, h1, h2⟩ := h.at_ hc
  obtain ⟨e1, hB⟩ := hb b hA hl
  refine ⟨b, off, e, hB, Nat.lt_of_lt_of_le hl hs, fun j hj => ?_, fun j hj => ?_⟩
  · rw [World.cell?_of_block (a := ⟨b, off + j, none⟩) e1, World.frozen?_of_block (a := ⟨b, off + j, none⟩) e1]
    exact h1 j hj
  · rw [World.cell?_of_block (a := ⟨b, off + j, none⟩) e1]
    exact h2 j hj
theorem TIn.drewN {w : World} {A : Nat → Prop} {a : Option Addr} {n cap : Nat} {L : List Int} (h : TIn w A a n cap L) (q : Nat) : TIn (w.drewN q) A a n cap L := h.move (Nat.le_refl _) (fun _ h _ => ⟨rfl, h⟩)

/-- The first k are struck, and room is left up to m. -/
theorem TIn.cut {w : World} {A : Nat → Prop} {a : Option Addr} {n cap : Nat} {L : List Int} (h : TIn w A a n cap L) (k m : Nat) (hk : k ≤ n) (hn : n ≤ m) (hm : m ≤ cap) (a' : Option Addr) (ha : k < m → a' = a.map (fun x => ⟨x.block, x.off + k, none⟩)) : TIn w A a' (n - k) (m - k) (L.drop k) := by
  refine ⟨by rw [List.length_drop, h.len], by omega, by have := h.max; omega, fun hc => ?_⟩
  obtain ⟨b, off, e, hA, hl, h1, h2⟩ := h.at_ (by omega)
  refine ⟨b, off + k, by rw [ha (by omega), e]; rfl, hA, hl, fun j hj => ?_, fun j hj => ?_⟩
  · have := h1 (k + j) (by omega)
    rw [← Nat.add_assoc] at this
    exact this
  · have := h2 (k + j) (by omega)
    rw [← Nat.add_assoc] at this
    rw [this]
    simp [List.getD, List.getElem?_drop]

theorem info3 : (Try.prog.info? 3).map (fun i => (i.zero, i.size, i.bytes)) = some (some (.int .i64 0), 1, 8) := by kernel_rfl

/-- One tick more. -/
theorem run_tick (w : World) (A : Nat → Prop) (ty : TypeId) (a : Option Addr) (n cap : Nat) (L : List Int) (x : Int) (ad : Addr) (c : Nat) (h : TIn w A a n cap L) (hn : n ≤ 1000) (hx : w.cell? ad = some (.int .i64 x)) (hA : ∀ k, A k → k < w.heap.size) :
    ∃ a' cap' w', (Builtin.append_ #[26, 26] ty #[.slice a n cap, .slice (some ad) 1 c]).run Try.prog w = .ok (.slice a' (n + 1) cap') w' ∧ TIn w' A a' (n + 1) cap' (L ++ [x]) ∧ Keep A w w' := by
  obtain ⟨i, hi, hz0, hz1, hz2⟩ := info_parts info3
  have hs : Src Try.prog i.size 26 (.slice (some ad) 1 c) 1 [.int .i64 x] w := by
    rw [hz1]
    refine Src.ofSlice (P := Try.prog) (e' := 3) w Try.underlying26 ad 1 c _ rfl (fun j u hj => ?_) (by simp [Value.oneCell'])
    match j, hj with
    | 0, hj => simp at hj; subst hj; simpa [Addr.add] using hx
  have hlen := h.len
  have hget : ∀ j, j < n → (L ++ [x]).getD j 0 = L.getD j 0 := fun j hj => by simp [List.getD, List.getElem?_append_left (show j < L.length by omega)]
  have hgetn : (L ++ [x]).getD n 0 = x := by rw [← hlen]; simp [List.getD]
  by_cases hr : n < cap
  · obtain ⟨b, off, rfl, hAb, hl, h1, h2⟩ := h.at_ (by omega)
    have hrun := run_append_room_src (P := Try.prog) w 26 26 ty 3 i Try.underlying26 hi b off n cap _ 1 _ hs (by omega) (fun j hj => by
      simp at hj; subst hj; rw [hz1, Nat.mul_one]; exact (h1 n hr).1) (fun j hj => by simp at hj; subst hj; rw [hz1, Nat.mul_one]; exact (h1 n hr).2)
    rw [hz1, Nat.mul_one] at hrun
    have e1 : w.setCells b (off + n) [.int .i64 x] = w.setCell ⟨b, off + n, none⟩ (.int .i64 x) := rfl
    rw [e1] at hrun
    obtain ⟨u, hu⟩ := Option.isSome_iff_exists.1 (h1 n hr).1
    refine ⟨_, _, _, hrun, ⟨by simp [hlen], by omega, h.max, fun _ => ⟨b, off, rfl, hAb, by simpa using hl, fun j hj => ?_, fun j hj => ?_⟩⟩, (Keep.refl A w).setCell hAb _⟩
    · rw [World.frozen?_setCell]
      refine ⟨?_, (h1 j hj).2⟩
      by_cases hjn : j = n
      · subst hjn
        rw [World.cell?_setCell_same _ _ _ hu]; rfl
      · rw [World.cell?_setCell_other _ _ _ _ (by simp only [ne_eq, Addr.mk.injEq, not_and]; omega)]
        exact (h1 j hj).1
    · by_cases hjn : j = n
      · subst hjn
        rw [World.cell?_setCell_same _ _ _ hu, hgetn]
      · rw [World.cell?_setCell_other _ _ _ _ (by simp only [ne_eq, Addr.mk.injEq, not_and]; omega), hget j (by omega)]
        exact h2 j (by omega)
  · have hold : (Builtin.firstCells i.size n (.slice a n cap)).run Try.prog w.drew = .ok (L.map (Value.int .i64)).toArray w.drew := by
      rw [hz1]
      by_cases hc : 0 < cap
      · obtain ⟨b, off, rfl, hAb, hl, h1, h2⟩ := h.at_ hc
        refine run_firstCells_some (P := Try.prog) w.drew 1 n ⟨b, off, none⟩ n cap (L.map (Value.int .i64)) (by simp [hlen]) (fun j v hj => ?_)
        have e0 : ((⟨b, off, none⟩ : Addr).add j) = ⟨b, off + j, none⟩ := by unfold Addr.add; split <;> simp_all
        rw [e0]
        have hj2 : j < L.length := by
          have := (List.getElem?_eq_some_iff.1 hj).1
          simpa using this
        have := h2 j (by omega)
        rw [List.getElem?_map, List.getElem?_eq_getElem hj2] at hj
        simp at hj
        subst hj
        simp [List.getD, List.getElem?_eq_getElem hj2] at this
        exact this
      · have hn0 : n = 0 := by have := h.le; omega
        have hL : L = [] := List.length_eq_zero_iff.1 (by omega)
        subst hL
        rw [hn0]
        cases a with
        | none => exact run_firstCells_none (P := Try.prog) w.drew 1 0 0 cap
        | some y => exact run_firstCells_some (P := Try.prog) w.drew 1 0 y 0 cap [] rfl (fun j v hj => by simp at hj)
    have hrun := run_append_grow_src (P := Try.prog) w 26 26 ty 3 i (.int .i64 0) Try.underlying26 hi hz0 a n cap _ hold _ 1 _ hs (by omega) (by omega) (growslice_fits (by omega) (by rw [hz2]; omega))
    have hge := grownCap_ge w (n + 1) cap 3
    have hcm := grownCap_le_maxLen w (n + 1) cap 3 (by unfold maxLen; omega)
    generalize grownCap w (n + 1) cap 3 = C at hrun hge hcm
    have hcell : ∀ j, (w.drew.alloc (.cells ((L.map (Value.int .i64) ++ [Value.int .i64 x]).toArray ++ Builtin.zeroCells (Value.int .i64 0).cells (C - (n + 1))) 3)).cell? ⟨w.heap.size, 0 + j, none⟩ = ((L.map (Value.int .i64) ++ [Value.int .i64 x]).toArray ++ Builtin.zeroCells (Value.int .i64 0).cells (C - (n + 1)))[j]? := fun j => by
      rw [Nat.zero_add]; exact World.cell?_alloc_new w.drew _ _ j
    refine ⟨_, _, _, hrun, ⟨by simp [hlen], hge, hcm, fun _ => ⟨w.heap.size, 0, rfl, fun hk => Nat.lt_irrefl _ (hA _ hk), by simp, fun j hj => ⟨?_, World.frozen?_alloc_new w.drew _ _ _⟩, fun j hj => ?_⟩⟩, (Keep.refl A w).drew.alloc _⟩
    · rw [hcell]
      have hsz : ((L.map (Value.int .i64) ++ [Value.int .i64 x]).toArray ++ Builtin.zeroCells (Value.int .i64 0).cells (C - (n + 1))).size = C := by
        rw [Array.size_append, size_zeroCells, List.size_toArray, List.length_append, List.length_map, hlen]
        show n + 1 + (C - (n + 1)) * 1 = C
        omega
      rw [Array.getElem?_eq_getElem (by rw [hsz]; exact hj)]
      rfl
    · rw [hcell, Array.getElem?_append_left (by simp [hlen]; omega), List.getElem?_toArray]
      have e2 : L.map (Value.int .i64) ++ [Value.int .i64 x] = (L ++ [x]).map (Value.int .i64) := by simp
      rw [e2, List.getElem?_map, List.getElem?_eq_getElem (show j < (L ++ [x]).length by simp [hlen]; omega)]
      simp [List.getD, List.getElem?_eq_getElem (show j < (L ++ [x]).length by simp [hlen]; omega)]

/-- At the list of a plain region's operations. -/
theorem wpList_tick {ops : Array Oper} {rest : List Oper} {o : Oper} {act : Act} {w : World} {Q : Exit → Act → World → Prop} (hgd : o.guard = none) (s y : Operand)
    (ho : o.op = .call { callee := .builtin .append, args := #[s, y], argTypes := #[26, 26] }) (A : Nat → Prop) (a : Option Addr) (n cap : Nat) (L : List Int) (x : Int) (ad : Addr) (c : Nat)
    (hs : act.eval s = .slice a n cap) (hy : act.eval y = .slice (some ad) 1 c) (h : TIn w A a n cap L) (hn : n ≤ 1000) (hx : w.cell? ad = some (.int .i64 x)) (hA : ∀ k, A k → k < w.heap.size)
    (hK : ∀ a' cap' w', TIn w' A a' (n + 1) cap' (L ++ [x]) → Keep A w w' → wpList Try.prog ops Q rest (act.put o.dst (.slice a' (n + 1) cap')) w') : wpList Try.prog ops Q (o :: rest) act w := by
  refine wpList_plain hgd fun K hK' => ?_
  obtain ⟨a', cap', w', hrun, q1, q2⟩ := run_tick w A o.type a n cap L x ad c h hn hx hA
  unfold Oper.wp
  simp [execOp, ho, resolve, invoke, builtin, hs, hy, hrun, Result.andThen]
  exact hK' _ _ (hK a' cap' w' q1 q2)

/-- A window lies at block g: its span, the greatest tick told, its ticks; none of its blocks is one of A. -/
structure WAt (w : World) (A : Nat → Prop) (g : Nat) (s t : Int) (L : List Int) : Prop where
  ex : ∃ a cap, w.heap[g]? = some (.cells #[.int .i64 s, .int .i64 t, .slice a L.length cap] 49 (0, 0)) ∧ TIn w (fun k => A k ∨ k = g) a L.length cap L
  gout : ¬ A g
  guard : ∀ k, A k → k < w.heap.size

theorem blk3 {w : World} {g : Nat} {x y z : Value} {t : TypeId} (h : w.heap[g]? = some (.cells #[x, y, z] t (0, 0))) :
    w.cell? ⟨g, 0, none⟩ = some x ∧ w.cell? ⟨g, 1, none⟩ = some y ∧ w.cell? ⟨g, 2, none⟩ = some z ∧ g < w.heap.size :=
  ⟨by simp [World.cell?, h], by simp [World.cell?, h], by simp [World.cell?, h], (Array.getElem?_eq_some_iff.1 h).1⟩
theorem fz3 {w : World} {g : Nat} {x y z : Value} {t : TypeId} (h : w.heap[g]? = some (.cells #[x, y, z] t (0, 0))) (o : Nat) : w.frozen? ⟨g, o, none⟩ = false := by simp [World.frozen?, h]
theorem heap_set3 {w : World} {g : Nat} {x y z u : Value} {t : TypeId} (h : w.heap[g]? = some (.cells #[x, y, z] t (0, 0))) :
    (w.setCell ⟨g, 0, none⟩ u).heap[g]? = some (.cells #[u, y, z] t (0, 0)) ∧ (w.setCell ⟨g, 1, none⟩ u).heap[g]? = some (.cells #[x, u, z] t (0, 0)) ∧ (w.setCell ⟨g, 2, none⟩ u).heap[g]? = some (.cells #[x, y, u] t (0, 0)) :=
  ⟨by rw [heap_setCell_same w g 0 _ t _ h]; simp, by rw [heap_setCell_same w g 1 _ t _ h]; simp, by rw [heap_setCell_same w g 2 _ t _ h]; simp⟩

theorem WAt.lt {w : World} {A : Nat → Prop} {g : Nat} {s t : Int} {L : List Int} (h : WAt w A g s t L) : g < w.heap.size := by
  obtain ⟨a, cap, hb, _⟩ := h.ex
  exact (blk3 hb).2.2.2
theorem WAt.drewN {w : World} {A : Nat → Prop} {g : Nat} {s t : Int} {L : List Int} (h : WAt w A g s t L) (q : Nat) : WAt (w.drewN q) A g s t L := by
  obtain ⟨a, cap, hb, ht⟩ := h.ex
  exact ⟨⟨a, cap, hb, ht.drewN q⟩, h.gout, h.guard⟩

/-- It lasts while what it is not is made or written, and what is new is none of its blocks. -/
theorem WAt.keep {w w' : World} {A B : Nat → Prop} {g : Nat} {s t : Int} {L : List Int} (h : WAt w A g s t L) (hk : Keep (fun k => ¬ A k) w w') (hB : ∀ k, B k → A k ∨ w.heap.size ≤ k) (hs : ∀ k, B k → k < w'.heap.size) : WAt w' B g s t L := by
  have hl := h.lt
  obtain ⟨a, cap, hb, ht⟩ := h.ex
  refine ⟨⟨a, cap, by rw [hk.block g hl h.gout]; exact hb, ?_⟩, fun hg => ?_, hs⟩
  · refine ht.move hk.size (fun b hA hlt => ⟨hk.block _ hlt (fun h2 => hA (.inl h2)), fun hn => ?_⟩)
    rcases hn with hn | hn
    · rcases hB _ hn with h1 | h1
      · exact hA (.inl h1)
      · omega
    · exact hA (.inr hn)
  · rcases hB g hg with h1 | h1
    · exact h.gout h1
    · omega

end Go.Proofs.Ytjnacpcdkkfdgaa
