/-
  Words for what lies in memory: what is kept while a call writes its own blocks; a row of drains with room behind it, and how one is put into it or taken out. Conditions: the row lies where it is said to lie.
-/
import Derived.Test.YtmlkpfkeeifgeaaDoorGood
import Derived.Deep.AppendSrc
import Derived.Laws.Rows
import Derived.WalkMore
import Derived.Deep.LoopGhost
import Derived.Deep.RegionLaw
namespace Go.Proofs.YtmlkpfkeeifgeaaDoor
open Go.ChangeShapes Go.WideShapes Go.ChangeAt Go.RowKit

/-- The blocks of A are as they were; the streams are as they were; no block has gone. -/
structure Keep (A : Nat → Prop) (w w' : World) : Prop where
  os : w'.os = w.os
  tape : w'.tape = w.tape
  output : w'.output = w.output
  size : w.heap.size ≤ w'.heap.size
  block : ∀ k, k < w.heap.size → A k → w'.heap[k]? = w.heap[k]?

theorem Keep.refl (A : Nat → Prop) (w : World) : Keep A w w := ⟨rfl, rfl, rfl, Nat.le_refl _, fun _ _ _ => rfl⟩
theorem Keep.trans {A : Nat → Prop} {a b c : World} (h : Keep A a b) (k : Keep A b c) : Keep A a c :=
  ⟨k.os.trans h.os, k.tape.trans h.tape, k.output.trans h.output, Nat.le_trans h.size k.size, fun i hi hA => (k.block i (Nat.lt_of_lt_of_le hi h.size) hA).trans (h.block i hi hA)⟩
theorem Keep.mono {A B : Nat → Prop} {w w' : World} (h : Keep A w w') (hB : ∀ k, k < w.heap.size → B k → A k) : Keep B w w' := ⟨h.os, h.tape, h.output, h.size, fun k hk hb => h.block k hk (hB k hk hb)⟩
theorem Keep.drewN {A : Nat → Prop} {a w : World} (h : Keep A a w) (q : Nat) : Keep A a (w.drewN q) := ⟨h.os, h.tape, h.output, h.size, h.block⟩
theorem Keep.drew {A : Nat → Prop} {a w : World} (h : Keep A a w) : Keep A a w.drew := ⟨h.os, h.tape, h.output, h.size, h.block⟩
theorem Keep.setCell {A : Nat → Prop} {a w : World} (h : Keep A a w) {x : Addr} (hx : ¬ A x.block) (v : Value) : Keep A a (w.setCell x v) :=
  ⟨h.os, h.tape, h.output, by rw [World.size_setCell]; exact h.size, fun k hk hA => (heap_setCell_other w x k v (fun e => hx (e ▸ hA))).trans (h.block k hk hA)⟩
theorem Keep.alloc {A : Nat → Prop} {a w : World} (h : Keep A a w) (o : Obj) : Keep A a (w.alloc o) :=
  ⟨h.os, h.tape, h.output, by rw [World.size_alloc]; exact Nat.le_succ_of_le h.size, fun k hk hA => (Below.heap_alloc w o k (Nat.lt_of_lt_of_le hk h.size)).trans (h.block k hk hA)⟩
theorem Keep.below {A : Nat → Prop} {w w' : World} {B : Nat} (h : Keep A w w') (hB : B ≤ w.heap.size) (hA : ∀ k, k < B → A k) : Below B w w' :=
  ⟨h.os, h.tape, h.output, h.size, fun k hk => h.block k (Nat.lt_of_lt_of_le hk hB) (hA k hk)⟩
theorem keep_below {A : Nat → Prop} {w w' : World} (h : Below w.heap.size w w') : Keep A w w' := ⟨h.os, h.tape, h.output, h.size, fun k hk _ => h.block k hk⟩
theorem keep_grown {A : Nat → Prop} {w w' : World} {row : Option Nat} (h : w.grownBy w' row) (hr : ∀ k, row = some k → ¬ A k) : Keep A w w' :=
  ⟨h.os, h.tape, h.output, h.size, fun k hk hA => h.block k hk (fun e => hr k e.symm hA)⟩
theorem Keep.cell {A : Nat → Prop} {w w' : World} (h : Keep A w w') {a : Addr} {v : Value} (hc : w.cell? a = some v) (hA : A a.block) : w'.cell? a = some v :=
  (World.cell?_of_block (h.block a.block (World.block_lt_of_cell? w a hc) hA)).trans hc


/-- The first place of x in l; its length, if it isn't there. -/
def fidx (x : ByteArray) : List ByteArray → Nat
  | [] => 0
  | y :: l => if y = x then 0 else fidx x l + 1

theorem fidx_le (x : ByteArray) : ∀ l, fidx x l ≤ l.length
  | [] => Nat.le_refl _
  | y :: l => by
    unfold fidx
    split
    · omega
    · have := fidx_le x l
      simp
      omega
theorem fidx_lt (x : ByteArray) : ∀ l j, j < fidx x l → l.getD j ⟨#[]⟩ ≠ x
  | [], j, h => by simp [fidx] at h
  | y :: l, j, h => by
    unfold fidx at h
    split at h
    · omega
    · rename_i hy
      cases j with
      | zero => simpa using hy
      | succ j => simpa using fidx_lt x l j (by omega)
theorem fidx_at (x : ByteArray) : ∀ l, fidx x l < l.length → l.getD (fidx x l) ⟨#[]⟩ = x
  | [], h => by simp at h
  | y :: l, h => by
    unfold fidx at h ⊢
    split
    · rename_i hy; simpa using hy
    · rename_i hy
      rw [if_neg hy] at h
      simpa using fidx_at x l (by simpa using h)
theorem fidx_mem (x : ByteArray) : ∀ l, fidx x l < l.length ↔ x ∈ l
  | [] => by simp [fidx]
  | y :: l => by
    unfold fidx
    by_cases hy : y = x
    · simp [hy]
    · rw [if_neg hy]
      have := fidx_mem x l
      simp [this]
      intro h
      exact absurd h.symm hy

/-- The place of x in l; -1, if it isn't there. -/
def plc (x : ByteArray) (l : List ByteArray) : Int := if fidx x l < l.length then fidx x l else -1
theorem plc_mem {x : ByteArray} {l : List ByteArray} (h : x ∈ l) : plc x l = fidx x l := if_pos ((fidx_mem x l).2 h)
theorem plc_not {x : ByteArray} {l : List ByteArray} (h : x ∉ l) : plc x l = -1 := if_neg (fun h' => h ((fidx_mem x l).1 h'))
theorem plc_nil (x : ByteArray) : plc x [] = -1 := rfl
theorem plc_ge {x : ByteArray} {l : List ByteArray} : 0 ≤ plc x l ↔ x ∈ l := by
  by_cases h : x ∈ l
  · rw [plc_mem h]; simp [h]
  · rw [plc_not h]; simp [h]
theorem plc_eq {x : ByteArray} {l : List ByteArray} : plc x l = -1 ↔ x ∉ l := by
  by_cases h : x ∈ l
  · rw [plc_mem h]; simp [h]
  · rw [plc_not h]; simp [h]

/-- A drain in a row: its name, and its deadline. -/
abbrev Dr := ByteArray × Int
def nthD (l : List Dr) (i : Nat) : Dr := l.getD i (⟨#[]⟩, 0)
theorem nthD_eq {l : List Dr} {i : Nat} (h : i < l.length) : nthD l i = l[i] := by simp [nthD, List.getD, h]
theorem nthD_take {l : List Dr} {n i : Nat} (h : i < n) : nthD (l.take n) i = nthD l i := by simp [nthD, List.getD, h]


theorem nthD_get? {l : List Dr} {i : Nat} (h : i < l.length) : l[i]? = some (nthD l i) := by rw [List.getElem?_eq_getElem h, nthD_eq h]
/-- As cells. -/
def flat : List Dr → List Value
  | [] => []
  | p :: l => .string p.1 :: .int .i64 p.2 :: flat l
theorem flat_length : ∀ l, (flat l).length = l.length * 2
  | [] => rfl
  | p :: l => by
    have := flat_length l
    simp [flat, this]
    omega
theorem flat_append : ∀ l m, flat (l ++ m) = flat l ++ flat m
  | [], _ => rfl
  | p :: l, m => by simp [flat, flat_append l m]
theorem flat_get : ∀ l i, i < l.length → (flat l)[i * 2]? = some (.string (nthD l i).1) ∧ (flat l)[i * 2 + 1]? = some (.int .i64 (nthD l i).2)
  | [], i, h => by simp at h
  | p :: l, 0, h => by simp [flat, nthD]
  | p :: l, i + 1, h => by
    have := flat_get l i (by simpa using h)
    have e1 : (i + 1) * 2 = i * 2 + 1 + 1 := by omega
    rw [e1]
    simpa [flat, nthD] using this
theorem flat_set : ∀ (l : List Dr) (i : Nat) (p : Dr), flat (l.set i p) = ((flat l).set (i * 2) (.string p.1)).set (i * 2 + 1) (.int .i64 p.2)
  | [], i, p => by simp [flat]
  | q :: l, 0, p => by simp [flat]
  | q :: l, i + 1, p => by
    have e1 : (i + 1) * 2 = i * 2 + 1 + 1 := by omega
    rw [e1]
    simp [flat, flat_set l i p]
theorem flat_one : ∀ l, ∀ u ∈ flat l, u.oneCell' = true
  | [], u, h => by simp [flat] at h
  | p :: l, u, h => by
    simp [flat] at h
    rcases h with rfl | rfl | h
    · rfl
    · rfl
    · exact flat_one l u h

/-- The slice (a, cap) is a row of the drains l, up to its capacity; its block is none of A. -/
def RIn (w : World) (A : Nat → Prop) (a : Option Addr) (cap : Nat) (l : List Dr) : Prop :=
  l.length = cap ∧ cap ≤ maxLen ∧ ((a = none ∧ cap = 0) ∨ ∃ b, a = some ⟨b, 0, none⟩ ∧ ¬ A b ∧ w.heap[b]? = some (.cells (flat l).toArray 118 (0, 0)))

theorem RIn.nil (w : World) (A : Nat → Prop) : RIn w A none 0 [] := ⟨rfl, Nat.zero_le _, .inl ⟨rfl, rfl⟩⟩
theorem RIn.move {w w' : World} {A B : Nat → Prop} {a : Option Addr} {cap : Nat} {l : List Dr} (h : RIn w A a cap l) (hb : ∀ b x, ¬ A b → w.heap[b]? = some (.cells x 118 (0, 0)) → w'.heap[b]? = w.heap[b]? ∧ ¬ B b) : RIn w' B a cap l := by
  obtain ⟨h1, h2, h3 | ⟨b, e, hA, hg⟩⟩ := h
  · exact ⟨h1, h2, .inl h3⟩
  · obtain ⟨e1, e2⟩ := hb b _ hA hg
    exact ⟨h1, h2, .inr ⟨b, e, e2, by rw [e1]; exact hg⟩⟩

theorem row_cells {w : World} {b : Nat} {l : List Dr} (hg : w.heap[b]? = some (.cells (flat l).toArray 118 (0, 0))) {i : Nat} (hi : i < l.length) :
    w.cell? ⟨b, i * 2, none⟩ = some (.string (nthD l i).1) ∧ w.cell? ⟨b, i * 2 + 1, none⟩ = some (.int .i64 (nthD l i).2) := by
  have := flat_get l i hi
  simp only [World.cell?, hg]
  simpa using this
theorem row_frozen {w : World} {b : Nat} {l : List Dr} (hg : w.heap[b]? = some (.cells (flat l).toArray 118 (0, 0))) (o : Nat) : w.frozen? ⟨b, o, none⟩ = false := by simp [World.frozen?, hg]

theorem blk2 {w : World} {g : Nat} {x y : Value} {t : TypeId} (h : w.heap[g]? = some (.cells #[x, y] t (0, 0))) :
    w.cell? ⟨g, 0, none⟩ = some x ∧ w.cell? ⟨g, 1, none⟩ = some y ∧ g < w.heap.size :=
  ⟨by simp [World.cell?, h], by simp [World.cell?, h], (Array.getElem?_eq_some_iff.1 h).1⟩
theorem fz2 {w : World} {g : Nat} {x y : Value} {t : TypeId} (h : w.heap[g]? = some (.cells #[x, y] t (0, 0))) (o : Nat) : w.frozen? ⟨g, o, none⟩ = false := by simp [World.frozen?, h]
theorem heap_set2 {w : World} {g : Nat} {x y u : Value} {t : TypeId} (h : w.heap[g]? = some (.cells #[x, y] t (0, 0))) :
    (w.setCell ⟨g, 0, none⟩ u).heap[g]? = some (.cells #[u, y] t (0, 0)) ∧ (w.setCell ⟨g, 1, none⟩ u).heap[g]? = some (.cells #[x, u] t (0, 0)) :=
  ⟨by rw [heap_setCell_same w g 0 _ t _ h]; simp, by rw [heap_setCell_same w g 1 _ t _ h]; simp⟩


theorem info118 : (Tryd.prog.info? 118).map (fun i => (i.zero, i.size, i.bytes)) = some (some (.agg #[.string ⟨#[]⟩, .int .i64 0]), 2, 24) := by kernel_rfl

theorem row_set {w : World} {b : Nat} {l : List Dr} (hg : w.heap[b]? = some (.cells (flat l).toArray 118 (0, 0))) (n : Nat) (p : Dr) :
    (w.setCells b (n * 2) [.string p.1, .int .i64 p.2]).heap[b]? = some (.cells (flat (l.set n p)).toArray 118 (0, 0)) := by
  have e1 : w.setCells b (n * 2) [.string p.1, .int .i64 p.2] = (w.setCell ⟨b, n * 2, none⟩ (.string p.1)).setCell ⟨b, n * 2 + 1, none⟩ (.int .i64 p.2) := rfl
  rw [e1, heap_setCell_same _ b _ _ 118 _ (heap_setCell_same w b _ _ 118 _ hg), flat_set]
  simp
theorem set_other (w : World) (b o k : Nat) (u v : Value) (h : k ≠ b) : (w.setCells b o [u, v]).heap[k]? = w.heap[k]? := by
  have e1 : w.setCells b o [u, v] = (w.setCell ⟨b, o, none⟩ u).setCell ⟨b, o + 1, none⟩ v := rfl
  rw [e1, heap_setCell_other _ _ k _ h, heap_setCell_other _ _ k _ h]
theorem set_size (w : World) (b o : Nat) (u v : Value) : (w.setCells b o [u, v]).heap.size = w.heap.size := by
  have e1 : w.setCells b o [u, v] = (w.setCell ⟨b, o, none⟩ u).setCell ⟨b, o + 1, none⟩ v := rfl
  rw [e1, World.size_setCell, World.size_setCell]
theorem Keep.set2 {A : Nat → Prop} {a w : World} (h : Keep A a w) {b : Nat} (hx : ¬ A b) (o : Nat) (u v : Value) : Keep A a (w.setCells b o [u, v]) := by
  have e1 : w.setCells b o [u, v] = (w.setCell ⟨b, o, none⟩ u).setCell ⟨b, o + 1, none⟩ v := rfl
  rw [e1]
  exact (h.setCell hx _).setCell hx _

/-- One drain more, where there is room. -/
theorem run_put (w : World) (ty : TypeId) (b n cap : Nat) (l : List Dr) (p : Dr) (ad : Addr) (c : Nat) (hg : w.heap[b]? = some (.cells (flat l).toArray 118 (0, 0))) (hl : l.length = cap) (hn : n < cap)
    (hx : w.cell? ad = some (.string p.1)) (hy : w.cell? (ad.add 1) = some (.int .i64 p.2)) :
    (Builtin.append_ #[99, 99] ty #[.slice (some ⟨b, 0, none⟩) n cap, .slice (some ad) 1 c]).run Tryd.prog w = .ok (.slice (some ⟨b, 0, none⟩) (n + 1) cap) (w.setCells b (n * 2) [.string p.1, .int .i64 p.2]) := by
  obtain ⟨i, hi, hz0, hz1, hz2⟩ := info_parts info118
  have hs : Src Tryd.prog i.size 99 (.slice (some ad) 1 c) 1 [.string p.1, .int .i64 p.2] w := by
    rw [hz1]
    refine Src.ofSlice (P := Tryd.prog) (e' := 118) w Tryd.underlying99 ad 1 c _ rfl (fun j u hj => ?_) (by simp [Value.oneCell'])
    match j, hj with
    | 0, hj => simp at hj; subst hj; simpa [Addr.add] using hx
    | 1, hj => simp at hj; subst hj; exact hy
  have hcells : ∀ j, j < 2 → (w.cell? ⟨b, n * 2 + j, none⟩).isSome = true := fun j hj => by
    have := row_cells hg (show n < l.length by omega)
    match j, hj with
    | 0, _ => rw [Nat.add_zero, this.1]; rfl
    | 1, _ => rw [this.2]; rfl
  have hrun := run_append_room_src (P := Tryd.prog) w 99 99 ty 118 i Tryd.underlying99 hi b 0 n cap _ 1 _ hs (by omega) (fun j hj => by rw [hz1, Nat.zero_add]; exact hcells j (by simpa using hj)) (fun j _ => row_frozen hg _)
  rw [hz1, Nat.zero_add] at hrun
  exact hrun

theorem lt_of_heap {w : World} {k : Nat} {o : Obj} (h : w.heap[k]? = some o) : k < w.heap.size := (Array.getElem?_eq_some_iff.1 h).1

theorem takeD_snoc {L : List Dr} {i : Nat} (hi : i < L.length) : L.take (i + 1) = L.take i ++ [nthD L i] := by
  rw [List.take_add_one, nthD_get? hi]; rfl


/-- A drain that is none. -/
def zeroD : Dr := (⟨#[]⟩, 0)
theorem nth_rep (k i : Nat) (h : i < k) : nthD (List.replicate k zeroD) i = zeroD := by
  rw [nthD_eq (by simpa using h)]; simp
theorem zeroCells2 (k : Nat) : (Builtin.zeroCells (Value.agg #[.string ⟨#[]⟩, .int .i64 0]).cells k).toList = flat (List.replicate k zeroD) := by
  have e1 : (Value.agg #[.string ⟨#[]⟩, .int .i64 0]).cells = #[.string ⟨#[]⟩, .int .i64 0] := rfl
  rw [e1]
  apply List.ext_getElem?
  intro j
  by_cases hj : j < k * 2
  · have hq : j / 2 < (List.replicate k zeroD).length := by simp; omega
    have h1 := flat_get (List.replicate k zeroD) (j / 2) hq
    rw [nth_rep k (j / 2) (by omega)] at h1
    have h2 : (Array.range (k * (#[Value.string ⟨#[]⟩, .int .i64 0]).size)).toList[j]? = some j := by
      simp
      exact List.getElem?_range hj
    simp only [Builtin.zeroCells, Array.toList_map, List.getElem?_map]
    rw [h2]
    rcases Nat.mod_two_eq_zero_or_one j with h | h
    · have e2 : j = j / 2 * 2 := by omega
      have h3 := h1.1
      rw [← e2] at h3
      rw [h3]
      simp [h, zeroD]
    · have e2 : j = j / 2 * 2 + 1 := by omega
      have h3 := h1.2
      rw [← e2] at h3
      rw [h3]
      simp [h, zeroD]
  · rw [List.getElem?_eq_none (by simp [Builtin.zeroCells]; omega), List.getElem?_eq_none (by rw [flat_length]; simp; omega)]
/-- One drain more. -/
theorem run_one (w : World) (B : Nat → Prop) (ty : TypeId) (a : Option Addr) (n cap : Nat) (l L : List Dr) (p : Dr) (ad : Addr) (c : Nat) (h : RIn w B a cap l) (hL : L.length = n) (hcap : n ≤ cap) (ht : l.take n = L) (hn : n ≤ 5000)
    (hx : w.cell? ad = some (.string p.1)) (hy : w.cell? (ad.add 1) = some (.int .i64 p.2)) (hB : ∀ k, B k → k < w.heap.size) :
    ∃ a' cap' l' w', (Builtin.append_ #[99, 99] ty #[.slice a n cap, .slice (some ad) 1 c]).run Tryd.prog w = .ok (.slice a' (n + 1) cap') w' ∧ RIn w' B a' cap' l' ∧ n + 1 ≤ cap' ∧ l'.take (n + 1) = L ++ [p] ∧ Keep B w w' := by
  obtain ⟨h1, h2, h3⟩ := h
  by_cases hr : n < cap
  · obtain ⟨_, h3⟩ | ⟨b, rfl, hBb, hg⟩ := h3
    · omega
    · refine ⟨_, _, l.set n p, _, run_put w ty b n cap l p ad c hg h1 hr hx hy, ⟨by simpa using h1, h2, .inr ⟨b, rfl, hBb, row_set hg _ _⟩⟩, hr, ?_, (Keep.refl B w).set2 hBb _ _ _⟩
      rw [List.take_add_one, List.take_set_of_le (Nat.le_refl _), ht, List.getElem?_set_self (by omega)]
      rfl
  · obtain ⟨i, hi, hz0, hz1, hz2⟩ := info_parts info118
    have hcn : n = cap := by omega
    have hlL : l = L := by rw [← ht, hcn, ← h1, List.take_length]
    have hs : Src Tryd.prog i.size 99 (.slice (some ad) 1 c) 1 [.string p.1, .int .i64 p.2] w := by
      rw [hz1]
      refine Src.ofSlice (P := Tryd.prog) (e' := 118) w Tryd.underlying99 ad 1 c _ rfl (fun j u hj => ?_) (by simp [Value.oneCell'])
      match j, hj with
      | 0, hj => simp at hj; subst hj; simpa [Addr.add] using hx
      | 1, hj => simp at hj; subst hj; exact hy
    have hold : (Builtin.firstCells i.size n (.slice a n cap)).run Tryd.prog w.drew = .ok (flat L).toArray w.drew := by
      rw [hz1]
      obtain ⟨rfl, h3⟩ | ⟨b, rfl, hBb, hg⟩ := h3
      · obtain rfl : L = [] := List.length_eq_zero_iff.1 (by omega)
        have hn0 : n = 0 := by omega
        rw [hn0]
        exact run_firstCells_none (P := Tryd.prog) w.drew 2 0 0 cap
      · refine run_firstCells_some (P := Tryd.prog) w.drew 2 n ⟨b, 0, none⟩ n cap (flat L) (by rw [flat_length, hL]) (fun j v hj => ?_)
        have e0 : ((⟨b, 0, none⟩ : Addr).add j) = ⟨b, j, none⟩ := by unfold Addr.add; split <;> simp_all
        rw [e0]
        have hg2 : w.drew.heap[b]? = some (.cells (flat l).toArray 118 (0, 0)) := hg
        simp only [World.cell?, hg2]
        rw [hlL]
        simpa using hj
    have hrun := run_append_grow_src (P := Tryd.prog) w 99 99 ty 118 i (.agg #[.string ⟨#[]⟩, .int .i64 0]) Tryd.underlying99 hi hz0 a n cap _ hold _ 1 _ hs (by omega) (by omega) (growslice_fits (by omega) (by rw [hz2]; omega))
    have hge := grownCap_ge w (n + 1) cap 118
    have hcm := grownCap_le_maxLen w (n + 1) cap 118 (by unfold maxLen; omega)
    generalize grownCap w (n + 1) cap 118 = C at hrun hge hcm
    have hblk : ((flat L ++ [Value.string p.1, Value.int .i64 p.2]).toArray ++ Builtin.zeroCells (Value.agg #[.string ⟨#[]⟩, .int .i64 0]).cells (C - (n + 1))) = (flat (L ++ [p] ++ List.replicate (C - (n + 1)) zeroD)).toArray := by
      apply Array.toList_inj.1
      rw [Array.toList_append, zeroCells2, flat_append, flat_append]
      rfl
    refine ⟨_, _, L ++ [p] ++ List.replicate (C - (n + 1)) zeroD, _, hrun, ⟨by simp [hL]; omega, hcm, .inr ⟨w.heap.size, rfl, fun hk => Nat.lt_irrefl _ (hB _ hk), ?_⟩⟩, hge, ?_, (Keep.refl B w).drew.alloc _⟩
    · rw [hblk]
      exact heap_alloc_new w.drew _
    · rw [List.take_append_of_le_length (by simp [hL])]
      rw [List.take_of_length_le (by simp [hL])]

theorem step_one {ops : Array Oper} {o : Oper} {act : Act} {w : World} {K : Act → World → Prop} {Q : Exit → Act → World → Prop} {E : Prop} (hgd : o.guard = none) (s y : Operand)
    (ho : o.op = .call { callee := .builtin .append, args := #[s, y], argTypes := #[99, 99] }) (B : Nat → Prop) (a : Option Addr) (n cap : Nat) (l L : List Dr) (p : Dr) (ad : Addr) (c : Nat) (hs : act.eval s = .slice a n cap) (hy : act.eval y = .slice (some ad) 1 c)
    (h : RIn w B a cap l) (hL : L.length = n) (hcap : n ≤ cap) (ht : l.take n = L) (hn : n ≤ 5000) (hx : w.cell? ad = some (.string p.1)) (hx' : w.cell? (ad.add 1) = some (.int .i64 p.2)) (hB : ∀ k, B k → k < w.heap.size)
    (hK : ∀ a' cap' l' w', RIn w' B a' cap' l' → n + 1 ≤ cap' → l'.take (n + 1) = L ++ [p] → Keep B w w' → K (act.put o.dst (.slice a' (n + 1) cap')) w') :
    if Region.wanted o (yielded ops act.tmps) = true then Oper.wp Tryd.prog o act w K Q else E := by
  have hw : Region.wanted o (yielded ops act.tmps) = true := by simp [Region.wanted, hgd]
  rw [if_pos hw]
  obtain ⟨a', cap', l', w', hrun, q1, q2, q3, q4⟩ := run_one w B o.type a n cap l L p ad c h hL hcap ht hn hx hx' hB
  unfold Oper.wp
  simp [execOp, ho, resolve, invoke, builtin, hs, hy, hrun, Result.andThen]
  exact hK _ _ _ _ q1 q2 q3 q4


end Go.Proofs.YtmlkpfkeeifgeaaDoor
