/-
  Hosts as a list and as cells; where a fleet lies: a block, a row of hosts, drains; how it lasts, and how one of its hosts is written. Conditions: it lies where it is said to lie.
-/
import Derived.Test.YtmlkpfkeeifgeaaDoorRow
import Derived.Test.YtmlkpfkeeifgeaaDoorSt
import Derived.Deep.AppendLies
namespace Go.Proofs.YtmlkpfkeeifgeaaDoor
open Go.ChangeShapes Go.WideShapes Go.ChangeAt Go.RowKit

/-- A host: its name, its state, does it leave? -/
structure Hs where
  nm : ByteArray
  st : Int
  lv : Bool
def z0 : Hs := ⟨⟨#[]⟩, 0, false⟩
/-- The host at a place. -/
def atH (H : List Hs) (i : Nat) : Hs := H.getD i z0
def hn (H : List Hs) : List ByteArray := H.map Hs.nm
def hz (H : List Hs) : List Int := H.map Hs.st
theorem hn_length (H : List Hs) : (hn H).length = H.length := List.length_map _
theorem hz_length (H : List Hs) : (hz H).length = H.length := List.length_map _
theorem atH_eq {H : List Hs} {i : Nat} (h : i < H.length) : atH H i = H[i] := by simp [atH, List.getD, h]
theorem hn_getD (H : List Hs) (i : Nat) : (hn H).getD i ⟨#[]⟩ = (atH H i).nm := by
  unfold hn atH
  simp only [List.getD, List.getElem?_map]
  cases H[i]? <;> rfl
theorem hz_getD (H : List Hs) (i : Nat) : (hz H).getD i 0 = (atH H i).st := by
  unfold hz atH
  simp only [List.getD, List.getElem?_map]
  cases H[i]? <;> rfl
theorem takeH_snoc {H : List Hs} {j : Nat} (h : j < H.length) : H.take (j + 1) = H.take j ++ [atH H j] := by
  rw [List.take_add_one]
  congr 1
  simp [atH, List.getD, h]
/-- Another state, another mark, of the host at a place. -/
def setS (H : List Hs) (i : Nat) (s : Int) : List Hs := H.set i ⟨(atH H i).nm, s, (atH H i).lv⟩
def setV (H : List Hs) (i : Nat) (b : Bool) : List Hs := H.set i ⟨(atH H i).nm, (atH H i).st, b⟩
theorem setS_length (H : List Hs) (i : Nat) (s : Int) : (setS H i s).length = H.length := by simp [setS]
theorem setV_length (H : List Hs) (i : Nat) (b : Bool) : (setV H i b).length = H.length := by simp [setV]
theorem set_self {H : List Hs} {i : Nat} (h : i < H.length) : H.set i (atH H i) = H := by
  rw [atH_eq h]
  exact List.set_getElem_self h
theorem setS_self {H : List Hs} {i : Nat} (h : i < H.length) : setS H i (atH H i).st = H := set_self h
theorem hn_setS {H : List Hs} {i : Nat} (h : i < H.length) (s : Int) : hn (setS H i s) = hn H := by
  unfold hn setS
  rw [List.map_set]
  have : (atH H i).nm = (List.map Hs.nm H)[i]'(by simpa using h) := by simp [atH_eq h]
  rw [this]
  exact List.set_getElem_self _
theorem hn_setV {H : List Hs} {i : Nat} (h : i < H.length) (b : Bool) : hn (setV H i b) = hn H := by
  unfold hn setV
  rw [List.map_set]
  have : (atH H i).nm = (List.map Hs.nm H)[i]'(by simpa using h) := by simp [atH_eq h]
  rw [this]
  exact List.set_getElem_self _
theorem hz_setS (H : List Hs) (i : Nat) (s : Int) : hz (setS H i s) = (hz H).set i s := by simp [hz, setS, List.map_set]

/-- Hosts as cells. -/
def hcs : List Hs → List Value
  | [] => []
  | h :: l => .string h.nm :: .int .i64 h.st :: .bool h.lv :: hcs l
theorem hcs_length : ∀ l, (hcs l).length = l.length * 3
  | [] => rfl
  | h :: l => by
    have := hcs_length l
    simp [hcs, this]
    omega
theorem hcs_append : ∀ l m, hcs (l ++ m) = hcs l ++ hcs m
  | [], _ => rfl
  | h :: l, m => by simp [hcs, hcs_append l m]
theorem hcs_one : ∀ l, ∀ u ∈ hcs l, u.oneCell' = true
  | [], u, h => by simp [hcs] at h
  | p :: l, u, h => by
    simp [hcs] at h
    rcases h with rfl | rfl | rfl | h
    · rfl
    · rfl
    · rfl
    · exact hcs_one l u h
theorem hcs_get : ∀ l i, i < l.length → (hcs l)[i * 3]? = some (.string (atH l i).nm) ∧ (hcs l)[i * 3 + 1]? = some (.int .i64 (atH l i).st) ∧ (hcs l)[i * 3 + 2]? = some (.bool (atH l i).lv)
  | [], i, h => by simp at h
  | p :: l, 0, h => by simp [hcs, atH]
  | p :: l, i + 1, h => by
    have := hcs_get l i (by simpa using h)
    have e1 : (i + 1) * 3 = i * 3 + 1 + 1 + 1 := by omega
    rw [e1]
    simpa [hcs, atH] using this
theorem hcs_set : ∀ (l : List Hs) (i : Nat) (p : Hs), hcs (l.set i p) = (((hcs l).set (i * 3) (.string p.nm)).set (i * 3 + 1) (.int .i64 p.st)).set (i * 3 + 2) (.bool p.lv)
  | [], i, p => by simp [hcs]
  | q :: l, 0, p => by simp [hcs]
  | q :: l, i + 1, p => by
    have e1 : (i + 1) * 3 = i * 3 + 1 + 1 + 1 := by omega
    rw [e1]
    simp [hcs, hcs_set l i p]
theorem set_same {l : List Value} {i : Nat} {v : Value} (h : l[i]? = some v) : l.set i v = l := by
  obtain ⟨h1, rfl⟩ := List.getElem?_eq_some_iff.1 h
  exact List.set_getElem_self h1
theorem hcs_setS {H : List Hs} {i : Nat} (h : i < H.length) (s : Int) : hcs (setS H i s) = (hcs H).set (i * 3 + 1) (.int .i64 s) := by
  obtain ⟨h0, h1, h2⟩ := hcs_get H i h
  unfold setS
  rw [hcs_set]
  dsimp only
  rw [set_same h0]
  refine set_same ?_
  rw [List.getElem?_set_ne (by omega)]
  exact h2
theorem hcs_setV {H : List Hs} {i : Nat} (h : i < H.length) (b : Bool) : hcs (setV H i b) = (hcs H).set (i * 3 + 2) (.bool b) := by
  obtain ⟨h0, h1, h2⟩ := hcs_get H i h
  unfold setV
  rw [hcs_set]
  dsimp only
  rw [set_same h0, set_same h1]
theorem info97 : (Tryd.prog.info? 97).map (fun i => (i.zero, i.size, i.bytes)) = some (some (.agg #[.string ⟨#[]⟩, .int .i64 0, .bool false]), 3, 32) := by kernel_rfl

theorem own_bk {a : Option Addr} {n c k : Nat} : (Value.slice a n c).ownBlock = some k ↔ bk a k := by
  unfold bk
  cases a with
  | none => simp [Value.ownBlock]
  | some x => simp [Value.ownBlock]
theorem owns_keep {w w' : World} {A : Nat → Prop} {base n : Nat} {e : TypeId} {size : Nat} {v : Value} {xs : List Value} (h : w.ownsRow base e size v n xs) (hk : Keep A w w') (hA : ∀ k, v.ownBlock = some k → A k) : w'.ownsRow base e size v n xs := by
  refine ⟨h.1, ?_⟩
  rcases h.2 with hn | ⟨g, cap, cur, rfl, hb, hg, rest⟩
  · exact .inl hn
  · refine .inr ⟨g, cap, cur, rfl, hb, ?_, rest⟩
    rw [hk.block g (lt_of_heap hg) (hA g rfl)]
    exact hg

theorem blk4 {w : World} {g : Nat} {x y z u : Value} {t : TypeId} (h : w.heap[g]? = some (.cells #[x, y, z, u] t (0, 0))) :
    w.cell? ⟨g, 0, none⟩ = some x ∧ w.cell? ⟨g, 1, none⟩ = some y ∧ w.cell? ⟨g, 2, none⟩ = some z ∧ w.cell? ⟨g, 3, none⟩ = some u ∧ g < w.heap.size :=
  ⟨by simp [World.cell?, h], by simp [World.cell?, h], by simp [World.cell?, h], by simp [World.cell?, h], lt_of_heap h⟩
theorem fz4 {w : World} {g : Nat} {x y z u : Value} {t : TypeId} (h : w.heap[g]? = some (.cells #[x, y, z, u] t (0, 0))) (o : Nat) : w.frozen? ⟨g, o, none⟩ = false := by simp [World.frozen?, h]

/-- The row's slice, and what its cells hold. -/
theorem own_rows {w : World} {base n c : Nat} {a : Option Addr} {H : List Hs} (h : w.ownsRow base 97 3 (.slice a n c) n (hcs H)) : n ≤ c ∧ c ≤ maxLen ∧ H.length = n ∧ ∀ i, i < n → ∃ b, a = some ⟨b, 0, none⟩ ∧ base ≤ b ∧ b < w.heap.size ∧
    w.cell? ⟨b, i * 3, none⟩ = some (.string (atH H i).nm) ∧ w.cell? ⟨b, i * 3 + 1, none⟩ = some (.int .i64 (atH H i).st) ∧ w.cell? ⟨b, i * 3 + 2, none⟩ = some (.bool (atH H i).lv) ∧ ∀ o, w.frozen? ⟨b, o, none⟩ = false := by
  have h0 := h
  obtain ⟨hl, hcase⟩ := h
  rw [hcs_length] at hl
  have hl2 : H.length = n := by omega
  rcases hcase with ⟨e1, h5⟩ | ⟨g, cap, cur, e1, hb, hg, hn, hcap, _, _⟩
  · injection e1 with q1 q2 q3
    subst q3 h5
    exact ⟨Nat.le_refl _, Nat.zero_le _, hl2, fun i hi => absurd hi (Nat.not_lt_zero _)⟩
  · injection e1 with q1 q2 q3
    subst q1 q3
    refine ⟨hn, hcap, hl2, fun i hi => ⟨g, rfl, hb, lt_of_heap hg, ?_⟩⟩
    have hx := hcs_get H i (by omega)
    have e0 : ∀ k, ((⟨g, 0, none⟩ : Addr).add k) = ⟨g, k, none⟩ := fun k => by unfold Addr.add; split <;> simp_all
    have q0 := h0.cells (g := g) rfl (i * 3) _ hx.1
    have q1 := h0.cells (g := g) rfl (i * 3 + 1) _ hx.2.1
    have q2 := h0.cells (g := g) rfl (i * 3 + 2) _ hx.2.2
    rw [e0] at q0 q1 q2
    exact ⟨q0, q1, q2, fun o => h0.frozenAt o⟩

/-- A fleet lies at block f: connections of a host, a guard, hosts, drains that wait and that are under way; none of its blocks is one of A. -/
structure FIn (w : World) (A : Nat → Prop) (f : Nat) (e gd : Int) (H : List Hs) (L M : List Dr) : Prop where
  ex : ∃ g a c, w.heap[f]? = some (.cells #[.pointer (some ⟨g, 0, none⟩), .int .i64 e, .int .i64 gd, .slice a H.length c] 73 (0, 0)) ∧
    w.ownsRow 0 97 3 (.slice a H.length c) H.length (hcs H) ∧ (∀ k, bk a k → ¬ A k ∧ k ≠ f) ∧ DIn w (fun k => A k ∨ k = f ∨ bk a k) g 0 L M
  gout : ¬ A f
  guard : ∀ k, A k → k < w.heap.size
  tabs : St.Tabs w
  a0 : A 0

theorem tabs_keep {w w' : World} {A : Nat → Prop} (h : St.Tabs w) (hk : Keep A w w') (h0 : A 0) : St.Tabs w' :=
  ⟨Nat.lt_of_lt_of_le h.pos hk.size, fun j hj => hk.cell (h.leads j hj) h0⟩

section
variable {w w' : World} {A B : Nat → Prop} {f : Nat} {e gd : Int} {H : List Hs} {L M : List Dr}
theorem FIn.lt (h : FIn w A f e gd H L M) : f < w.heap.size := by
  obtain ⟨g, a, c, h1, _⟩ := h.ex
  exact lt_of_heap h1
theorem FIn.drewN (h : FIn w A f e gd H L M) (q : Nat) : FIn (w.drewN q) A f e gd H L M := by
  obtain ⟨g, a, c, h1, h2, h3, h4⟩ := h.ex
  exact ⟨⟨g, a, c, h1, h2, h3, h4.drewN q⟩, h.gout, h.guard, ⟨h.tabs.pos, h.tabs.leads⟩, h.a0⟩
theorem FIn.drew (h : FIn w A f e gd H L M) : FIn w.drew A f e gd H L M := h.drewN 1
/-- It lasts while what is not its own is made or written, but the table, and what is new is none of its blocks. -/
theorem FIn.keep (h : FIn w A f e gd H L M) (hk : Keep (fun k => ¬ A k ∨ k = 0) w w') (hB : ∀ k, B k → A k ∨ w.heap.size ≤ k) (hs : ∀ k, B k → k < w'.heap.size) (b0 : B 0) : FIn w' B f e gd H L M := by
  have hl := h.lt
  obtain ⟨g, a, c, h1, h2, h3, h4⟩ := h.ex
  have hlt : ∀ k, bk a k → k < w.heap.size := fun k hk => (h2.lt k (own_bk.2 hk)).2
  refine ⟨⟨g, a, c, by rw [hk.block f hl (.inl h.gout)]; exact h1, owns_keep h2 hk (fun k e => .inl (h3 k (own_bk.1 e)).1), fun k e => ⟨fun hb => ?_, (h3 k e).2⟩, ?_⟩, fun hb => ?_, hs, tabs_keep h.tabs hk (.inr rfl), b0⟩
  · rcases hB k hb with hb | hb
    · exact (h3 k e).1 hb
    · have := hlt k e; omega
  · refine h4.keep (hk.mono fun k _ hn => .inl (fun hA => hn (.inl hA))) ?_ ?_
    · rintro k (hb | hb)
      · exact (hB k hb).imp .inl id
      · exact .inl (.inr hb)
    · rintro k (hb | rfl | hb)
      · exact hs k hb
      · exact Nat.lt_of_lt_of_le hl hk.size
      · exact Nat.lt_of_lt_of_le (hlt k hb) hk.size
  · rcases hB f hb with hb | hb
    · exact h.gout hb
    · omega
theorem FIn.belowN (h : FIn w A f e gd H L M) (hb : Below w.heap.size w w') : FIn w' (fun k => A k ∨ (w.heap.size ≤ k ∧ k < w'.heap.size)) f e gd H L M :=
  h.keep (keep_below hb) (fun k hk => hk.imp id (fun e => e.1)) (fun k hk => by
    rcases hk with hk | hk
    · exact Nat.lt_of_lt_of_le (h.guard k hk) hb.size
    · exact hk.2) (.inl h.a0)
theorem FIn.below (h : FIn w A f e gd H L M) (hb : Below w.heap.size w w') : FIn w' A f e gd H L M :=
  h.keep (keep_below hb) (fun _ hk => .inl hk) (fun k hk => Nat.lt_of_lt_of_le (h.guard k hk) hb.size) h.a0
theorem FIn.fewer (h : FIn w A f e gd H L M) (hB : ∀ k, B k → A k) (b0 : B 0) : FIn w B f e gd H L M :=
  h.keep (Keep.refl _ _) (fun k hk => .inl (hB k hk)) (fun k hk => h.guard k (hB k hk)) b0

/-- Its cells. -/
theorem FIn.cells (h : FIn w A f e gd H L M) : ∃ g a c, w.cell? ⟨f, 0, none⟩ = some (.pointer (some ⟨g, 0, none⟩)) ∧ w.cell? ⟨f, 1, none⟩ = some (.int .i64 e) ∧ w.cell? ⟨f, 2, none⟩ = some (.int .i64 gd) ∧ w.cell? ⟨f, 3, none⟩ = some (.slice a H.length c) ∧ (∀ o, w.frozen? ⟨f, o, none⟩ = false) ∧
    H.length ≤ c ∧ c ≤ maxLen ∧ f < w.heap.size ∧ DIn w (fun k => A k ∨ k = f ∨ bk a k) g 0 L M ∧
    ∀ i, i < H.length → ∃ b, a = some ⟨b, 0, none⟩ ∧ b < w.heap.size ∧ w.cell? ⟨b, i * 3, none⟩ = some (.string (atH H i).nm) ∧ w.cell? ⟨b, i * 3 + 1, none⟩ = some (.int .i64 (atH H i).st) ∧ w.cell? ⟨b, i * 3 + 2, none⟩ = some (.bool (atH H i).lv) ∧ ∀ o, w.frozen? ⟨b, o, none⟩ = false := by
  obtain ⟨g, a, c, h1, h2, h3, h4⟩ := h.ex
  obtain ⟨c0, c1, c2, c3, c4⟩ := blk4 h1
  obtain ⟨r1, r2, _, r3⟩ := own_rows h2
  refine ⟨g, a, c, c0, c1, c2, c3, fun o => fz4 h1 o, r1, r2, c4, h4, fun i hi => ?_⟩
  obtain ⟨b, e1, _, e2⟩ := r3 i hi
  exact ⟨b, e1, e2⟩
/-- Its drains, and what comes of a call of theirs. -/
theorem FIn.drains (h : FIn w A f e gd H L M) : ∃ g, w.cell? ⟨f, 0, none⟩ = some (.pointer (some ⟨g, 0, none⟩)) ∧ ∃ B : Nat → Prop, DIn w B g 0 L M ∧ (∀ k, A k → B k) ∧ B f ∧
    ∀ w' L' M', DIn w' B g 0 L' M' → Keep B w w' → FIn w' A f e gd H L' M' ∧ Keep A w w' := by
  obtain ⟨g, a, c, h1, h2, h3, h4⟩ := h.ex
  refine ⟨g, (blk4 h1).1, _, h4, fun k hk => .inl hk, .inr (.inl rfl), fun w' L' M' hd hk => ?_⟩
  have hka : Keep A w w' := hk.mono fun k _ hA => .inl hA
  exact ⟨⟨⟨g, a, c, by rw [hk.block f (lt_of_heap h1) (.inr (.inl rfl))]; exact h1, owns_keep h2 hk (fun k e => .inr (.inr (own_bk.1 e))), h3, hd⟩, h.gout, fun k hA => Nat.lt_of_lt_of_le (h.guard k hA) hk.size, tabs_keep h.tabs hka h.a0, h.a0⟩, hka⟩
/-- A host of its row is written. -/
theorem FIn.setRow (h : FIn w A f e gd H L M) {b : Nat} {n c : Nat} (hc : w.cell? ⟨f, 3, none⟩ = some (.slice (some ⟨b, 0, none⟩) n c)) (j : Nat) (u : Value) (H' : List Hs) (hl : H'.length = H.length) (hH : hcs H' = (hcs H).set j u) :
    FIn (w.setCell ⟨b, j, none⟩ u) A f e gd H' L M ∧ Keep A w (w.setCell ⟨b, j, none⟩ u) := by
  obtain ⟨g, a, c', h1, h2, h3, h4⟩ := h.ex
  obtain ⟨-, -, -, c3, -⟩ := blk4 h1
  rw [hc] at c3
  injection c3 with c3
  injection c3 with q1 q2 q3
  subst q1 q2 q3
  have hb : ¬ A b ∧ b ≠ f := h3 b ⟨_, rfl, rfl⟩
  obtain ⟨s1, s2⟩ := h2.stored j u
  have hk : Keep (fun k => k ≠ b) w (w.setCell ⟨b, j, none⟩ u) := (Keep.refl _ w).setCell (fun hn => hn rfl) _
  have hka : Keep A w (w.setCell ⟨b, j, none⟩ u) := hk.mono (fun k _ hA e => hb.1 (e ▸ hA))
  refine ⟨⟨⟨g, some ⟨b, 0, none⟩, c, ?_, ?_, h3, ?_⟩, h.gout, fun k hA => Nat.lt_of_lt_of_le (h.guard k hA) hk.size, tabs_keep h.tabs hka h.a0, h.a0⟩, hka⟩
  · rw [hk.block f (lt_of_heap h1) (fun e => hb.2 e.symm), hl]; exact h1
  · rw [hl, hH]; exact s1
  · refine h4.keep (hk.mono fun k _ hn e => hn (.inr (.inr ⟨_, rfl, e.symm⟩))) (fun k hk => .inl hk) ?_
    intro k hk2
    exact Nat.lt_of_lt_of_le (h4.guard k hk2) hk.size
theorem FIn.setS (h : FIn w A f e gd H L M) {b n c i : Nat} (hc : w.cell? ⟨f, 3, none⟩ = some (.slice (some ⟨b, 0, none⟩) n c)) (hi : i < H.length) (s : Int) :
    FIn (w.setCell ⟨b, i * 3 + 1, none⟩ (.int .i64 s)) A f e gd (setS H i s) L M ∧ Keep A w (w.setCell ⟨b, i * 3 + 1, none⟩ (.int .i64 s)) :=
  h.setRow hc _ _ _ (setS_length _ _ _) (hcs_setS hi s)
theorem FIn.setV (h : FIn w A f e gd H L M) {b n c i : Nat} (hc : w.cell? ⟨f, 3, none⟩ = some (.slice (some ⟨b, 0, none⟩) n c)) (hi : i < H.length) (v : Bool) :
    FIn (w.setCell ⟨b, i * 3 + 2, none⟩ (.bool v)) A f e gd (setV H i v) L M ∧ Keep A w (w.setCell ⟨b, i * 3 + 2, none⟩ (.bool v)) :=
  h.setRow hc _ _ _ (setV_length _ _ _) (hcs_setV hi v)
/-- Another row of hosts. -/
theorem FIn.newRow (h : FIn w A f e gd H L M) {w3 : World} {B : Nat → Prop} {g : Nat} {a : Option Addr} {c n : Nat} {H' : List Hs} {L' M' : List Dr} (hg : w.cell? ⟨f, 0, none⟩ = some (.pointer (some ⟨g, 0, none⟩)))
    (hk : Keep (fun k => A k ∨ k = f) w w3) (hd : DIn w3 B g 0 L' M') (hB : ∀ k, A k ∨ k = f ∨ bk a k → B k) (hn : H'.length = n) (ho : w3.ownsRow 0 97 3 (.slice a n c) n (hcs H')) (ha : ∀ k, bk a k → ¬ A k ∧ k ≠ f) :
    FIn (w3.setCell ⟨f, 3, none⟩ (.slice a n c)) A f e gd H' L' M' ∧ Keep A w (w3.setCell ⟨f, 3, none⟩ (.slice a n c)) := by
  obtain ⟨g', a', c', h1, h2, h3, h4⟩ := h.ex
  obtain ⟨c0, -⟩ := blk4 h1
  rw [hg] at c0
  injection c0 with c0
  injection c0 with c0
  injection c0 with c0
  injection c0 with c0
  subst c0
  have h13 : w3.heap[f]? = _ := (hk.block f (lt_of_heap h1) (.inr rfl)).trans h1
  have hks : Keep (fun k => k ≠ f) w3 (w3.setCell ⟨f, 3, none⟩ (.slice a n c)) := (Keep.refl _ w3).setCell (fun hn => hn rfl) _
  have hka : Keep A w (w3.setCell ⟨f, 3, none⟩ (.slice a n c)) := (hk.mono fun k _ hA => .inl hA).trans (hks.mono fun k _ hA e => h.gout (e ▸ hA))
  have hlt : ∀ k, A k ∨ k = f ∨ bk a k → k < w3.heap.size := fun k hk => hd.guard k (hB k hk)
  subst hn
  refine ⟨⟨⟨g, a, c, ?_, owns_keep ho hks (fun k e => (ha k (own_bk.1 e)).2), ha, ?_⟩, h.gout, fun k hA => Nat.lt_of_lt_of_le (h.guard k hA) hka.size, tabs_keep h.tabs hka h.a0, h.a0⟩, hka⟩
  · rw [heap_setCell_same w3 f 3 _ 73 _ h13]
    simp
  · refine hd.keep (hks.mono fun k _ hn e => hn (hB k (.inr (.inl e)))) (fun k hk => .inl (hB k hk)) ?_
    intro k hk2
    exact Nat.lt_of_lt_of_le (hlt k hk2) hks.size
end

end Go.Proofs.YtmlkpfkeeifgeaaDoor
