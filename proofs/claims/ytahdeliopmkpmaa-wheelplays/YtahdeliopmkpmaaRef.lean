/-
  The document's wheel in memory: a pair of slices; how it lasts; how a pair of rows grows; what place and At of the document do. Conditions: the pair lies where it is said to lie, its keys rise, fewer than 1000.
-/
import Derived.Test.YtahdeliopmkpmaaRefP
import Derived.Test.YtahdeliopmkpmaaOpens
import Derived.Test.YtahdeliopmkpmaaSetsW
import Derived.Deep.AppendLies
namespace Go.Proofs.Ytahdeliopmkpmaa
open Go.ChangeShapes Go.WideShapes Go.ChangeAt Go.RowKit Go.Maps

/-- The slices kv and av read as the keys and the deadlines of R. -/
structure WvAt (w : World) (kv av : Value) (R : List (Int × Int)) : Prop where
  ks : ∃ a c, kv = .slice a R.length c ∧ IntsAt w a R.length c (fs R)
  vs : ∃ a c, av = .slice a R.length c ∧ IntsAt w a R.length c (sn R)

theorem WvAt.below {w w' : World} {kv av : Value} {R : List (Int × Int)} (h : WvAt w kv av R) (hb : Below w.heap.size w w') : WvAt w' kv av R := by
  obtain ⟨⟨a1, c1, e1, h1⟩, ⟨a2, c2, e2, h2⟩⟩ := h
  exact ⟨⟨a1, c1, e1, h1.below hb⟩, ⟨a2, c2, e2, h2.below hb⟩⟩
theorem WvAt.congr {w w' : World} {kv av : Value} {R : List (Int × Int)} (h : WvAt w kv av R) (hb : w'.heap = w.heap) : WvAt w' kv av R := by
  obtain ⟨⟨a1, c1, e1, h1⟩, ⟨a2, c2, e2, h2⟩⟩ := h
  exact ⟨⟨a1, c1, e1, h1.congr hb⟩, ⟨a2, c2, e2, h2.congr hb⟩⟩
theorem WvAt.keep {w w' : World} {A : Nat → Prop} {kv av : Value} {R : List (Int × Int)} (h : WvAt w kv av R) (hk : Keep A w w') (hA : ∀ k, kv.ownBlock = some k ∨ av.ownBlock = some k → A k) : WvAt w' kv av R := by
  obtain ⟨⟨a1, c1, e1, h1⟩, ⟨a2, c2, e2, h2⟩⟩ := h
  subst e1 e2
  exact ⟨⟨a1, c1, rfl, h1.keep hk (fun x hx => hA _ (.inl (by rw [hx]; rfl)))⟩, ⟨a2, c2, rfl, h2.keep hk (fun x hx => hA _ (.inr (by rw [hx]; rfl)))⟩⟩
theorem WvAt.nil (w : World) : WvAt w (.slice none 0 0) (.slice none 0 0) [] :=
  ⟨⟨none, 0, rfl, ⟨rfl, Nat.le_refl _, Nat.zero_le _, fun _ hj => absurd hj (Nat.not_lt_zero _)⟩⟩, ⟨none, 0, rfl, ⟨rfl, Nat.le_refl _, Nat.zero_le _, fun _ hj => absurd hj (Nat.not_lt_zero _)⟩⟩⟩

/-- A pair of rows that grow, behind the block b. -/
structure OutAt (w : World) (b : Nat) (kv av : Value) (ks vs : List Int) : Prop where
  blk : w.heap[b]? = some (.cells #[kv, av] 28 (0, 0))
  own1 : w.ownsRow (b + 1) 3 1 kv ks.length (ic ks)
  own2 : w.ownsRow (b + 1) 3 1 av vs.length (ic vs)
  apart : ∀ k, kv.ownBlock = some k → av.ownBlock ≠ some k

theorem blk_c0 {w : World} {b : Nat} {x y : Value} {t : TypeId} {f : Nat × Nat} (h : w.heap[b]? = some (.cells #[x, y] t f)) : w.cell? ⟨b, 0, none⟩ = some x := by simp [World.cell?, h]
theorem blk_c1 {w : World} {b : Nat} {x y : Value} {t : TypeId} {f : Nat × Nat} (h : w.heap[b]? = some (.cells #[x, y] t f)) : w.cell? ⟨b, 1, none⟩ = some y := by simp [World.cell?, h]

section
variable {w w' : World} {b : Nat} {kv av : Value} {ks vs : List Int}
theorem OutAt.c0 (h : OutAt w b kv av ks vs) : w.cell? ⟨b, 0, none⟩ = some kv := by simp [World.cell?, h.blk]
theorem OutAt.c1 (h : OutAt w b kv av ks vs) : w.cell? ⟨b, 1, none⟩ = some av := by simp [World.cell?, h.blk]
theorem OutAt.fz (h : OutAt w b kv av ks vs) (o : Nat) : w.frozen? ⟨b, o, none⟩ = false := by simp [World.frozen?, h.blk]
theorem OutAt.lt (h : OutAt w b kv av ks vs) : b < w.heap.size := (Array.getElem?_eq_some_iff.1 h.blk).1
theorem OutAt.keep {A : Nat → Prop} (h : OutAt w b kv av ks vs) (hk : Keep A w w') (hA : ∀ k, b ≤ k → A k) : OutAt w' b kv av ks vs :=
  ⟨by rw [hk.block b h.lt (hA b (Nat.le_refl _))]; exact h.blk, owns_keep h.own1 hk (fun k e => hA k (by have := (h.own1.lt k e).1; omega)), owns_keep h.own2 hk (fun k e => hA k (by have := (h.own2.lt k e).1; omega)), h.apart⟩
theorem OutAt.new (w : World) : OutAt (w.alloc (.cells #[.slice none 0 0, .slice none 0 0] 28)) w.heap.size (.slice none 0 0) (.slice none 0 0) [] [] :=
  ⟨heap_alloc_new w _, World.ownsRow_nil _ _ _ _, World.ownsRow_nil _ _ _ _, fun k e => by simp [Value.ownBlock] at e⟩
theorem OutAt.reads {R : List (Int × Int)} (h : OutAt w b kv av (fs R) (sn R)) : WvAt w kv av R := by
  obtain ⟨a1, c1, e1, h1, _⟩ := owns_ints h.own1
  obtain ⟨a2, c2, e2, h2, _⟩ := owns_ints h.own2
  rw [fs_length] at e1 h1
  rw [sn_length] at e2 h2
  exact ⟨⟨a1, c1, e1, h1⟩, ⟨a2, c2, e2, h2⟩⟩
theorem OutAt.blocks (h : OutAt w b kv av ks vs) : ∀ k, kv.ownBlock = some k ∨ av.ownBlock = some k → b < k ∧ k < w.heap.size := by
  rintro k (e | e)
  · have := h.own1.lt k e; omega
  · have := h.own2.lt k e; omega

theorem heap_set0 {b : Nat} {x y u : Value} {t : TypeId} (h : w.heap[b]? = some (.cells #[x, y] t (0, 0))) : (w.setCell ⟨b, 0, none⟩ u).heap[b]? = some (.cells #[u, y] t (0, 0)) := by
  rw [heap_setCell_same w b 0 _ t _ h]; simp
theorem heap_set1 {b : Nat} {x y u : Value} {t : TypeId} (h : w.heap[b]? = some (.cells #[x, y] t (0, 0))) : (w.setCell ⟨b, 1, none⟩ u).heap[b]? = some (.cells #[x, u] t (0, 0)) := by
  rw [heap_setCell_same w b 1 _ t _ h]; simp

theorem OutAt.midK {wa w3 : World} (h : OutAt w b kv av ks vs) (hk : Keep (fun _ => True) w wa) (hgr : wa.grownBy w3 kv.ownBlock) : w3.cell? ⟨b, 0, none⟩ = some kv ∧ w3.frozen? ⟨b, 0, none⟩ = false := by
  have hb3 : w3.heap[b]? = some (.cells #[kv, av] 28 (0, 0)) := by
    rw [(keep_grown (A := fun k => kv.ownBlock ≠ some k) hgr (fun k e hn => hn e)).block b (Nat.lt_of_lt_of_le h.lt hk.size) (fun e => by have := (h.blocks b (.inl e)).1; omega), hk.block b h.lt trivial]
    exact h.blk
  exact ⟨blk_c0 hb3, by simp [World.frozen?, hb3]⟩
theorem OutAt.midA {wa w3 : World} (h : OutAt w b kv av ks vs) (hk : Keep (fun _ => True) w wa) (hgr : wa.grownBy w3 av.ownBlock) : w3.cell? ⟨b, 1, none⟩ = some av ∧ w3.frozen? ⟨b, 1, none⟩ = false := by
  have hb3 : w3.heap[b]? = some (.cells #[kv, av] 28 (0, 0)) := by
    rw [(keep_grown (A := fun k => av.ownBlock ≠ some k) hgr (fun k e hn => hn e)).block b (Nat.lt_of_lt_of_le h.lt hk.size) (fun e => by have := (h.blocks b (.inr e)).1; omega), hk.block b h.lt trivial]
    exact h.blk
  exact ⟨blk_c1 hb3, by simp [World.frozen?, hb3]⟩

theorem OutAt.pushK {wa w3 : World} {gg cp n : Nat} {x : Int} (h : OutAt w b kv av ks vs) (hn : ks.length = n) (hk : Keep (fun _ => True) w wa) (hgr : wa.grownBy w3 kv.ownBlock) (hown : w3.ownsRow (b + 1) 3 1 (.slice (some ⟨gg, 0, none⟩) (n + 1) cp) (n + 1) (ic ks ++ [.int .i64 x])) (hat : kv.ownBlock = some gg ∨ gg = wa.heap.size) :
    OutAt (w3.setCell ⟨b, 0, none⟩ (.slice (some ⟨gg, 0, none⟩) (n + 1) cp)) b (.slice (some ⟨gg, 0, none⟩) (n + 1) cp) av (ks ++ [x]) vs ∧ Keep (fun k => k < b) w (w3.setCell ⟨b, 0, none⟩ (.slice (some ⟨gg, 0, none⟩) (n + 1) cp)) := by
  subst hn
  have hl := h.lt
  have hs := hk.size
  have hlo : ∀ k, kv.ownBlock = some k → b < k := fun k e => (h.blocks k (.inl e)).1
  have k1 : Keep (fun k => kv.ownBlock ≠ some k) wa w3 := keep_grown hgr (fun k e hn => hn e)
  have hgb : b < gg := by have := (hown.lt gg rfl).1; omega
  have hb3 : w3.heap[b]? = some (.cells #[kv, av] 28 (0, 0)) := by
    rw [k1.block b (by omega) (fun e => by have := hlo b e; omega), hk.block b hl trivial]
    exact h.blk
  have ha3 : w3.ownsRow (b + 1) 3 1 av vs.length (ic vs) := owns_keep (owns_keep h.own2 hk (fun _ _ => trivial)) k1 (fun k e e2 => h.apart k e2 e)
  have ks3 : Keep (fun k => k ≠ b) w3 (w3.setCell ⟨b, 0, none⟩ (.slice (some ⟨gg, 0, none⟩) (ks.length + 1) cp)) := (Keep.refl _ w3).setCell (fun hn => hn rfl) _
  refine ⟨⟨heap_set0 hb3, ?_, owns_keep ha3 ks3 (fun k e => by have := (ha3.lt k e).1; omega), ?_⟩, ?_⟩
  · have e1 : ic (ks ++ [x]) = ic ks ++ [.int .i64 x] := by simp [ic]
    rw [e1, List.length_append]
    exact owns_keep hown ks3 (fun k e => by have := (hown.lt k e).1; omega)
  · intro k e e2
    have e3 : gg = k := by simpa [Value.ownBlock] using e
    subst e3
    rcases hat with h1 | h1
    · exact h.apart _ h1 e2
    · have := (h.blocks _ (.inr e2)).2
      omega
  · exact (((hk.mono fun _ _ _ => trivial).trans (k1.mono fun k _ hk e => by have := hlo k e; omega))).setCell (by show ¬ b < b; omega) _

theorem OutAt.pushA {wa w3 : World} {gg cp n : Nat} {x : Int} (h : OutAt w b kv av ks vs) (hn : vs.length = n) (hk : Keep (fun _ => True) w wa) (hgr : wa.grownBy w3 av.ownBlock) (hown : w3.ownsRow (b + 1) 3 1 (.slice (some ⟨gg, 0, none⟩) (n + 1) cp) (n + 1) (ic vs ++ [.int .i64 x])) (hat : av.ownBlock = some gg ∨ gg = wa.heap.size) :
    OutAt (w3.setCell ⟨b, 1, none⟩ (.slice (some ⟨gg, 0, none⟩) (n + 1) cp)) b kv (.slice (some ⟨gg, 0, none⟩) (n + 1) cp) ks (vs ++ [x]) ∧ Keep (fun k => k < b) w (w3.setCell ⟨b, 1, none⟩ (.slice (some ⟨gg, 0, none⟩) (n + 1) cp)) := by
  subst hn
  have hl := h.lt
  have hs := hk.size
  have hlo : ∀ k, av.ownBlock = some k → b < k := fun k e => (h.blocks k (.inr e)).1
  have k1 : Keep (fun k => av.ownBlock ≠ some k) wa w3 := keep_grown hgr (fun k e hn => hn e)
  have hgb : b < gg := by have := (hown.lt gg rfl).1; omega
  have hb3 : w3.heap[b]? = some (.cells #[kv, av] 28 (0, 0)) := by
    rw [k1.block b (by omega) (fun e => by have := hlo b e; omega), hk.block b hl trivial]
    exact h.blk
  have ha3 : w3.ownsRow (b + 1) 3 1 kv ks.length (ic ks) := owns_keep (owns_keep h.own1 hk (fun _ _ => trivial)) k1 (fun k e e2 => h.apart k e e2)
  have ks3 : Keep (fun k => k ≠ b) w3 (w3.setCell ⟨b, 1, none⟩ (.slice (some ⟨gg, 0, none⟩) (vs.length + 1) cp)) := (Keep.refl _ w3).setCell (fun hn => hn rfl) _
  refine ⟨⟨heap_set1 hb3, owns_keep ha3 ks3 (fun k e => by have := (ha3.lt k e).1; omega), ?_, ?_⟩, ?_⟩
  · have e1 : ic (vs ++ [x]) = ic vs ++ [.int .i64 x] := by simp [ic]
    rw [e1, List.length_append]
    exact owns_keep hown ks3 (fun k e => by have := (hown.lt k e).1; omega)
  · intro k e e2
    have e3 : gg = k := by simpa [Value.ownBlock] using e2
    subst e3
    rcases hat with h1 | h1
    · exact h.apart _ e h1
    · have := (h.blocks _ (.inl e)).2
      omega
  · exact (((hk.mono fun _ _ _ => trivial).trans (k1.mono fun k _ hk e => by have := hlo k e; omega))).setCell (by show ¬ b < b; omega) _
end

/-- An int is appended, as one step of a region that draws. -/
theorem step_int {ops : Array Oper} {o : Oper} {a : Act} {w : World} {K : Act → World → Prop} {Q : Exit → Act → World → Prop} {E : Prop} (hgd : o.guard = none) (s x : Operand)
    (ho : o.op = .call { callee := .builtin .append, args := #[s, x], argTypes := #[26, 26] }) (base : Nat) (v : Value) (n : Nat) (zs : List Int) (z : Int) (hs : a.eval s = v) (w0 : World) (hown : w0.ownsRow base 3 1 v n (ic zs))
    (hx : a.eval x = .slice (some ⟨w0.heap.size, 0, none⟩) 1 1) (hk : Keep (fun _ => True) w0 w) (hblk : w.heap[w0.heap.size]? = some (.cells #[.int .i64 z] 3 (0, 0))) (hn : n ≤ 1000) (hb : base ≤ w0.heap.size)
    (h : ∀ g cap w', w'.ownsRow base 3 1 (.slice (some ⟨g, 0, none⟩) (n + 1) cap) (n + 1) (ic zs ++ [.int .i64 z]) → w.grownBy w' v.ownBlock → (v.ownBlock = some g ∨ g = w.heap.size) → K (a.put o.dst (.slice (some ⟨g, 0, none⟩) (n + 1) cap)) w') :
    if Region.wanted o (yielded ops a.tmps) = true then Oper.wp Try.prog o a w K Q else E := by
  obtain ⟨ti, hi, hz0, hz1, hz2⟩ := info_parts info3
  have hsz := hk.size
  exact step_append_lies w hgd s x 26 ho base 3 ti (.int .i64 0) 1 8 Try.underlying26 hi hz0 hz1 hz2 rfl (by decide) v n (ic zs) hs (owns_keep hown hk (fun _ _ => trivial)) ⟨w0.heap.size, 0, none⟩ 1 1 [.int .i64 z] hx rfl (World.news_of_block hblk) (by simp [Value.oneCell']) (by decide) (by unfold maxLen; omega) (by omega) (by omega) _ rfl (fun g cap w' q1 q2 q3 _ => h g cap w' q1 q2 q3)

set_option maxRecDepth 100000 in
theorem place_hit (w : World) (kv av : Value) (R : List (Int × Int)) (h : WvAt w kv av R) (hr : Ris R) (hl : R.length ≤ 999) (i0 : Nat) (hi : i0 < R.length) :
    Calls Try.prog 34 #[.agg #[kv, av], .int .i64 (nthR R i0).1] w fun e w' => e = .returned (.int .i64 i0) ∧ Below w.heap.size w w' := by
  obtain ⟨⟨a1, c1, rfl, h1⟩, ⟨a2, c2, rfl, _⟩⟩ := h
  have hle := h1.hle
  have hc := h1.hcap
  unfold maxLen at hc
  have hb : Below w.heap.size w (w.alloc (.cells #[.slice a1 R.length c1, .slice a2 R.length c2] 28)) := (Below.refl _ w).alloc (Nat.le_refl _) _
  have H1 : Hid (IntsAt (w.alloc (.cells #[.slice a1 R.length c1, .slice a2 R.length c2] 28)) a1 R.length c1 (fs R)) := h1.below hb
  have HB : Hid (Below w.heap.size w (w.alloc (.cells #[.slice a1 R.length c1, .slice a2 R.length c2] 28))) := hb
  have HN : Hid (∀ j, j < i0 → (nthR R j).1 ≠ (nthR R i0).1) := fun j hj => by have := ris_nth hr hj hi; omega
  have HE : Hid (∀ i, (fs R).getD i 0 = (nthR R i).1) := fs_getD R
  clear h1 hb hr
  generalize R.length = n at *
  generalize hk : (nthR R i0).1 = k at *
  go_enter Try.func34, Try.ntmps34
  go_wp2
  go_loopw [5] (fun vi wr => ∃ i : Nat, vi = .int .i64 i ∧ i ≤ i0 ∧ wr = w.alloc (.cells #[.slice a1 n c1, .slice a2 n c2] 28)) (fun vi _ => i0 + 1 - (intOf vi).toNat)
  case atStart => exact ⟨0, rfl, Nat.zero_le _, rfl⟩
  case round =>
    obtain ⟨i, rfl, hi1, hwr⟩ := hrel
    subst hwr
    obtain ⟨b, off, rfl, hlt, hcell⟩ := H1.out.at_ i (by omega)
    rw [HE.out i] at hcell
    by_cases hc1 : i = i0
    · subst hc1
      rw [hk] at hcell
      clear hk
      go_wp2
      go_ret
      exact ⟨rfl, HB.out⟩
    · have hne := HN.out i (by omega)
      generalize (nthR R i).1 = z at hcell hne
      have hb1 : (z == k) = false := by simpa using hne
      clear hk hne
      go_wp2
      exact ⟨⟨i + 1, by simp, by omega, trivial⟩, by simp [intOf]; omega⟩

set_option maxRecDepth 100000 in
theorem place_miss (w : World) (kv av : Value) (R : List (Int × Int)) (h : WvAt w kv av R) (hl : R.length ≤ 999) (k : Int) (hk : hasR R k = false) :
    Calls Try.prog 34 #[.agg #[kv, av], .int .i64 k] w fun e w' => e = .returned (.int .i64 (-1)) ∧ Below w.heap.size w w' := by
  obtain ⟨⟨a1, c1, rfl, h1⟩, ⟨a2, c2, rfl, _⟩⟩ := h
  have hle := h1.hle
  have hc := h1.hcap
  unfold maxLen at hc
  have hb : Below w.heap.size w (w.alloc (.cells #[.slice a1 R.length c1, .slice a2 R.length c2] 28)) := (Below.refl _ w).alloc (Nat.le_refl _) _
  have H1 : Hid (IntsAt (w.alloc (.cells #[.slice a1 R.length c1, .slice a2 R.length c2] 28)) a1 R.length c1 (fs R)) := h1.below hb
  have HB : Hid (Below w.heap.size w (w.alloc (.cells #[.slice a1 R.length c1, .slice a2 R.length c2] 28))) := hb
  have HN : Hid (∀ j, j < R.length → (nthR R j).1 ≠ k) := fun j hj => hasR_not.1 hk _ (nthR_mem hj)
  have HE : Hid (∀ i, (fs R).getD i 0 = (nthR R i).1) := fs_getD R
  clear h1 hb hk
  generalize R.length = n at *
  go_enter Try.func34, Try.ntmps34
  go_wp2
  go_loopw [5] (fun vi wr => ∃ i : Nat, vi = .int .i64 i ∧ i ≤ n ∧ wr = w.alloc (.cells #[.slice a1 n c1, .slice a2 n c2] 28)) (fun vi _ => n - (intOf vi).toNat)
  case atStart => exact ⟨0, rfl, Nat.zero_le _, rfl⟩
  case round =>
    obtain ⟨i, rfl, hi1, hwr⟩ := hrel
    subst hwr
    by_cases hc1 : i < n
    · obtain ⟨b, off, rfl, hlt, hcell⟩ := H1.out.at_ i (by omega)
      rw [HE.out i] at hcell
      have hne := HN.out i (by omega)
      generalize (nthR R i).1 = z at hcell hne
      have hb1 : (z == k) = false := by simpa using hne
      clear hne
      go_wp2
      exact ⟨⟨i + 1, by simp, by omega, trivial⟩, by simp [intOf]; omega⟩
    · obtain rfl : n = i := by omega
      go_wp2
      go_ret
      exact ⟨rfl, HB.out⟩

set_option maxRecDepth 100000 in
theorem rat_any (w : World) (kv av : Value) (R : List (Int × Int)) (h : WvAt w kv av R) (hr : Ris R) (hl : R.length ≤ 999) (k : Int) :
    Calls Try.prog 21 #[.agg #[kv, av], .int .i64 k] w fun e w' => e = .returned (.tuple #[.int .i64 (getR R k), .bool (hasR R k)]) ∧ Below w.heap.size w w' := by
  have hb : Below w.heap.size w (w.alloc (.cells #[kv, av] 28)) := (Below.refl _ w).alloc (Nat.le_refl _) _
  have hv := h.below hb
  cases hh : hasR R k with
  | false =>
    rw [getR_not hh]
    have hp := place_miss _ _ _ _ hv hl k hh
    clear hv h hr
    go_enter Try.func21, Try.ntmps21
    go_wp2_with fail
    refine hp.mono ?_
    rintro e w1 ⟨rfl, hb1⟩
    go_wp2
    go_ret2
    exact ⟨rfl, hb.trans (hb1.mono hb.size)⟩
  | true =>
    obtain ⟨i, hi, hk⟩ := hasR_nth hh
    have hg := getR_nth hr hi
    rw [hk] at hg
    have hp := place_hit _ _ _ _ hv hr hl i hi
    rw [hk] at hp
    rw [hg]
    have hs := sn_getD R i
    have hbx : (w.alloc (.cells #[kv, av] 28)).cell? ⟨w.heap.size, 1, none⟩ = some av := blk_c1 (heap_alloc_new w _)
    clear hh hg hr hk
    go_enter Try.func21, Try.ntmps21
    go_wp2_with fail
    refine hp.mono ?_
    rintro e w1 ⟨rfl, hb1⟩
    have hw : w.heap.size < (w.alloc (.cells #[kv, av] 28)).heap.size := World.block_lt_of_cell? _ _ hbx
    have hbx1 := (hb1.cell (p := ⟨w.heap.size, 1, none⟩) hw).trans hbx
    obtain ⟨_, ⟨a2, c2, rfl, h2⟩⟩ := hv.below hb1
    have hle := h2.hle
    have hc := h2.hcap
    unfold maxLen at hc
    obtain ⟨b, off, rfl, hlt, hcell⟩ := h2.at_ i hi
    rw [hs] at hcell
    have HB : Hid (Below w.heap.size w w1) := hb.trans (hb1.mono hb.size)
    clear hp hb1 hb h2 hv hbx h hs
    go_wp2
    go_ret2
    exact ⟨rfl, HB.out⟩

end Go.Proofs.Ytahdeliopmkpmaa
