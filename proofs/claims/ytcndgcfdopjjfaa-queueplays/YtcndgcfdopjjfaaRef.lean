/-
  The document's queue in memory: its room and a pair of slices; how it lasts; how a pair of rows grows; what New and Place of the document do. Conditions: the pair lies where it is said to lie, at most 100 wait.
-/
import Derived.Test.YtcndgcfdopjjfaaRoomP
import Derived.Deep.AppendLies
namespace Go.Proofs.Ytcndgcfdopjjfaa
open Go.ChangeShapes Go.WideShapes Go.ChangeAt Go.RowKit

def fs (L : List Wt) : List Int := L.map Prod.fst
def sn (L : List Wt) : List Int := L.map Prod.snd
theorem fs_length (L : List Wt) : (fs L).length = L.length := List.length_map _
theorem sn_length (L : List Wt) : (sn L).length = L.length := List.length_map _
theorem fs_append (L M : List Wt) : fs (L ++ M) = fs L ++ fs M := List.map_append
theorem sn_append (L M : List Wt) : sn (L ++ M) = sn L ++ sn M := List.map_append
theorem fs_getD (L : List Wt) (i : Nat) : (fs L).getD i 0 = (nthW L i).1 := ids_getD L i
theorem sn_getD (L : List Wt) (i : Nat) : (sn L).getD i 0 = (nthW L i).2 := ats_getD L i

/-- The slices kv and av read as the ids and the ticks of L. -/
structure QvAt (w : World) (kv av : Value) (L : List Wt) : Prop where
  ks : ∃ a c, kv = .slice a L.length c ∧ IntsAt w a L.length c (fs L) ∧ (a = none → L.length = 0 ∧ c = 0)
  vs : ∃ a c, av = .slice a L.length c ∧ IntsAt w a L.length c (sn L) ∧ (a = none → L.length = 0 ∧ c = 0)

theorem QvAt.below {w w' : World} {kv av : Value} {L : List Wt} (h : QvAt w kv av L) (hb : Below w.heap.size w w') : QvAt w' kv av L := by
  obtain ⟨⟨a1, c1, e1, h1, n1⟩, ⟨a2, c2, e2, h2, n2⟩⟩ := h
  exact ⟨⟨a1, c1, e1, h1.below hb, n1⟩, ⟨a2, c2, e2, h2.below hb, n2⟩⟩
theorem QvAt.keep {w w' : World} {A : Nat → Prop} {kv av : Value} {L : List Wt} (h : QvAt w kv av L) (hk : Keep A w w') (hA : ∀ k, kv.ownBlock = some k ∨ av.ownBlock = some k → A k) : QvAt w' kv av L := by
  obtain ⟨⟨a1, c1, e1, h1, n1⟩, ⟨a2, c2, e2, h2, n2⟩⟩ := h
  subst e1 e2
  exact ⟨⟨a1, c1, rfl, h1.keep hk (fun x hx => hA _ (.inl (by rw [hx]; rfl))), n1⟩, ⟨a2, c2, rfl, h2.keep hk (fun x hx => hA _ (.inr (by rw [hx]; rfl))), n2⟩⟩
theorem QvAt.nil (w : World) : QvAt w (.slice none 0 0) (.slice none 0 0) [] := ⟨⟨none, 0, rfl, IntsAt.nil w, fun _ => ⟨rfl, rfl⟩⟩, ⟨none, 0, rfl, IntsAt.nil w, fun _ => ⟨rfl, rfl⟩⟩⟩

theorem blk3 {w : World} {g : Nat} {x y z : Value} {t : TypeId} (h : w.heap[g]? = some (.cells #[x, y, z] t (0, 0))) :
    w.cell? ⟨g, 0, none⟩ = some x ∧ w.cell? ⟨g, 1, none⟩ = some y ∧ w.cell? ⟨g, 2, none⟩ = some z ∧ g < w.heap.size :=
  ⟨by simp [World.cell?, h], by simp [World.cell?, h], by simp [World.cell?, h], (Array.getElem?_eq_some_iff.1 h).1⟩
theorem fz3 {w : World} {g : Nat} {x y z : Value} {t : TypeId} (h : w.heap[g]? = some (.cells #[x, y, z] t (0, 0))) (o : Nat) : w.frozen? ⟨g, o, none⟩ = false := by simp [World.frozen?, h]
theorem heap_set3 {w : World} {g : Nat} {x y z u : Value} {t : TypeId} (h : w.heap[g]? = some (.cells #[x, y, z] t (0, 0))) :
    (w.setCell ⟨g, 0, none⟩ u).heap[g]? = some (.cells #[u, y, z] t (0, 0)) ∧ (w.setCell ⟨g, 1, none⟩ u).heap[g]? = some (.cells #[x, u, z] t (0, 0)) ∧ (w.setCell ⟨g, 2, none⟩ u).heap[g]? = some (.cells #[x, y, u] t (0, 0)) :=
  ⟨by rw [heap_setCell_same w g 0 _ t _ h]; simp, by rw [heap_setCell_same w g 1 _ t _ h]; simp, by rw [heap_setCell_same w g 2 _ t _ h]; simp⟩

/-- A queue of the document's in a block, with rows of its own that grow. -/
structure OutAt (w : World) (b : Nat) (S : Int) (kv av : Value) (ks vs : List Int) : Prop where
  blk : w.heap[b]? = some (.cells #[.int .i64 S, kv, av] 28 (0, 0))
  own1 : w.ownsRow (b + 1) 3 1 kv ks.length (ic ks)
  own2 : w.ownsRow (b + 1) 3 1 av vs.length (ic vs)
  apart : ∀ k, kv.ownBlock = some k → av.ownBlock ≠ some k

section
variable {w w' wa w3 : World} {b : Nat} {S : Int} {kv av v' : Value} {ks vs xs : List Int} {n : Nat}
theorem OutAt.c0 (h : OutAt w b S kv av ks vs) : w.cell? ⟨b, 0, none⟩ = some (.int .i64 S) := (blk3 h.blk).1
theorem OutAt.c1 (h : OutAt w b S kv av ks vs) : w.cell? ⟨b, 1, none⟩ = some kv := (blk3 h.blk).2.1
theorem OutAt.c2 (h : OutAt w b S kv av ks vs) : w.cell? ⟨b, 2, none⟩ = some av := (blk3 h.blk).2.2.1
theorem OutAt.fz (h : OutAt w b S kv av ks vs) (o : Nat) : w.frozen? ⟨b, o, none⟩ = false := fz3 h.blk o
theorem OutAt.lt (h : OutAt w b S kv av ks vs) : b < w.heap.size := lt_of_heap h.blk
theorem OutAt.keep {A : Nat → Prop} (h : OutAt w b S kv av ks vs) (hk : Keep A w w') (hA : ∀ k, b ≤ k → A k) : OutAt w' b S kv av ks vs :=
  ⟨by rw [hk.block b h.lt (hA b (Nat.le_refl _))]; exact h.blk, owns_keep h.own1 hk (fun k e => hA k (by have := (h.own1.lt k e).1; omega)), owns_keep h.own2 hk (fun k e => hA k (by have := (h.own2.lt k e).1; omega)), h.apart⟩
theorem OutAt.new (w : World) (S : Int) : OutAt (w.alloc (.cells #[.int .i64 S, .slice none 0 0, .slice none 0 0] 28)) w.heap.size S (.slice none 0 0) (.slice none 0 0) [] [] :=
  ⟨heap_alloc_new w _, World.ownsRow_nil _ _ _ _, World.ownsRow_nil _ _ _ _, fun k e => by simp [Value.ownBlock] at e⟩
theorem OutAt.reads {L : List Wt} (h : OutAt w b S kv av (fs L) (sn L)) : QvAt w kv av L := by
  obtain ⟨a1, c1, e1, h1, n1, _⟩ := owns_ints h.own1
  obtain ⟨a2, c2, e2, h2, n2, _⟩ := owns_ints h.own2
  rw [fs_length] at e1 h1 n1
  rw [sn_length] at e2 h2 n2
  exact ⟨⟨a1, c1, e1, h1, n1⟩, ⟨a2, c2, e2, h2, n2⟩⟩
theorem OutAt.blocks (h : OutAt w b S kv av ks vs) : ∀ k, kv.ownBlock = some k ∨ av.ownBlock = some k → b < k ∧ k < w.heap.size := by
  rintro k (e | e)
  · have := h.own1.lt k e; omega
  · have := h.own2.lt k e; omega

theorem OutAt.midK (h : OutAt w b S kv av ks vs) (hk : Keep (fun _ => True) w wa) (hgr : wa.grownBy w3 kv.ownBlock) : w3.heap[b]? = some (.cells #[.int .i64 S, kv, av] 28 (0, 0)) := by
  rw [(keep_grown (A := fun k => kv.ownBlock ≠ some k) hgr (fun k e hn => hn e)).block b (Nat.lt_of_lt_of_le h.lt hk.size) (fun e => by have := (h.blocks b (.inl e)).1; omega), hk.block b h.lt trivial]
  exact h.blk
theorem OutAt.midA (h : OutAt w b S kv av ks vs) (hk : Keep (fun _ => True) w wa) (hgr : wa.grownBy w3 av.ownBlock) : w3.heap[b]? = some (.cells #[.int .i64 S, kv, av] 28 (0, 0)) := by
  rw [(keep_grown (A := fun k => av.ownBlock ≠ some k) hgr (fun k e hn => hn e)).block b (Nat.lt_of_lt_of_le h.lt hk.size) (fun e => by have := (h.blocks b (.inr e)).1; omega), hk.block b h.lt trivial]
  exact h.blk

theorem OutAt.setK (h : OutAt w b S kv av ks vs) (hk : Keep (fun _ => True) w wa) (hgr : wa.grownBy w3 kv.ownBlock) (hn : xs.length = n) (hown : w3.ownsRow (b + 1) 3 1 v' n (ic xs)) (hat : v'.ownBlock = kv.ownBlock ∨ v'.ownBlock = some wa.heap.size) :
    OutAt (w3.setCell ⟨b, 1, none⟩ v') b S v' av xs vs ∧ Keep (fun k => k < b) w (w3.setCell ⟨b, 1, none⟩ v') := by
  subst hn
  have hl := h.lt
  have hs := hk.size
  have hlo : ∀ k, kv.ownBlock = some k → b < k := fun k e => (h.blocks k (.inl e)).1
  have k1 : Keep (fun k => kv.ownBlock ≠ some k) wa w3 := keep_grown hgr (fun k e hn => hn e)
  have hb3 := h.midK hk hgr
  have ha3 : w3.ownsRow (b + 1) 3 1 av vs.length (ic vs) := owns_keep (owns_keep h.own2 hk (fun _ _ => trivial)) k1 (fun k e e2 => h.apart k e2 e)
  have ks3 : Keep (fun k => k ≠ b) w3 (w3.setCell ⟨b, 1, none⟩ v') := (Keep.refl _ w3).setCell (fun hn => hn rfl) _
  refine ⟨⟨(heap_set3 hb3).2.1, owns_keep hown ks3 (fun k e => by have := (hown.lt k e).1; omega), owns_keep ha3 ks3 (fun k e => by have := (ha3.lt k e).1; omega), ?_⟩, ?_⟩
  · intro k e e2
    rcases hat with h1 | h1
    · exact h.apart k (h1 ▸ e) e2
    · rw [h1] at e
      cases e
      have := (h.blocks _ (.inr e2)).2
      omega
  · exact (((hk.mono fun _ _ _ => trivial).trans (k1.mono fun k _ hk e => by have := hlo k e; omega))).setCell (by show ¬ b < b; omega) _

theorem OutAt.setA (h : OutAt w b S kv av ks vs) (hk : Keep (fun _ => True) w wa) (hgr : wa.grownBy w3 av.ownBlock) (hn : xs.length = n) (hown : w3.ownsRow (b + 1) 3 1 v' n (ic xs)) (hat : v'.ownBlock = av.ownBlock ∨ v'.ownBlock = some wa.heap.size) :
    OutAt (w3.setCell ⟨b, 2, none⟩ v') b S kv v' ks xs ∧ Keep (fun k => k < b) w (w3.setCell ⟨b, 2, none⟩ v') := by
  subst hn
  have hl := h.lt
  have hs := hk.size
  have hlo : ∀ k, av.ownBlock = some k → b < k := fun k e => (h.blocks k (.inr e)).1
  have k1 : Keep (fun k => av.ownBlock ≠ some k) wa w3 := keep_grown hgr (fun k e hn => hn e)
  have hb3 := h.midA hk hgr
  have ha3 : w3.ownsRow (b + 1) 3 1 kv ks.length (ic ks) := owns_keep (owns_keep h.own1 hk (fun _ _ => trivial)) k1 (fun k e e2 => h.apart k e e2)
  have ks3 : Keep (fun k => k ≠ b) w3 (w3.setCell ⟨b, 2, none⟩ v') := (Keep.refl _ w3).setCell (fun hn => hn rfl) _
  refine ⟨⟨(heap_set3 hb3).2.2, owns_keep ha3 ks3 (fun k e => by have := (ha3.lt k e).1; omega), owns_keep hown ks3 (fun k e => by have := (hown.lt k e).1; omega), ?_⟩, ?_⟩
  · intro k e e2
    rcases hat with h1 | h1
    · exact h.apart k e (h1 ▸ e2)
    · rw [h1] at e2
      cases e2
      have := (h.blocks _ (.inl e)).2
      omega
  · exact (((hk.mono fun _ _ _ => trivial).trans (k1.mono fun k _ hk e => by have := hlo k e; omega))).setCell (by show ¬ b < b; omega) _
end

/-- An int is appended, as one step of a region that draws. -/
theorem step_int {ops : Array Oper} {o : Oper} {a : Act} {w : World} {K : Act → World → Prop} {Q : Exit → Act → World → Prop} {E : Prop} (hgd : o.guard = none) (s x : Operand)
    (ho : o.op = .call { callee := .builtin .append, args := #[s, x], argTypes := #[26, 26] }) (base : Nat) (v : Value) (n : Nat) (zs : List Int) (z : Int) (hs : a.eval s = v) (w0 : World) (hown : w0.ownsRow base 3 1 v n (ic zs))
    (hx : a.eval x = .slice (some ⟨w0.heap.size, 0, none⟩) 1 1) (hk : Keep (fun _ => True) w0 w) (hblk : w.heap[w0.heap.size]? = some (.cells #[.int .i64 z] 3 (0, 0))) (hn : n ≤ 1000) (hb : base ≤ w0.heap.size)
    (h : ∀ g cap w', w'.ownsRow base 3 1 (.slice (some ⟨g, 0, none⟩) (n + 1) cap) (n + 1) (ic (zs ++ [z])) → w.grownBy w' v.ownBlock → ((Value.slice (some ⟨g, 0, none⟩) (n + 1) cap).ownBlock = v.ownBlock ∨ (Value.slice (some ⟨g, 0, none⟩) (n + 1) cap).ownBlock = some w.heap.size) → K (a.put o.dst (.slice (some ⟨g, 0, none⟩) (n + 1) cap)) w') :
    if Region.wanted o (yielded ops a.tmps) = true then Oper.wp Try.prog o a w K Q else E := by
  obtain ⟨ti, hi, hz0, hz1, hz2⟩ := info_parts info3
  have hsz := hk.size
  refine step_append_lies w hgd s x 26 ho base 3 ti (.int .i64 0) 1 8 Try.underlying26 hi hz0 hz1 hz2 rfl (by decide) v n (ic zs) hs (owns_keep hown hk (fun _ _ => trivial)) ⟨w0.heap.size, 0, none⟩ 1 1 [.int .i64 z] hx rfl (World.news_of_block hblk) (by simp [Value.oneCell']) (by decide) (by unfold maxLen; omega) (by omega) (by omega) _ rfl (fun g cap w' q1 q2 q3 _ => h g cap w' (by rw [ic_append]; exact q1) q2 ?_)
  rcases q3 with q3 | q3
  · exact .inl (by rw [q3]; rfl)
  · exact .inr (by rw [q3]; rfl)

/-- A queue of the document's is written into the result's block. -/
theorem res_put {wr : World} {b : Nat} {x y z : Value} (h : wr.heap[b]? = some (.cells #[x, y, z] 28 (0, 0))) (u v t : Value) :
    (((wr.setCell ⟨b, 0, none⟩ u).setCell ⟨b, 1, none⟩ v).setCell ⟨b, 2, none⟩ t).heap[b]? = some (.cells #[u, v, t] 28 (0, 0)) ∧ Keep (fun k => k ≠ b) wr (((wr.setCell ⟨b, 0, none⟩ u).setCell ⟨b, 1, none⟩ v).setCell ⟨b, 2, none⟩ t) :=
  ⟨(heap_set3 (heap_set3 (heap_set3 h).1).2.1).2.2, (((Keep.refl _ wr).setCell (fun hn => hn rfl) _).setCell (fun hn => hn rfl) _).setCell (fun hn => hn rfl) _⟩

theorem agg_ret {a b : Int} {x y : Value} (h : a = b) : Ending.returned (.agg #[.int .i64 a, x, y]) = .returned (.agg #[.int .i64 b, x, y]) := by rw [h]

theorem rnew_any (n : Int) (w : World) :
    Calls Try.prog 10 #[.int .i64 n] w fun e w' => e = .returned (.agg #[.int .i64 (roomN n : Nat), .slice none 0 0, .slice none 0 0]) ∧ Below w.heap.size w w' := by
  have he := roomN_eq n
  by_cases h0 : n < 0
  · have e1 : Hid ((0 : Int) = ((roomN n : Nat) : Int)) := by show _ = _; omega
    generalize roomN n = R at *
    clear he
    go_enter Try.func10, Try.ntmps10
    go_wp2
    refine bodyPost_ret (v := .agg #[.int .i64 0, .slice none 0 0, .slice none 0 0]) (by simp [results, Try.results10, go_sem]) rfl ?_
    exact ⟨agg_ret e1.out, (Below.refl _ _).alloc (Nat.le_refl _) _⟩
  · by_cases h1 : 16 < n
    · have e1 : Hid ((16 : Int) = ((roomN n : Nat) : Int)) := by show _ = _; omega
      generalize roomN n = R at *
      clear he
      go_enter Try.func10, Try.ntmps10
      go_wp2
      refine bodyPost_ret (v := .agg #[.int .i64 16, .slice none 0 0, .slice none 0 0]) (by simp [results, Try.results10, go_sem]) rfl ?_
      exact ⟨agg_ret e1.out, (Below.refl _ _).alloc (Nat.le_refl _) _⟩
    · have e1 : Hid (n = ((roomN n : Nat) : Int)) := by show _ = _; omega
      generalize roomN n = R at *
      clear he
      go_enter Try.func10, Try.ntmps10
      go_wp2
      refine bodyPost_ret (v := .agg #[.int .i64 n, .slice none 0 0, .slice none 0 0]) (by simp [results, Try.results10, go_sem]) rfl ?_
      exact ⟨agg_ret e1.out, (Below.refl _ _).alloc (Nat.le_refl _) _⟩

set_option maxRecDepth 100000 in
theorem rplace_any (w : World) (S : Int) (kv av : Value) (L : List Wt) (x : Int) (h : QvAt w kv av L) (hl : L.length ≤ 100) :
    Calls Try.prog 22 #[.agg #[.int .i64 S, kv, av], .int .i64 x] w fun e w' => e = .returned (.int .i64 (plc x (fs L))) ∧ Below w.heap.size w w' := by
  obtain ⟨⟨a1, c1, rfl, h1, _⟩, _⟩ := h
  have n1 := h1.hle
  have n2 := h1.hcap
  unfold maxLen at n2
  have hb : Below w.heap.size w (w.alloc (.cells #[.int .i64 S, .slice a1 L.length c1, av] 28)) := (Below.refl _ w).alloc (Nat.le_refl _) _
  have HI : Hid (IntsAt (w.alloc (.cells #[.int .i64 S, .slice a1 L.length c1, av] 28)) a1 L.length c1 (fs L)) := h1.below hb
  obtain ⟨z0, z1, z2, z3⟩ := blk3 (heap_alloc_new w (.cells #[.int .i64 S, .slice a1 L.length c1, av] 28))
  have hN := fidx_le x (fs L)
  have HN : Hid (∀ j, j < fidx x (fs L) → (fs L).getD j 0 ≠ x) := fidx_lt x _
  have HA : Hid (fidx x (fs L) < (fs L).length → (fs L).getD (fidx x (fs L)) 0 = x) := fidx_at x _
  have HB : Hid (Below w.heap.size w (w.alloc (.cells #[.int .i64 S, .slice a1 L.length c1, av] 28))) := hb
  unfold plc
  rw [fs_length] at hN HA ⊢
  generalize fidx x (fs L) = N at *
  generalize hn : L.length = n at *
  clear h1 hb
  go_enter Try.func22, Try.ntmps22
  go_wp2
  generalize w.alloc (.cells #[.int .i64 S, .slice a1 n c1, av] 28) = w2 at *
  go_loopw [5] (fun vi wr => ∃ i : Nat, vi = .int .i64 i ∧ i ≤ N ∧ wr = w2) (fun vi _ => N + 1 - (intOf vi).toNat)
  case atStart => exact ⟨0, rfl, Nat.zero_le _, rfl⟩
  case round =>
    obtain ⟨i, rfl, hi1, hwr⟩ := hrel
    subst hwr
    by_cases hc : i < n
    · obtain ⟨b, off, rfl, _, hx⟩ := HI.out.at_ i hc
      by_cases hc1 : i < N
      · have hb := HN.out i hc1
        have hbb : ((fs L).getD i 0 == x) = false := by rw [beq_eq_false_iff_ne]; exact hb
        generalize (fs L).getD i 0 = y at *
        clear hb
        go_wp2
        exact ⟨⟨i + 1, by simp, by omega, trivial⟩, by simp [intOf]; omega⟩
      · obtain rfl : N = i := by omega
        have hb := HA.out hc
        rw [hb] at hx
        clear hb
        go_wp2
        go_ret
        exact ⟨rfl, HB.out⟩
    · obtain rfl : n = i := by omega
      obtain rfl : N = n := by omega
      go_wp2
      go_ret
      exact ⟨rfl, HB.out⟩

end Go.Proofs.Ytcndgcfdopjjfaa
