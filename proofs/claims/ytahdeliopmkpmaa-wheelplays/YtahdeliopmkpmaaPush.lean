/-
  What Push and Pop of the order do: one more behind the row; the last one out of it. Conditions: the order lies behind the pointer; the new entry is none of the row's; none is taken out of an empty row.
-/
import Derived.Test.YtahdeliopmkpmaaDown
import Derived.Maps.AppendAt
namespace Go.Proofs.Ytahdeliopmkpmaa
open Go.ChangeShapes Go.WideShapes Go.ChangeAt Go.RowKit

/-- A wheel's block, and what it has. -/
def Blk (w : World) (g : Nat) (mv ov : Value) : Prop := w.heap[g]? = some (.cells #[mv, ov] 62 (0, 0))
theorem Blk.c0 {w : World} {g : Nat} {mv ov : Value} (h : Blk w g mv ov) : w.cell? ⟨g, 0, none⟩ = some mv := by unfold Blk at h; simp [World.cell?, h]
theorem Blk.c1 {w : World} {g : Nat} {mv ov : Value} (h : Blk w g mv ov) : w.cell? ⟨g, 1, none⟩ = some ov := by unfold Blk at h; simp [World.cell?, h]
theorem Blk.fz {w : World} {g : Nat} {mv ov : Value} (h : Blk w g mv ov) (o : Nat) : w.frozen? ⟨g, o, none⟩ = false := by unfold Blk at h; simp [World.frozen?, h]
theorem Blk.lt {w : World} {g : Nat} {mv ov : Value} (h : Blk w g mv ov) : g < w.heap.size := (Array.getElem?_eq_some_iff.1 h).1
theorem Blk.set1 {w : World} {g : Nat} {mv ov : Value} (h : Blk w g mv ov) (v : Value) : Blk (w.setCell ⟨g, 1, none⟩ v) g mv v := by
  unfold Blk at h ⊢
  rw [heap_setCell_same w g 1 _ 62 _ h]; simp
theorem Blk.set0 {w : World} {g : Nat} {mv ov : Value} (h : Blk w g mv ov) (v : Value) : Blk (w.setCell ⟨g, 0, none⟩ v) g v ov := by
  unfold Blk at h ⊢
  rw [heap_setCell_same w g 0 _ 62 _ h]; simp
theorem Blk.keep {w w' : World} {g : Nat} {mv ov : Value} {A : Nat → Prop} (h : Blk w g mv ov) (hk : Keep A w w') (hA : A g) : Blk w' g mv ov := (hk.block g h.lt hA).trans h
theorem Blk.of_block {w w' : World} {g : Nat} {mv ov : Value} (h : Blk w g mv ov) (hk : w'.heap[g]? = w.heap[g]?) : Blk w' g mv ov := hk.trans h

theorem nth_append_left {L : List Ent} {e : Ent} {i : Nat} (h : i < L.length) : nth (L ++ [e]) i = nth L i := by
  unfold nth; simp only [List.getD_eq_getElem?_getD]; rw [List.getElem?_append_left h]
theorem nth_append_last (L : List Ent) (e : Ent) : nth (L ++ [e]) L.length = e := by
  unfold nth; simp
theorem nth_take {L : List Ent} {n i : Nat} (h : i < n) : nth (L.take n) i = nth L i := by
  unfold nth; simp [List.getD_eq_getElem?_getD, h]

/-- The row, with one more. -/
theorem OIn.pushed {w1 w2 w3 : World} {B : Nat → Prop} {g : Nat} {ov v' : Value} {L : List Ent} {e : Ent} {w : World} (h : OIn w (fun k => B k ∨ k = g) ov L) (hgd : ∀ k, B k → k < w.heap.size) (hg : g < w.heap.size)
    (he : EntAt w1 e L.length) (heo : ¬ B e.b) (heg : e.b ≠ g) (hw1 : ∀ i, i < L.length → EntAt w1 (nth L i) i) (hz : w.heap.size ≤ w2.heap.size) (h12 : ∀ k, k < w1.heap.size → w2.heap[k]? = w1.heap[k]?)
    (hown : w3.ownsRow 0 63 1 v' (L.length + 1) (L.map ptrE ++ [ptrE e])) (hgr : w2.grownBy w3 ov.ownBlock) (hloc : v'.ownBlock = ov.ownBlock ∨ v'.ownBlock = some w2.heap.size) (hrow : ∀ k, ov.ownBlock = some k → ∀ x, w1.heap[k]? ≠ some (.cells x 66 (0, 0))) (hs12 : w1.heap.size ≤ w2.heap.size) :
    OIn w3 (fun k => B k ∨ k = g) v' (L ++ [e]) := by
  have hent : ∀ x i, EntAt w1 x i → EntAt w3 x i := fun x i hx => by
    have hl := hx.lt
    unfold EntAt at hx ⊢
    rw [hgr.block x.b (by omega) (fun e' => hrow x.b e'.symm _ hx), h12 x.b hl]
    exact hx
  refine ⟨?_, fun k hk => ?_, fun i hi => ?_, fun i hi => ?_⟩
  · rw [List.length_append, List.map_append]; exact hown
  · rcases hloc with e1 | e1
    · exact h.out k (e1 ▸ hk)
    · rw [e1] at hk
      cases hk
      rintro (hb | hb)
      · have := hgd _ hb; omega
      · omega
  · rw [List.length_append] at hi
    by_cases e1 : i < L.length
    · rw [nth_append_left e1]; exact hent _ _ (hw1 i e1)
    · obtain rfl : i = L.length := by simp at hi; omega
      rw [nth_append_last]; exact hent _ _ he
  · rw [List.length_append] at hi
    by_cases e1 : i < L.length
    · rw [nth_append_left e1]; exact h.eout i e1
    · obtain rfl : i = L.length := by simp at hi; omega
      rw [nth_append_last]
      rintro (hb | hb)
      · exact heo hb
      · exact heg hb

theorem heap_alloc_old' (w : World) (o : Obj) (k : Nat) (h : k < w.heap.size) : (w.alloc o).heap[k]? = w.heap[k]? := Below.heap_alloc w o k h

theorem ta63 (a : Addr) (w : World) : Sem.run Try.prog (Instr.typeAssert (.iface 63 (.pointer (some a))) 20 63 false) w = .ok (.pointer (some a)) w := by kernel_rfl

theorem ptrE_one (e : Ent) : ∀ u ∈ [ptrE e], u.oneCell' = true := by
  intro u hu
  simp at hu
  subst hu
  rfl

theorem info63 : (Try.prog.info? 63).map (fun i => (i.zero, i.size, i.bytes)) = some (some (.pointer none), 1, 8) := by kernel_rfl

theorem row_ne_ent {w : World} {A : Nat → Prop} {ov : Value} {L : List Ent} (h : OIn w A ov L) {k : Nat} (hk : ov.ownBlock = some k) : ∃ cur, w.heap[k]? = some (.cells cur 63 (0, 0)) := by
  rcases h.own.2 with ⟨rfl, _⟩ | ⟨gs, cap, cur, rfl, _, hg, _⟩
  · simp [Value.ownBlock] at hk
  · simp [Value.ownBlock] at hk
    subst hk
    exact ⟨cur, hg⟩

set_option maxHeartbeats 1000000 in
set_option maxRecDepth 100000 in
theorem push_m (B : Nat → Prop) (g : Nat) (mv ov : Value) (L : List Ent) (e : Ent) (i0 : Nat) (w : World) (hb : Blk w g mv ov) (h : OIn w (fun k => B k ∨ k = g) ov L) (hgd : ∀ k, B k → k < w.heap.size) (hgB : ¬ B g)
    (he : EntAt w e i0) (heo : ¬ B e.b) (hnew : ∀ i, i < L.length → (nth L i).b ≠ e.b) (hl : L.length ≤ 1000) :
    Calls Try.prog 99 #[.pointer (some ⟨g, 1, none⟩), .iface 63 (ptrE e)] w fun x w' => x = .returned (.tuple #[]) ∧
      ∃ ov', Blk w' g mv ov' ∧ OIn w' (fun k => B k ∨ k = g) ov' (L ++ [e]) ∧ Keep B w w' := by
  have heg : e.b ≠ g := fun e1 => by
    unfold EntAt at he; unfold Blk at hb; rw [e1, hb] at he; simp at he
  have hrow : ∀ k, ov.ownBlock = some k → k ≠ e.b := fun k hk e1 => by
    obtain ⟨cur, hc⟩ := row_ne_ent h hk
    unfold EntAt at he; rw [← e1, hc] at he; simp at he
  have hrowg : ∀ k, ov.ownBlock = some k → k ≠ g := fun k hk e1 => h.out k hk (.inr e1)
  -- the entry's place
  have o1 : (w.setCell ⟨e.b, 2, none⟩ (.int .i64 L.length)).ownsRow 0 63 1 ov L.length (L.map ptrE) :=
    h.own.kept (grown_set1 w e.b 2 _) (by
      cases hk : ov.ownBlock with
      | none => exact .inl rfl
      | some k => exact .inr (fun e1 => hrow k hk (by cases e1; rfl)))
  have hlen : ∃ a cap, ov = .slice a L.length cap := by
    rcases h.own.2 with ⟨h1, h2⟩ | ⟨gs, cap, cur, h1, _⟩
    · exact ⟨none, 0, by rw [h1, h2]⟩
    · exact ⟨_, _, h1⟩
  obtain ⟨a, cap, hov⟩ := hlen
  have c1 := hb.c1
  have f1 := hb.fz 1
  have e2 := he.c2
  have fe := he.fz 2
  have hei := he.lt
  have hgl := hb.lt
  have hw1 : ∀ i, i < L.length → EntAt (w.setCell ⟨e.b, 2, none⟩ (.int .i64 L.length)) (nth L i) i := fun i hi => (h.ent i hi).put_other _ (hnew i hi) _
  have hee := he.put L.length
  have hb1 : Blk (w.setCell ⟨e.b, 2, none⟩ (.int .i64 L.length)) g mv ov := hb.of_block (heap_setCell_other w _ g _ (Ne.symm heg))
  have hk1 : Keep B w (w.setCell ⟨e.b, 2, none⟩ (.int .i64 L.length)) := (Keep.refl B w).setCell heo _
  have hr1 : ∀ k, ov.ownBlock = some k → ∀ x, (w.setCell ⟨e.b, 2, none⟩ (.int .i64 L.length)).heap[k]? ≠ some (.cells x 66 (0, 0)) := fun k hk x e1 => by
    obtain ⟨cur, hc⟩ := row_ne_ent h hk
    rw [heap_setCell_other w _ k _ (hrow k hk), hc] at e1
    simp at e1
  obtain ⟨ti, hi, hz0, hz1, hz2⟩ := info_parts info63
  have hp : ptrE e = .pointer (some ⟨e.b, 0, none⟩) := rfl
  have HP : Hid (∀ v' w3, w3.ownsRow 0 63 1 v' (L.length + 1) (L.map ptrE ++ [ptrE e]) → ((w.setCell ⟨e.b, 2, none⟩ (.int .i64 L.length)).alloc (.cells #[ptrE e] 63)).grownBy w3 ov.ownBlock →
      (v'.ownBlock = ov.ownBlock ∨ v'.ownBlock = some ((w.setCell ⟨e.b, 2, none⟩ (.int .i64 L.length)).alloc (.cells #[ptrE e] 63)).heap.size) →
      Blk w3 g mv ov ∧ Blk (w3.setCell ⟨g, 1, none⟩ v') g mv v' ∧ OIn (w3.setCell ⟨g, 1, none⟩ v') (fun k => B k ∨ k = g) v' (L ++ [e]) ∧ Keep B w (w3.setCell ⟨g, 1, none⟩ v')) := by
    refine fun v' w3 hown hgr hloc => ?_
    have hbw : Blk w3 g mv ov := (hb1.of_block (heap_alloc_old' _ _ g (by simpa using hgl))).of_block (hgr.block g (by simp; omega) (fun e1 => hrowg g e1.symm rfl))
    have hO := h.pushed (w1 := w.setCell ⟨e.b, 2, none⟩ (.int .i64 L.length)) hgd hgl hee heo heg hw1 (by simp) (fun k hk => heap_alloc_old' _ _ k hk) hown hgr hloc hr1 (by simp)
    refine ⟨hbw, hbw.set1 _, ?_, ?_⟩
    · refine hO.last (B := fun k => k ≠ g) (w' := w3.setCell ⟨g, 1, none⟩ v') ((Keep.refl _ w3).setCell (by simp) _) (fun k hk e1 => hO.out k hk (.inr e1)) (fun i hi e1 => hO.eout i hi (.inr e1))
    · exact (((hk1.alloc _).trans (keep_grown hgr (fun k hk hB => h.out k hk (.inl hB)))).setCell hgB _)
  clear hw1 hee hb1 hk1 hr1 hrow hrowg h he hb hnew
  subst hov
  rw [hp] at HP ⊢
  generalize hLL : L.length = n at *
  clear hLL
  have hta := ta63 ⟨e.b, 0, none⟩ w
  go_enter Try.func99, Try.ntmps99
  go_wp2_with (at_builtin; refine wpList_append_own_at _ rfl _ _ 60 rfl 0 63 ti (.pointer none) 1 8 Try.underlying60 hi hz0 hz1 hz2 rfl (by decide) _ n _ rfl (o1.alloc _) ⟨w.heap.size, 0, none⟩ 1 1 [.pointer (some ⟨e.b, 0, none⟩)] rfl rfl ?c1 ?c2 ?c3 ?c4 ?c5 ?_)
  case c1 =>
    have := cell_one_new (w.setCell ⟨e.b, 2, none⟩ (.int .i64 n)) (.pointer (some ⟨e.b, 0, none⟩)) 63
    rw [World.size_setCell] at this
    exact this
  case c2 => exact ptrE_one e
  case c3 => unfold maxLen; omega
  case c4 => omega
  case c5 => exact Nat.zero_le _
  intro v' w3 hown hgr _ hloc
  obtain ⟨q1, q2, q3, q4⟩ := HP.out v' w3 hown hgr (by simpa using hloc)
  have cg := q1.c1
  have fg := q1.fz 1
  rcases hown.2 with ⟨_, h0⟩ | ⟨gr, cp, cr, rfl, _⟩
  · omega
  clear hown hgr hloc HP hta o1 c1 f1 e2 fe
  go_wp2
  go_end0
  exact ⟨rfl, _, q2, q3, q4⟩

theorem map_take_ptr {L : List Ent} {m : Nat} {cur : Array Value} (hm : L.length = m + 1) (ht : cur.toList.take L.length = L.map ptrE) (v : Value) : (cur.setIfInBounds m v).toList.take m = (L.take m).map ptrE := by
  rw [Array.toList_setIfInBounds, List.take_set_of_le (Nat.le_refl m), List.map_take, ← ht, List.take_take]
  congr 1
  omega

set_option maxHeartbeats 1000000 in
set_option maxRecDepth 100000 in
theorem pop_m (B : Nat → Prop) (g : Nat) (mv ov : Value) (L : List Ent) (m : Nat) (w : World) (hb : Blk w g mv ov) (h : OIn w (fun k => B k ∨ k = g) ov L) (hgB : ¬ B g) (hm : L.length = m + 1) (hl : L.length ≤ 1000) :
    Calls Try.prog 98 #[.pointer (some ⟨g, 1, none⟩)] w fun x w' => x = .returned (.iface 63 (ptrE (nth L m))) ∧
      ∃ ov', Blk w' g mv ov' ∧ OIn w' (fun k => B k ∨ k = g) ov' (L.take m) ∧ EntAt w' (nth L m) m ∧ Keep B w w' := by
  obtain ⟨gs, cap, cur, rfl, hg, hgA, hle, hcap, hcs, ht⟩ := h.row (by omega)
  have hgg : gs ≠ g := fun e1 => hgA (.inr e1)
  have hgB2 : ¬ B gs := fun e1 => hgA (.inl e1)
  have cm := row_cell hg ht (show m < L.length by omega)
  have c1 := hb.c1
  have f1 := hb.fz 1
  have fs := frozen_of_row w gs m cur 63 hg
  have hne : ∀ k, k < L.length → (nth L k).b ≠ gs := fun k hk e => by
    have := h.ent k hk
    unfold EntAt at this
    rw [e, hg] at this
    simp at this
  have hneg : ∀ k, k < L.length → (nth L k).b ≠ g := fun k hk e => h.eout k hk (.inr e)
  have hent : ∀ k, k < L.length → EntAt ((w.setCell ⟨gs, m, none⟩ (.pointer none)).setCell ⟨g, 1, none⟩ (.slice (some ⟨gs, 0, none⟩) m cap)) (nth L k) k := fun k hk =>
    ((h.ent k hk).put_other _ (hne k hk) _).put_other _ (hneg k hk) _
  have HP : Hid (∃ ov', Blk ((w.setCell ⟨gs, m, none⟩ (.pointer none)).setCell ⟨g, 1, none⟩ (.slice (some ⟨gs, 0, none⟩) m cap)) g mv ov' ∧
      OIn ((w.setCell ⟨gs, m, none⟩ (.pointer none)).setCell ⟨g, 1, none⟩ (.slice (some ⟨gs, 0, none⟩) m cap)) (fun k => B k ∨ k = g) ov' (L.take m) ∧
      EntAt ((w.setCell ⟨gs, m, none⟩ (.pointer none)).setCell ⟨g, 1, none⟩ (.slice (some ⟨gs, 0, none⟩) m cap)) (nth L m) m ∧
      Keep B w ((w.setCell ⟨gs, m, none⟩ (.pointer none)).setCell ⟨g, 1, none⟩ (.slice (some ⟨gs, 0, none⟩) m cap))) := by
    have hlt : (L.take m).length = m := by rw [List.length_take]; omega
    refine ⟨.slice (some ⟨gs, 0, none⟩) m cap, ?_, ⟨?_, ?_, ?_, ?_⟩, hent m (by omega), ?_⟩
    · exact (hb.of_block (heap_setCell_other w _ g _ (Ne.symm hgg))).set1 _
    · rw [hlt]
      refine ⟨by rw [List.length_map, hlt, Nat.mul_one], .inr ⟨gs, cap, cur.setIfInBounds m (.pointer none), rfl, Nat.zero_le _, ?_, by omega, hcap, by simp [hcs], ?_⟩⟩
      · rw [heap_setCell_other _ _ gs _ hgg]
        exact heap_setCell_same w gs m cur 63 _ hg
      · rw [Nat.mul_one]
        exact map_take_ptr hm ht _
    · intro k hk
      simp [Value.ownBlock] at hk
      subst hk
      exact hgA
    · intro i hi
      rw [hlt] at hi
      rw [nth_take hi]
      exact hent i (by omega)
    · intro i hi
      rw [hlt] at hi
      rw [nth_take hi]
      exact h.eout i (by omega)
    · exact ((Keep.refl B w).setCell hgB2 _).setCell hgB _
  unfold maxLen at hcap
  unfold ptrE at cm ⊢
  generalize hx : nth L m = x at cm HP ⊢
  generalize hT : L.take m = T at HP
  clear hent hne hneg ht h hb hx hT hg hcs
  rw [hm] at c1 hle hl
  clear hm
  go_enter Try.func98, Try.ntmps98
  go_wp2
  go_ret
  exact ⟨rfl, HP.out⟩

end Go.Proofs.Ytahdeliopmkpmaa
