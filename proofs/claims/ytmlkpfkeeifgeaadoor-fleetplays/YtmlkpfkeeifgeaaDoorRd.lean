/-
  The document's own drains: Ask, Begin, End, Due. Conditions: they lie where they are said to lie, at most 3500 in a row; a name is no longer than the greatest length.
-/
import Derived.Test.YtmlkpfkeeifgeaaDoorRTx
import Derived.Test.YtmlkpfkeeifgeaaDoorBeg
import Derived.Test.YtmlkpfkeeifgeaaDoorDue
namespace Go.Proofs.YtmlkpfkeeifgeaaDoor
open Go.ChangeShapes Go.WideShapes Go.ChangeAt Go.RowKit

theorem blk3 {w : World} {g : Nat} {x y z : Value} {t : TypeId} (h : w.heap[g]? = some (.cells #[x, y, z] t (0, 0))) :
    w.cell? ⟨g, 0, none⟩ = some x ∧ w.cell? ⟨g, 1, none⟩ = some y ∧ w.cell? ⟨g, 2, none⟩ = some z ∧ g < w.heap.size :=
  ⟨by simp [World.cell?, h], by simp [World.cell?, h], by simp [World.cell?, h], (Array.getElem?_eq_some_iff.1 h).1⟩
theorem fz3 {w : World} {g : Nat} {x y z : Value} {t : TypeId} (h : w.heap[g]? = some (.cells #[x, y, z] t (0, 0))) (o : Nat) : w.frozen? ⟨g, o, none⟩ = false := by simp [World.frozen?, h]
theorem heap_set3 {w : World} {g : Nat} {x y z u : Value} {t : TypeId} (h : w.heap[g]? = some (.cells #[x, y, z] t (0, 0))) :
    (w.setCell ⟨g, 0, none⟩ u).heap[g]? = some (.cells #[u, y, z] t (0, 0)) ∧ (w.setCell ⟨g, 1, none⟩ u).heap[g]? = some (.cells #[x, u, z] t (0, 0)) ∧ (w.setCell ⟨g, 2, none⟩ u).heap[g]? = some (.cells #[x, y, u] t (0, 0)) :=
  ⟨by rw [heap_setCell_same w g 0 _ t _ h]; simp, by rw [heap_setCell_same w g 1 _ t _ h]; simp, by rw [heap_setCell_same w g 2 _ t _ h]; simp⟩
theorem res_put {wr : World} {b : Nat} {x y z : Value} (h : wr.heap[b]? = some (.cells #[x, y, z] 31 (0, 0))) (u v t : Value) :
    (((wr.setCell ⟨b, 0, none⟩ u).setCell ⟨b, 1, none⟩ v).setCell ⟨b, 2, none⟩ t).heap[b]? = some (.cells #[u, v, t] 31 (0, 0)) ∧ Keep (fun k => k ≠ b) wr (((wr.setCell ⟨b, 0, none⟩ u).setCell ⟨b, 1, none⟩ v).setCell ⟨b, 2, none⟩ t) :=
  ⟨(heap_set3 (heap_set3 (heap_set3 h).1).2.1).2.2, (((Keep.refl _ wr).setCell (fun hn => hn rfl) _).setCell (fun hn => hn rfl) _).setCell (fun hn => hn rfl) _⟩
theorem two_blocks (w : World) (x y z : Value) :
    ((w.alloc (.cells #[x, y, z] 31)).alloc (.cells #[.slice none 0 0, .slice none 0 0, .slice none 0 0] 31)).heap[w.heap.size]? = some (.cells #[x, y, z] 31 (0, 0)) ∧
    ((w.alloc (.cells #[x, y, z] 31)).alloc (.cells #[.slice none 0 0, .slice none 0 0, .slice none 0 0] 31)).heap[w.heap.size + 1]? = some (.cells #[.slice none 0 0, .slice none 0 0, .slice none 0 0] 31 (0, 0)) ∧
    ((w.alloc (.cells #[x, y, z] 31)).alloc (.cells #[.slice none 0 0, .slice none 0 0, .slice none 0 0] 31)).heap.size = w.heap.size + 2 ∧
    Below w.heap.size w ((w.alloc (.cells #[x, y, z] 31)).alloc (.cells #[.slice none 0 0, .slice none 0 0, .slice none 0 0] 31)) := by
  refine ⟨?_, ?_, by simp, ((Below.refl _ w).alloc (Nat.le_refl _) _).alloc (by simp) _⟩
  · rw [Below.heap_alloc _ _ _ (by simp)]; exact heap_alloc_new w _
  · have := heap_alloc_new (w.alloc (.cells #[x, y, z] 31)) (.cells #[.slice none 0 0, .slice none 0 0, .slice none 0 0] 31)
    simpa using this

/-- Two blocks b2 and b4 of a call's own: the drains at b2 are x, y, z; the result's at b4 are none yet. -/
structure Bx (w0 w : World) (b2 b4 : Nat) (x y z : Value) : Prop where
  g2 : w.heap[b2]? = some (.cells #[x, y, z] 31 (0, 0))
  g4 : w.heap[b4]? = some (.cells #[.slice none 0 0, .slice none 0 0, .slice none 0 0] 31 (0, 0))
  ne : b2 ≠ b4
  l2 : w0.heap.size ≤ b2
  l4 : w0.heap.size ≤ b4
  bel : Below w0.heap.size w0 w
section
variable {w0 w w' : World} {b2 b4 : Nat} {x y z u : Value}
theorem Bx.new (w : World) (x y z : Value) : Bx w ((w.alloc (.cells #[x, y, z] 31)).alloc (.cells #[.slice none 0 0, .slice none 0 0, .slice none 0 0] 31)) w.heap.size (w.heap.size + 1) x y z := by
  obtain ⟨h1, h2, h3, h4⟩ := two_blocks w x y z
  exact ⟨h1, h2, by omega, Nat.le_refl _, by omega, h4⟩
theorem Bx.below (h : Bx w0 w b2 b4 x y z) (hb : Below w.heap.size w w') : Bx w0 w' b2 b4 x y z :=
  ⟨(hb.block b2 (lt_of_heap h.g2)).trans h.g2, (hb.block b4 (lt_of_heap h.g4)).trans h.g4, h.ne, h.l2, h.l4, h.bel.trans (hb.mono h.bel.size)⟩
theorem Bx.set (h : Bx w0 w b2 b4 x y z) (o : Nat) (v : Value) : Keep (fun k => k ≠ b2) w (w.setCell ⟨b2, o, none⟩ v) ∧ (w.setCell ⟨b2, o, none⟩ v).heap[b4]? = some (.cells #[.slice none 0 0, .slice none 0 0, .slice none 0 0] 31 (0, 0)) ∧ Below w0.heap.size w0 (w.setCell ⟨b2, o, none⟩ v) := by
  have hk : Keep (fun k => k ≠ b2) w (w.setCell ⟨b2, o, none⟩ v) := (Keep.refl _ w).setCell (fun hn => hn rfl) _
  exact ⟨hk, (hk.block b4 (lt_of_heap h.g4) (fun e => h.ne e.symm)).trans h.g4, h.bel.trans (hk.below h.bel.size (fun k hk e => by have := h.l2; omega))⟩
theorem Bx.set0 (h : Bx w0 w b2 b4 x y z) (u : Value) : Bx w0 (w.setCell ⟨b2, 0, none⟩ u) b2 b4 u y z := ⟨(heap_set3 h.g2).1, (h.set 0 u).2.1, h.ne, h.l2, h.l4, (h.set 0 u).2.2⟩
theorem Bx.set1 (h : Bx w0 w b2 b4 x y z) (u : Value) : Bx w0 (w.setCell ⟨b2, 1, none⟩ u) b2 b4 x u z := ⟨(heap_set3 h.g2).2.1, (h.set 1 u).2.1, h.ne, h.l2, h.l4, (h.set 1 u).2.2⟩
theorem Bx.set2 (h : Bx w0 w b2 b4 x y z) (u : Value) : Bx w0 (w.setCell ⟨b2, 2, none⟩ u) b2 b4 x y u := ⟨(heap_set3 h.g2).2.2, (h.set 2 u).2.1, h.ne, h.l2, h.l4, (h.set 2 u).2.2⟩
theorem Bx.cells (h : Bx w0 w b2 b4 x y z) : w.cell? ⟨b2, 0, none⟩ = some x ∧ w.cell? ⟨b2, 1, none⟩ = some y ∧ w.cell? ⟨b2, 2, none⟩ = some z := ⟨(blk3 h.g2).1, (blk3 h.g2).2.1, (blk3 h.g2).2.2.1⟩
theorem Bx.fz (h : Bx w0 w b2 b4 x y z) (o : Nat) : w.frozen? ⟨b2, o, none⟩ = false := fz3 h.g2 o
theorem Bx.fz4 (h : Bx w0 w b2 b4 x y z) (o : Nat) : w.frozen? ⟨b4, o, none⟩ = false := fz3 h.g4 o
theorem Bx.cells4 (h : Bx w0 w b2 b4 x y z) : w.cell? ⟨b4, 0, none⟩ = some (.slice none 0 0) ∧ w.cell? ⟨b4, 1, none⟩ = some (.slice none 0 0) ∧ w.cell? ⟨b4, 2, none⟩ = some (.slice none 0 0) := ⟨(blk3 h.g4).1, (blk3 h.g4).2.1, (blk3 h.g4).2.2.1⟩
/-- The drains are the result. -/
theorem Bx.out (h : Bx w0 w b2 b4 x y z) : (((w.setCell ⟨b4, 0, none⟩ x).setCell ⟨b4, 1, none⟩ y).setCell ⟨b4, 2, none⟩ z).heap[b4]? = some (.cells #[x, y, z] 31 (0, 0)) ∧ Keep (fun k => k ≠ b4) w (((w.setCell ⟨b4, 0, none⟩ x).setCell ⟨b4, 1, none⟩ y).setCell ⟨b4, 2, none⟩ z) ∧ Below w0.heap.size w0 (((w.setCell ⟨b4, 0, none⟩ x).setCell ⟨b4, 1, none⟩ y).setCell ⟨b4, 2, none⟩ z) := by
  obtain ⟨h1, h2⟩ := res_put h.g4 x y z
  exact ⟨h1, h2, h.bel.trans (h2.below h.bel.size (fun k hk e => by have := h.l4; omega))⟩
end

/-- The document's drains are x, y, z: the names of those that wait, of those under way, their deadlines. -/
structure RfAt (w : World) (x y z : Value) (L M : List Dr) : Prop where
  wt : TxAt w x (nms L)
  un : TxAt w y (nms M)
  at_ : IxAt w z (M.map Prod.snd)
theorem RfAt.below {w w' : World} {x y z : Value} {L M : List Dr} (h : RfAt w x y z L M) (hb : Below w.heap.size w w') : RfAt w' x y z L M := ⟨h.wt.below hb, h.un.below hb, h.at_.below hb⟩
theorem RfAt.keep {w w' : World} {A : Nat → Prop} {x y z : Value} {L M : List Dr} (h : RfAt w x y z L M) (hk : Keep A w w') (hA : ∀ k, x.ownBlock = some k ∨ y.ownBlock = some k ∨ z.ownBlock = some k → A k) : RfAt w' x y z L M :=
  ⟨h.wt.keep hk (fun k e => hA k (.inl e)), h.un.keep hk (fun k e => hA k (.inr (.inl e))), h.at_.keep hk (fun k e => hA k (.inr (.inr e)))⟩
theorem RfAt.nil (w : World) : RfAt w (.slice none 0 0) (.slice none 0 0) (.slice none 0 0) [] [] := ⟨TxAt.nil w, TxAt.nil w, IxAt.nil w⟩
/-- The value's block is one of three elder ones, or new. -/
def From (w w' : World) (x y z v : Value) : Prop := ∀ k, v.ownBlock = some k → (x.ownBlock = some k ∨ y.ownBlock = some k ∨ z.ownBlock = some k) ∨ (w.heap.size ≤ k ∧ k < w'.heap.size)

end Go.Proofs.YtmlkpfkeeifgeaaDoor
namespace Go.Proofs.YtmlkpfkeeifgeaaDoor
open Go.ChangeShapes Go.WideShapes Go.ChangeAt Go.RowKit

set_option maxHeartbeats 1000000 in
set_option maxRecDepth 100000 in
theorem rask_no (w : World) (a0 a1 a2 : Option Addr) (n0 n1 n2 c0 c1 c2 : Nat) (L M : List Dr) (x : ByteArray) (hs : x.size ≤ maxLen) (hw : StrsAt w a0 n0 c0 (nms L)) (hu : StrsAt w a1 n1 c1 (nms M)) (E : Int) (hE : askE x L M = E) (h0 : E ≠ 0) (hn : L.length = n0) :
    Calls Tryd.prog 73 #[.agg #[.slice a0 n0 c0, .slice a1 n1 c1, .slice a2 n2 c2], .string x] w fun e w' => e = .returned (.tuple #[.agg #[.slice a0 n0 c0, .slice a1 n1 c1, .slice a2 n2 c2], .int .i64 E]) ∧ Below w.heap.size w w' := by
  have hB := Bx.new w (.slice a0 n0 c0) (.slice a1 n1 c1) (.slice a2 n2 c2)
  have hn1 := rname_any x hs ((w.alloc (.cells #[.slice a0 n0 c0, .slice a1 n1 c1, .slice a2 n2 c2] 31)).alloc (.cells #[.slice none 0 0, .slice none 0 0, .slice none 0 0] 31))
  have hp0 := place_any a0 n0 c0 (nms L) x _ (hw.below (Nat.le_refl _) hB.bel)
  have hp1 := place_any a1 n1 c1 (nms M) x _ (hu.below (Nat.le_refl _) hB.bel)
  obtain ⟨y0, y1, y2⟩ := hB.cells
  obtain ⟨d0, d1, d2⟩ := hB.cells4
  have f0 := hB.fz4 0
  have f1 := hB.fz4 1
  have f2 := hB.fz4 2
  have HO := Hid.mk' hB.out
  have hwc := hw.hle
  have hwm := hw.hcap
  unfold maxLen at hwm
  have HE : Hid (askE x L M = E) := hE
  clear hB hE hw hu
  go_enter Tryd.func73, Tryd.ntmps73
  go_wp2_with fail
  generalize (w.alloc (.cells #[.slice a0 n0 c0, .slice a1 n1 c1, .slice a2 n2 c2] 31)).alloc (.cells #[.slice none 0 0, .slice none 0 0, .slice none 0 0] 31) = w1 at *
  generalize w.heap.size + 1 = b4 at *
  obtain ⟨x0, x1, x2, _⟩ := blk3 HO.out.1
  cases hnm : nameB x with
  | false =>
    have he : E = 11 := by rw [← HE.out]; unfold askE; rw [hnm]; rfl
    subst he
    rw [hnm] at hn1
    refine hn1.mono ?_
    rintro e w' ⟨rfl, hw'⟩
    subst w'
    clear hp0 hp1
    go_wp2
    refine bodyPost_ret (v := .tuple #[.agg #[.slice a0 n0 c0, .slice a1 n1 c1, .slice a2 n2 c2], .int .i64 11]) (by simp [results, Tryd.results73, go_sem, x0, x1, x2]) rfl ?_
    exact ⟨rfl, HO.out.2.2⟩
  | true =>
    rw [hnm] at hn1
    refine hn1.mono ?_
    rintro e w' ⟨rfl, hw'⟩
    subst w'
    cases h1 : isIn x L with
    | true =>
      have he : E = 6 := by rw [← HE.out]; unfold askE; rw [hnm, h1]; rfl
      subst he
      rw [plc_mem (isIn_iff.1 h1)] at hp0
      have hge : (0 : Int) ≤ ((fidx x (nms L) : Nat) : Int) := by omega
      generalize fidx x (nms L) = F at *
      clear hp1
      go_wp2_with (first | (go_at_call 49; refine hp0.mono ?_; rintro e w' ⟨rfl, hw'⟩; subst w'))
      refine bodyPost_ret (v := .tuple #[.agg #[.slice a0 n0 c0, .slice a1 n1 c1, .slice a2 n2 c2], .int .i64 6]) (by simp [results, Tryd.results73, go_sem, x0, x1, x2]) rfl ?_
      exact ⟨rfl, HO.out.2.2⟩
    | false =>
      rw [plc_not (isIn_not.1 h1)] at hp0
      cases h2 : isIn x M with
      | true =>
        have he : E = 6 := by rw [← HE.out]; unfold askE; rw [hnm, h1, h2]; rfl
        subst he
        rw [plc_mem (isIn_iff.1 h2)] at hp1
        have hge : (0 : Int) ≤ ((fidx x (nms M) : Nat) : Int) := by omega
        generalize fidx x (nms M) = F at *
        go_wp2_with fail
        refine hp0.mono ?_
        rintro e w' ⟨rfl, hw'⟩
        subst w'
        go_wp2_with fail
        refine hp1.mono ?_
        rintro e w' ⟨rfl, hw'⟩
        subst w'
        go_wp2
        refine bodyPost_ret (v := .tuple #[.agg #[.slice a0 n0 c0, .slice a1 n1 c1, .slice a2 n2 c2], .int .i64 6]) (by simp [results, Tryd.results73, go_sem, x0, x1, x2]) rfl ?_
        exact ⟨rfl, HO.out.2.2⟩
      | false =>
        have h16 : 16 ≤ L.length ∧ E = 7 := by
          have := HE.out
          unfold askE at this
          rw [hnm, h1, h2] at this
          simp only [reduceCtorEq, if_false, Bool.or_self] at this
          by_cases h : 16 ≤ L.length
          · rw [if_pos h] at this
            exact ⟨h, this.symm⟩
          · rw [if_neg h] at this
            exact absurd this.symm h0
        obtain ⟨h16, rfl⟩ := h16
        rw [plc_not (isIn_not.1 h2)] at hp1
        have hge : (16 : Int) ≤ (n0 : Int) := by omega
        go_wp2_with fail
        refine hp0.mono ?_
        rintro e w' ⟨rfl, hw'⟩
        subst w'
        go_wp2_with fail
        refine hp1.mono ?_
        rintro e w' ⟨rfl, hw'⟩
        subst w'
        go_wp2
        refine bodyPost_ret (v := .tuple #[.agg #[.slice a0 n0 c0, .slice a1 n1 c1, .slice a2 n2 c2], .int .i64 7]) (by simp [results, Tryd.results73, go_sem, x0, x1, x2]) rfl ?_
        exact ⟨rfl, HO.out.2.2⟩

end Go.Proofs.YtmlkpfkeeifgeaaDoor
namespace Go.Proofs.YtmlkpfkeeifgeaaDoor
open Go.ChangeShapes Go.WideShapes Go.ChangeAt Go.RowKit

set_option maxHeartbeats 1000000 in
set_option maxRecDepth 100000 in
theorem rask_ok (w : World) (a0 a1 a2 : Option Addr) (n0 n1 n2 c0 c1 c2 : Nat) (L M : List Dr) (x : ByteArray) (hs : x.size ≤ maxLen) (hw : StrsAt w a0 n0 c0 (nms L)) (hwn : a0 = none → n0 = 0 ∧ c0 = 0) (hu : StrsAt w a1 n1 c1 (nms M)) (hE : askE x L M = 0) (hn : L.length = n0) :
    Calls Tryd.prog 73 #[.agg #[.slice a0 n0 c0, .slice a1 n1 c1, .slice a2 n2 c2], .string x] w fun e w' => ∃ v, e = .returned (.tuple #[.agg #[v, .slice a1 n1 c1, .slice a2 n2 c2], .int .i64 0]) ∧ TxAt w' v (nms L ++ [x]) ∧ (∀ k, v.ownBlock = some k → w.heap.size ≤ k ∧ k < w'.heap.size) ∧ Below w.heap.size w w' := by
  have hc : nameB x = true ∧ isIn x L = false ∧ isIn x M = false ∧ ¬ 16 ≤ L.length := by
    unfold askE at hE
    cases hnm : nameB x with
    | false => rw [hnm] at hE; simp at hE
    | true =>
      rw [hnm] at hE
      cases h1 : isIn x L with
      | true => rw [h1] at hE; simp at hE
      | false =>
        cases h2 : isIn x M with
        | true => rw [h1, h2] at hE; simp at hE
        | false =>
          rw [h1, h2] at hE
          refine ⟨rfl, rfl, rfl, fun h => ?_⟩
          simp [h] at hE
  obtain ⟨hnm, h1, h2, h16⟩ := hc
  have hB := Bx.new w (.slice a0 n0 c0) (.slice a1 n1 c1) (.slice a2 n2 c2)
  have hn1 := rname_any x hs ((w.alloc (.cells #[.slice a0 n0 c0, .slice a1 n1 c1, .slice a2 n2 c2] 31)).alloc (.cells #[.slice none 0 0, .slice none 0 0, .slice none 0 0] 31))
  have hp0 := place_any a0 n0 c0 (nms L) x _ (hw.below (Nat.le_refl _) hB.bel)
  have hp1 := place_any a1 n1 c1 (nms M) x _ (hu.below (Nat.le_refl _) hB.bel)
  have hT : TxAt w (.slice a0 n0 c0) (nms L) := by
    have e : (nms L).length = n0 := (nms_length L).trans hn
    exact ⟨a0, c0, by rw [e], by rw [e]; exact hw, by rw [e]; exact hwn⟩
  have hwi := with_any (.slice a0 n0 c0) (nms L) x _ (hT.below hB.bel) (by rw [nms_length]; omega)
  rw [hnm] at hn1
  rw [plc_not (isIn_not.1 h1)] at hp0
  rw [plc_not (isIn_not.1 h2)] at hp1
  have hlt : ¬ (16 : Int) ≤ (n0 : Int) := by omega
  obtain ⟨y0, y1, y2⟩ := hB.cells
  have hwc := hw.hle
  have hwm := hw.hcap
  unfold maxLen at hwm
  have HBX := Hid.mk' hB
  clear hB hE hw hu hT hwn
  go_enter Tryd.func73, Tryd.ntmps73
  go_wp2_with fail
  generalize (w.alloc (.cells #[.slice a0 n0 c0, .slice a1 n1 c1, .slice a2 n2 c2] 31)).alloc (.cells #[.slice none 0 0, .slice none 0 0, .slice none 0 0] 31) = w1 at *
  have HSZ : Hid (w.heap.size ≤ w1.heap.size) := HBX.out.bel.size
  obtain ⟨b2, hb2⟩ : ∃ b2, w.heap.size = b2 := ⟨_, rfl⟩
  obtain ⟨b4, hb4⟩ : ∃ b4, w.heap.size + 1 = b4 := ⟨_, rfl⟩
  have HBX2 : Hid (Bx w w1 b2 b4 (.slice a0 n0 c0) (.slice a1 n1 c1) (.slice a2 n2 c2)) := by rw [← hb2, ← hb4]; exact HBX.out
  rw [hb4]
  rw [hb2] at y0 y1 y2
  have HB22 := Hid.mk' hb2
  clear HBX hb4
  refine hn1.mono ?_
  rintro e w' ⟨rfl, hw'⟩
  subst w'
  go_wp2_with fail
  refine hp0.mono ?_
  rintro e w' ⟨rfl, hw'⟩
  subst w'
  clear hb2
  go_wp2_with fail
  refine hp1.mono ?_
  rintro e w' ⟨rfl, hw'⟩
  subst w'
  go_wp2_with fail
  refine hwi.mono ?_
  rintro e w5 ⟨v, rfl, hv5, hvb, hb5⟩
  have hx5 := HBX2.out.below hb5
  have HT5 := Hid.mk' hv5
  obtain ⟨av, cv, rfl, -, -⟩ := hv5
  obtain ⟨y0, y1, y2⟩ := hx5.cells
  have f0 := hx5.fz 0
  have h6 := hx5.set0 (.slice av (nms L ++ [x]).length cv)
  have HV5 := Hid.mk' hvb
  have HK6 := Hid.mk' (hx5.set 0 (.slice av (nms L ++ [x]).length cv)).1
  have HX6 := Hid.mk' h6
  clear hn1 hp0 hp1 hwi hx5 hb5 h6 hvb
  generalize (nms L ++ [x]).length = m at *
  go_upto_region 9 with fail
  generalize w5.setCell ⟨b2, 0, none⟩ (.slice av m cv) = w6 at *
  obtain ⟨y0, y1, y2⟩ := HX6.out.cells
  obtain ⟨d0, d1, d2⟩ := HX6.out.cells4
  have f0 := HX6.out.fz4 0
  have f1 := HX6.out.fz4 1
  have f2 := HX6.out.fz4 2
  have HO := Hid.mk' HX6.out.out
  obtain ⟨x0, x1, x2, _⟩ := blk3 HO.out.1
  go_wp2
  refine bodyPost_ret (v := .tuple #[.agg #[.slice av m cv, .slice a1 n1 c1, .slice a2 n2 c2], .int .i64 0]) (by simp [results, Tryd.results73, go_sem, x0, x1, x2]) rfl ?_
  have q2 := lt_of_heap HBX2.out.g2
  have q4 := lt_of_heap HBX2.out.g4
  have q5 := HSZ.out
  refine ⟨_, rfl, (HT5.out.keep HK6.out (fun k e => ?_)).keep HO.out.2.1 (fun k e => ?_), fun k e => ?_, HO.out.2.2⟩
  · have := HV5.out k e
    show k ≠ b2
    omega
  · have := HV5.out k e
    show k ≠ b4
    omega
  · have h1 := HV5.out k e
    have h2 := HK6.out.size
    have h3 := HO.out.2.1.size
    omega

theorem rask_any (w : World) (xv yv zv : Value) (L M : List Dr) (x : ByteArray) (hs : x.size ≤ maxLen) (h : RfAt w xv yv zv L M) :
    Calls Tryd.prog 73 #[.agg #[xv, yv, zv], .string x] w fun e w' => ∃ v, e = .returned (.tuple #[.agg #[v, yv, zv], .int .i64 (askE x L M)]) ∧ RfAt w' v yv zv (askL x L M) M ∧ From w w' xv yv zv v ∧ Below w.heap.size w w' := by
  have h' := h
  obtain ⟨⟨a0, c0, rfl, hw, hwn⟩, ⟨a1, c1, rfl, hu, hun⟩, ⟨a2, c2, rfl, hz, hzn⟩⟩ := h
  by_cases h0 : askE x L M = 0
  · have hL : askL x L M = L ++ [(x, 0)] := by
      unfold askE at h0
      unfold askL
      split at h0
      · simp at h0
      · rename_i q1
        rw [if_neg q1]
        split at h0
        · simp at h0
        · rename_i q2
          rw [if_neg q2]
          split at h0
          · simp at h0
          · rename_i q3
            rw [if_neg q3]
    rw [hL, h0]
    refine (rask_ok w a0 a1 a2 (nms L).length (nms M).length (M.map Prod.snd).length c0 c1 c2 L M x hs hw hwn hu h0 (nms_length L).symm).mono fun e w' ⟨v, he, ht, hb, hbl⟩ => ⟨v, he, ⟨?_, h'.un.below hbl, h'.at_.below hbl⟩, fun k hk => .inr (hb k hk), hbl⟩
    have e1 : nms (L ++ [(x, 0)]) = nms L ++ [x] := nms_append _ _
    rw [e1]
    exact ht
  · have hL : askL x L M = L := by
      unfold askE at h0
      unfold askL
      split
      · rfl
      · rename_i q1
        rw [if_neg q1] at h0
        split
        · rfl
        · rename_i q2
          rw [if_neg q2] at h0
          split
          · rfl
          · rename_i q3
            rw [if_neg q3] at h0
            exact absurd rfl h0
    rw [hL]
    exact (rask_no w a0 a1 a2 (nms L).length (nms M).length (M.map Prod.snd).length c0 c1 c2 L M x hs hw hu _ rfl h0 (nms_length L).symm).mono fun e w' ⟨he, hbl⟩ => ⟨_, he, h'.below hbl, fun k hk => .inl (.inl hk), hbl⟩

end Go.Proofs.YtmlkpfkeeifgeaaDoor
namespace Go.Proofs.YtmlkpfkeeifgeaaDoor
open Go.ChangeShapes Go.WideShapes Go.ChangeAt Go.RowKit

set_option maxHeartbeats 1000000 in
set_option maxRecDepth 100000 in
theorem rbeg_no (w : World) (a0 a1 a2 : Option Addr) (n0 n1 n2 c0 c1 c2 : Nat) (M : List Dr) (x : ByteArray) (d : Int) (hs : x.size ≤ maxLen) (hu : StrsAt w a1 n1 c1 (nms M)) (E : Int) (hE : begE x M = E) (h0 : E ≠ 0) :
    Calls Tryd.prog 95 #[.agg #[.slice a0 n0 c0, .slice a1 n1 c1, .slice a2 n2 c2], .string x, .int .i64 d] w fun e w' => e = .returned (.tuple #[.agg #[.slice a0 n0 c0, .slice a1 n1 c1, .slice a2 n2 c2], .int .i64 E]) ∧ Below w.heap.size w w' := by
  have hB := Bx.new w (.slice a0 n0 c0) (.slice a1 n1 c1) (.slice a2 n2 c2)
  have hn1 := rname_any x hs ((w.alloc (.cells #[.slice a0 n0 c0, .slice a1 n1 c1, .slice a2 n2 c2] 31)).alloc (.cells #[.slice none 0 0, .slice none 0 0, .slice none 0 0] 31))
  have hp1 := place_any a1 n1 c1 (nms M) x _ (hu.below (Nat.le_refl _) hB.bel)
  obtain ⟨y0, y1, y2⟩ := hB.cells
  obtain ⟨d0, d1, d2⟩ := hB.cells4
  have f0 := hB.fz4 0
  have f1 := hB.fz4 1
  have f2 := hB.fz4 2
  have HO := Hid.mk' hB.out
  have HE : Hid (begE x M = E) := hE
  clear hB hE hu
  go_enter Tryd.func95, Tryd.ntmps95
  go_wp2_with fail
  generalize (w.alloc (.cells #[.slice a0 n0 c0, .slice a1 n1 c1, .slice a2 n2 c2] 31)).alloc (.cells #[.slice none 0 0, .slice none 0 0, .slice none 0 0] 31) = w1 at *
  generalize w.heap.size + 1 = b4 at *
  obtain ⟨x0, x1, x2, _⟩ := blk3 HO.out.1
  cases hnm : nameB x with
  | false =>
    have he : E = 11 := by rw [← HE.out]; unfold begE; rw [hnm]; rfl
    subst he
    rw [hnm] at hn1
    refine hn1.mono ?_
    rintro e w' ⟨rfl, hw'⟩
    subst w'
    clear hp1
    go_wp2
    refine bodyPost_ret (v := .tuple #[.agg #[.slice a0 n0 c0, .slice a1 n1 c1, .slice a2 n2 c2], .int .i64 11]) (by simp [results, Tryd.results95, go_sem, x0, x1, x2]) rfl ?_
    exact ⟨rfl, HO.out.2.2⟩
  | true =>
    rw [hnm] at hn1
    refine hn1.mono ?_
    rintro e w' ⟨rfl, hw'⟩
    subst w'
    have h2 : isIn x M = true ∧ E = 6 := by
      have := HE.out
      unfold begE at this
      rw [hnm] at this
      simp only [reduceCtorEq, if_false] at this
      cases h2 : isIn x M with
      | true => rw [h2, if_pos rfl] at this; exact ⟨rfl, this.symm⟩
      | false => rw [h2] at this; simp at this; exact absurd this.symm h0
    obtain ⟨h2, rfl⟩ := h2
    rw [plc_mem (isIn_iff.1 h2)] at hp1
    have hge : (0 : Int) ≤ ((fidx x (nms M) : Nat) : Int) := by omega
    generalize fidx x (nms M) = F at *
    go_wp2_with fail
    refine hp1.mono ?_
    rintro e w' ⟨rfl, hw'⟩
    subst w'
    go_wp2
    refine bodyPost_ret (v := .tuple #[.agg #[.slice a0 n0 c0, .slice a1 n1 c1, .slice a2 n2 c2], .int .i64 6]) (by simp [results, Tryd.results95, go_sem, x0, x1, x2]) rfl ?_
    exact ⟨rfl, HO.out.2.2⟩

theorem wol_wo (x : ByteArray) (L : List Dr) : wol x (nms L) = nms (wo x L) := (nms_wo x L).symm

set_option maxHeartbeats 2000000 in
set_option maxRecDepth 100000 in
theorem rbeg_ok (w : World) (a0 a1 a2 : Option Addr) (n0 n1 n2 c0 c1 c2 : Nat) (L M : List Dr) (x : ByteArray) (d : Int) (hs : x.size ≤ maxLen) (hw : StrsAt w a0 n0 c0 (nms L)) (hu : StrsAt w a1 n1 c1 (nms M)) (hun : a1 = none → n1 = 0 ∧ c1 = 0) (hz : IntsAt w a2 n2 c2 (M.map Prod.snd)) (hzn : a2 = none → n2 = 0 ∧ c2 = 0)
    (hnm : nameB x = true) (h2 : isIn x M = false) (hl : n0 ≤ 3500) (hl1 : n1 ≤ 3500) (hl2 : n2 ≤ 3500) (hm : (nms M).length = n1) (hm2 : (M.map Prod.snd).length = n2) :
    Calls Tryd.prog 95 #[.agg #[.slice a0 n0 c0, .slice a1 n1 c1, .slice a2 n2 c2], .string x, .int .i64 d] w fun e w' => ∃ v0 v1 v2, e = .returned (.tuple #[.agg #[v0, v1, v2], .int .i64 0]) ∧ RfAt w' v0 v1 v2 (wo x L) (M ++ [(x, cut d)]) ∧ (∀ k, v0.ownBlock = some k ∨ v1.ownBlock = some k ∨ v2.ownBlock = some k → w.heap.size ≤ k ∧ k < w'.heap.size) ∧ Below w.heap.size w w' := by
  have hB := Bx.new w (.slice a0 n0 c0) (.slice a1 n1 c1) (.slice a2 n2 c2)
  have hn1 := rname_any x hs ((w.alloc (.cells #[.slice a0 n0 c0, .slice a1 n1 c1, .slice a2 n2 c2] 31)).alloc (.cells #[.slice none 0 0, .slice none 0 0, .slice none 0 0] 31))
  have hp1 := place_any a1 n1 c1 (nms M) x _ (hu.below (Nat.le_refl _) hB.bel)
  rw [hnm] at hn1
  rw [plc_not (isIn_not.1 h2)] at hp1
  have hwo := without_any a0 n0 c0 (nms L) x _ (hw.below (Nat.le_refl _) hB.bel) (by omega)
  have hT1 : TxAt w (.slice a1 n1 c1) (nms M) := ⟨a1, c1, by rw [hm], by rw [hm]; exact hu, by rw [hm]; exact hun⟩
  have HT1 := Hid.mk' hT1
  have HZ := Hid.mk' hz
  obtain ⟨y0, y1, y2⟩ := hB.cells
  have HM : Hid ((nms M).length = n1 ∧ (M.map Prod.snd).length = n2) := ⟨hm, hm2⟩
  have HBX := Hid.mk' hB
  clear hB hw hu hT1 hun hz hm hm2
  go_enter Tryd.func95, Tryd.ntmps95
  go_wp2_with fail
  generalize (w.alloc (.cells #[.slice a0 n0 c0, .slice a1 n1 c1, .slice a2 n2 c2] 31)).alloc (.cells #[.slice none 0 0, .slice none 0 0, .slice none 0 0] 31) = w1 at *
  have HSZ : Hid (w.heap.size ≤ w1.heap.size) := HBX.out.bel.size
  obtain ⟨b2, hb2⟩ : ∃ b2, w.heap.size = b2 := ⟨_, rfl⟩
  obtain ⟨b4, hb4⟩ : ∃ b4, w.heap.size + 1 = b4 := ⟨_, rfl⟩
  have HBX2 : Hid (Bx w w1 b2 b4 (.slice a0 n0 c0) (.slice a1 n1 c1) (.slice a2 n2 c2)) := by rw [← hb2, ← hb4]; exact HBX.out
  rw [hb4]
  rw [hb2] at y0 y1 y2
  clear HBX hb4
  refine hn1.mono ?_
  rintro e w' ⟨rfl, hw'⟩
  subst w'
  go_wp2_with fail
  refine hp1.mono ?_
  rintro e w' ⟨rfl, hw'⟩
  subst w'
  clear hb2 hn1 hp1
  -- those that wait
  go_wp2_with fail
  refine hwo.mono ?_
  rintro e w3 ⟨v0, rfl, ho3, hb3⟩
  have hT3 := TxAt.own ho3
  have hx3 := HBX2.out.below hb3
  obtain ⟨av0, cv0, rfl, hs3, -⟩ := owns_strs ho3
  obtain ⟨y0, y1, y2⟩ := hx3.cells
  have f0 := hx3.fz 0
  have HX4 := Hid.mk' (hx3.set0 (.slice av0 (wol x (nms L)).length cv0))
  have HK4 := Hid.mk' (hx3.set 0 (.slice av0 (wol x (nms L)).length cv0)).1
  have HT3 := Hid.mk' hT3
  have HS3 := Hid.mk' hb3.size
  clear hwo ho3 hT3 hx3 hs3 hb3
  generalize (wol x (nms L)).length = m0 at *
  go_upto_region 7 with fail
  generalize hw4 : w3.setCell ⟨b2, 0, none⟩ (.slice av0 m0 cv0) = w4 at *
  clear hw4 y0 y1 y2 f0
  obtain ⟨y0, y1, y2⟩ := HX4.out.cells
  -- those under way
  have hwi := with_any (.slice a1 n1 c1) (nms M) x w4 (HT1.out.below HX4.out.bel) (by rw [HM.out.1]; omega)
  go_wp2_with fail
  refine hwi.mono ?_
  rintro e w5 ⟨v1, rfl, ht5, hvb5, hb5⟩
  have hx5 := HX4.out.below hb5
  have HT5 : Hid (TxAt w5 v1 (nms M ++ [x]) ∧ ∀ k, v1.ownBlock = some k → w4.heap.size ≤ k ∧ k < w5.heap.size) := ⟨ht5, hvb5⟩
  obtain ⟨av1, cv1, rfl, -, -⟩ := ht5
  clear hwi y0 y1 y2
  obtain ⟨y0, y1, y2⟩ := hx5.cells
  have f0 := hx5.fz 1
  have HX6 := Hid.mk' (hx5.set1 (.slice av1 (nms M ++ [x]).length cv1))
  have HK6 := Hid.mk' (hx5.set 1 (.slice av1 (nms M ++ [x]).length cv1)).1
  have HB5 := Hid.mk' hb5
  clear hx5 hvb5 hb5
  generalize (nms M ++ [x]).length = m1 at *
  go_upto_region 8 with fail
  generalize hw6 : w5.setCell ⟨b2, 1, none⟩ (.slice av1 m1 cv1) = w6 at *
  clear hw6 y0 y1 y2 f0
  -- the deadlines
  obtain ⟨y0, y1, y2⟩ := HX6.out.cells
  have o6 : w6.ownsRow w6.heap.size 3 1 (.slice none 0 0) 0 (ic []) := World.ownsRow_nil _ _ _ _
  have hI := HZ.out.below (Nat.le_refl _) HX6.out.bel
  have HZN := Hid.mk' hzn
  go_upto_region 10 with (at_builtin; refine wpList_ints _ rfl _ _ rfl w6.heap.size (.slice none 0 0) 0 [] (M.map Prod.snd) (M.map Prod.snd) rfl o6 a2 n2 c2 rfl hI HZN.out (by omega) (Nat.le_refl _) rfl n2 (by omega) ?_; intro v7 w7 o7 g7; obtain ⟨a7, cp7, rfl, -⟩ := owns_ints o7)
  have hb7 : Below w6.heap.size w6 w7 := (Below.refl _ w6).grown g7 (Nat.le_refl _) (fun j hj => by cases hj)
  have HB7 := Hid.mk' hb7
  have HO7 := Hid.mk' o7
  clear o6 hI g7 hb7 y0 y1 y2 o7
  have o77 := HO7.out.alloc (.cells #[.int .i64 (cut d)] 3)
  have hone := one_at w7 (cut d)
  have hx7 := HX6.out.below HB7.out
  obtain ⟨y0, y1, y2⟩ := hx7.cells
  clear hx7
  go_wp2_with (first
    | (go_at_call 97; refine (rcut_any _ _).mono ?_; rintro e w' ⟨rfl, hw'⟩; subst w')
    | (at_builtin; refine wpList_ints _ rfl _ _ rfl w6.heap.size (.slice a7 n2 cp7) n2 (M.map Prod.snd) [cut d] _ rfl o77 _ 1 1 rfl hone (fun h => by cases h) (by omega) (by have := HB7.out.size; simp; omega) rfl (n2 + 1) rfl ?_))
  intro v8 w8 o8 g8
  have hb8 : Below w6.heap.size w6 w8 := (HB7.out.alloc HB7.out.size _).grown g8 (by have := HB7.out.size; simp; omega) (fun j hj => (HO7.out.lt j hj).1)
  have hx8 := HX6.out.below hb8
  have e8 : n2 + 1 = (M.map Prod.snd ++ [cut d]).length := by rw [List.length_append, HM.out.2]; rfl
  have HI8 : Hid (IxAt w8 v8 (M.map Prod.snd ++ [cut d]) ∧ ∀ k, v8.ownBlock = some k → w6.heap.size ≤ k ∧ k < w8.heap.size) := by
    rw [e8] at o8
    exact IxAt.own o8
  obtain ⟨a8, cp8, rfl, -⟩ := owns_ints o8
  have HB8 := Hid.mk' hb8
  clear o77 hone o8 g8 hb8 e8 y0 y1 y2
  obtain ⟨y0, y1, y2⟩ := hx8.cells
  have f0 := hx8.fz 2
  have HX9 := Hid.mk' (hx8.set2 (.slice a8 (n2 + 1) cp8))
  have HK9 := Hid.mk' (hx8.set 2 (.slice a8 (n2 + 1) cp8)).1
  clear hx8
  go_upto_region 11 with fail
  generalize hw9 : w8.setCell ⟨b2, 2, none⟩ (.slice a8 (n2 + 1) cp8) = w9 at *
  clear hw9 y0 y1 y2 f0
  obtain ⟨y0, y1, y2⟩ := HX9.out.cells
  obtain ⟨d0, d1, d2⟩ := HX9.out.cells4
  have f0 := HX9.out.fz4 0
  have f1 := HX9.out.fz4 1
  have f2 := HX9.out.fz4 2
  have HO := Hid.mk' HX9.out.out
  obtain ⟨x0, x1, x2, _⟩ := blk3 HO.out.1
  go_wp2
  refine bodyPost_ret (v := .tuple #[.agg #[.slice av0 m0 cv0, .slice av1 m1 cv1, .slice a8 (n2 + 1) cp8], .int .i64 0]) (by simp [results, Tryd.results95, go_sem, x0, x1, x2]) rfl ?_
  have q2 := lt_of_heap HBX2.out.g2
  have q4 := lt_of_heap HBX2.out.g4
  have s4 := HK4.out.size
  have s5 := HB5.out.size
  have s6 := HK6.out.size
  have s8 := HB8.out.size
  have s9 := HK9.out.size
  have s0 := HSZ.out
  have s3 := HS3.out
  have k8 : Keep (fun k => k ≠ b2 ∧ k ≠ b4) w8 _ := (HK9.out.mono fun k _ h => h.1).trans (HO.out.2.1.mono fun k _ h => h.2)
  have k5 : Keep (fun k => k ≠ b2 ∧ k ≠ b4) w5 _ := ((HK6.out.mono fun k _ h => h.1).trans (keep_below HB8.out)).trans k8
  have k3 : Keep (fun k => k ≠ b2 ∧ k ≠ b4) w3 _ := ((HK4.out.mono fun k _ h => h.1).trans (keep_below HB5.out)).trans k5
  have sf := HO.out.2.1.size
  refine ⟨_, _, _, rfl, ⟨?_, ?_, ?_⟩, fun k hk => ?_, HO.out.2.2⟩
  · rw [← wol_wo]
    exact HT3.out.1.keep k3 (fun k e => by have := HT3.out.2 k e; omega)
  · have e1 : nms (M ++ [(x, cut d)]) = nms M ++ [x] := nms_append _ _
    rw [e1]
    exact HT5.out.1.keep k5 (fun k e => by have := HT5.out.2 k e; omega)
  · rw [List.map_append]
    exact HI8.out.1.keep k8 (fun k e => by have := HI8.out.2 k e; omega)
  · rcases hk with e | e | e
    · have := HT3.out.2 k e
      omega
    · have := HT5.out.2 k e
      omega
    · have := HI8.out.2 k e
      omega

theorem rbeg_any (w : World) (xv yv zv : Value) (L M : List Dr) (x : ByteArray) (d : Int) (hs : x.size ≤ maxLen) (h : RfAt w xv yv zv L M) (hl : L.length ≤ 3500) (hm : M.length ≤ 3500) :
    Calls Tryd.prog 95 #[.agg #[xv, yv, zv], .string x, .int .i64 d] w fun e w' => ∃ v0 v1 v2, e = .returned (.tuple #[.agg #[v0, v1, v2], .int .i64 (begE x M)]) ∧ RfAt w' v0 v1 v2 (begL x L M) (begM x d M) ∧ (From w w' xv yv zv v0 ∧ From w w' xv yv zv v1 ∧ From w w' xv yv zv v2) ∧ Below w.heap.size w w' := by
  have h' := h
  obtain ⟨⟨a0, c0, rfl, hw, hwn⟩, ⟨a1, c1, rfl, hu, hun⟩, ⟨a2, c2, rfl, hz, hzn⟩⟩ := h
  unfold begL begM
  cases hnm : nameB x with
  | false =>
    have hE : begE x M = 11 := by unfold begE; rw [hnm]; rfl
    simp only [if_true]
    rw [hE]
    exact (rbeg_no w a0 a1 a2 (nms L).length (nms M).length (M.map Prod.snd).length c0 c1 c2 M x d hs hu 11 hE (by decide)).mono fun e w' ⟨he, hbl⟩ => ⟨_, _, _, he, h'.below hbl, ⟨fun k hk => .inl (.inl hk), fun k hk => .inl (.inr (.inl hk)), fun k hk => .inl (.inr (.inr hk))⟩, hbl⟩
  | true =>
    simp only [reduceCtorEq, if_false]
    cases h2 : isIn x M with
    | true =>
      have hE : begE x M = 6 := by unfold begE; rw [hnm, h2]; rfl
      simp only [if_true]
      rw [hE]
      exact (rbeg_no w a0 a1 a2 (nms L).length (nms M).length (M.map Prod.snd).length c0 c1 c2 M x d hs hu 6 hE (by decide)).mono fun e w' ⟨he, hbl⟩ => ⟨_, _, _, he, h'.below hbl, ⟨fun k hk => .inl (.inl hk), fun k hk => .inl (.inr (.inl hk)), fun k hk => .inl (.inr (.inr hk))⟩, hbl⟩
    | false =>
      have hE : begE x M = 0 := by unfold begE; rw [hnm, h2]; rfl
      simp only [reduceCtorEq, if_false]
      rw [hE]
      exact (rbeg_ok w a0 a1 a2 (nms L).length (nms M).length (M.map Prod.snd).length c0 c1 c2 L M x d hs hw hu hun hz hzn hnm h2 (by rw [nms_length]; exact hl) (by rw [nms_length]; exact hm) (by rw [List.length_map]; exact hm) rfl rfl).mono fun e w' ⟨v0, v1, v2, he, hr, hb, hbl⟩ => ⟨v0, v1, v2, he, hr, ⟨fun k hk => .inr (hb k (.inl hk)), fun k hk => .inr (hb k (.inr (.inl hk))), fun k hk => .inr (hb k (.inr (.inr hk)))⟩, hbl⟩

end Go.Proofs.YtmlkpfkeeifgeaaDoor
namespace Go.Proofs.YtmlkpfkeeifgeaaDoor
open Go.ChangeShapes Go.WideShapes Go.ChangeAt Go.RowKit

theorem snd_getD (M : List Dr) (i : Nat) : (M.map Prod.snd).getD i 0 = (nthD M i).2 := by
  unfold nthD
  simp only [List.getD, List.getElem?_map]
  cases M[i]? <;> rfl

set_option maxHeartbeats 2000000 in
set_option maxRecDepth 100000 in
theorem rdue_any (w : World) (a0 a1 a2 : Option Addr) (n0 n c0 c1 c2 : Nat) (M : List Dr) (now : Int) (hu : StrsAt w a1 n c1 (nms M)) (hz : IntsAt w a2 n c2 (M.map Prod.snd)) (hl : n ≤ 4000) (hm : M.length = n) :
    Calls Tryd.prog 48 #[.agg #[.slice a0 n0 c0, .slice a1 n c1, .slice a2 n c2], .int .i64 now] w fun e w' => ∃ v, e = .returned v ∧ w'.ownsRow w.heap.size 9 1 v (dueL now M).length (sc (dueL now M)) ∧ Below w.heap.size w w' := by
  obtain ⟨i0, hi, hz0, hz1, hz2⟩ := info_parts info9
  have hb1 : Below w.heap.size w (w.alloc (.cells #[.slice a0 n0 c0, .slice a1 n c1, .slice a2 n c2] 31)) := (Below.refl _ w).alloc (Nat.le_refl _) _
  have HG : Hid ((w.alloc (.cells #[.slice a0 n0 c0, .slice a1 n c1, .slice a2 n c2] 31)).heap[w.heap.size]? = some (.cells #[.slice a0 n0 c0, .slice a1 n c1, .slice a2 n c2] 31 (0, 0))) := heap_alloc_new w _
  have HU := Hid.mk' (hu.below (Nat.le_refl _) hb1)
  have HZ := Hid.mk' (hz.below (Nat.le_refl _) hb1)
  have HB1 := Hid.mk' hb1
  have hle := hu.hle
  have hcap := hu.hcap
  have hle2 := hz.hle
  have hcap2 := hz.hcap
  unfold maxLen at hcap hcap2
  have HT : Hid (M.take n = M) := by show _ = _; rw [← hm, List.take_length]
  have HY : Hid (∀ i, i < n → past now (nthD M i).2 = true → dueL now (M.take (i + 1)) = dueL now (M.take i) ++ [(nthD M i).1]) := fun i h hp => dueL_yes (by omega) hp
  have HN : Hid (∀ i, i < n → past now (nthD M i).2 = false → dueL now (M.take (i + 1)) = dueL now (M.take i)) := fun i h hp => dueL_no (by omega) hp
  have HM := Hid.mk' hm
  clear hu hz hm hb1
  go_enter Tryd.func48, Tryd.ntmps48
  go_wp2
  generalize w.alloc (.cells #[.slice a0 n0 c0, .slice a1 n c1, .slice a2 n c2] 31) = w1 at *
  go_loopw [6, 5] (fun v6 v wr => ∃ i : Nat, v6 = .int .i64 i ∧ i ≤ n ∧ wr.ownsRow w1.heap.size 9 1 v (dueL now (M.take i)).length (sc (dueL now (M.take i))) ∧ Below w1.heap.size w1 wr) (fun v6 _ _ => n + 1 - (intOf v6).toNat)
  case atStart => exact ⟨0, rfl, Nat.zero_le _, by simpa [dueL, nms, sc] using World.ownsRow_nil _ _ _ _, Below.refl _ _⟩
  case round =>
    obtain ⟨i, rfl, hin0, hown, hbel⟩ := hrel
    obtain ⟨y0, y1, y2, _⟩ := blk3 ((hbel.block _ (lt_of_heap HG.out)).trans HG.out)
    by_cases hin : i < n
    · obtain ⟨b, off, rfl, hb, hc⟩ := (HU.out.below (Nat.le_refl _) hbel).at_ i hin
      obtain ⟨b', off', rfl, hb', hc'⟩ := (HZ.out.below (Nat.le_refl _) hbel).at_ i hin
      rw [nms_getD] at hc
      rw [snd_getD] at hc'
      have HYI := Hid.mk' (HY.out i hin)
      have HNI := Hid.mk' (HN.out i hin)
      have hdl := dueL_len now (M.take i)
      rw [List.length_take, HM.out] at hdl
      generalize (nthD M i).1 = y at *
      generalize (nthD M i).2 = d at *
      generalize dueL now (M.take i) = l at *
      have hrp := rpast_any now d wr
      cases hp : past now d with
      | true =>
        rw [hp] at hrp
        have HE := Hid.mk' (HYI.out hp)
        clear HYI HNI hp
        go_wp2_with (first
          | (go_at_call 77; refine hrp.mono ?_; rintro e w' ⟨rfl, hw'⟩; subst w')
          | (at_builtin; refine wpList_append_own _ rfl _ _ 27 rfl w1.heap.size 9 i0 (.string ⟨#[]⟩) 1 16 Tryd.underlying27 hi hz0 hz1 hz2 rfl (by decide) _ l.length _ rfl (hown.alloc _) ⟨wr.heap.size, 0, none⟩ 1 1 [.string y] rfl rfl (news_one _ _ _) (str_one _) (by unfold maxLen; omega) (by omega) (by have := hbel.size; simp; omega) ?_))
        intro v3 w3 hown3 hgrow3 _
        have hbel3 : Below w1.heap.size w1 w3 := (hbel.alloc hbel.size _).grown hgrow3 (by have := hbel.size; simp; omega) (fun j hj => (hown.lt j hj).1)
        have hown4 : w3.ownsRow w1.heap.size 9 1 v3 (l ++ [y]).length (sc (l ++ [y])) := by rw [sc_snoc, List.length_append]; exact hown3
        rw [← HE.out] at hown4
        clear hown3 hgrow3 hown hbel hrp
        go_wp2
        exact ⟨⟨i + 1, by simp, by omega, hown4, hbel3⟩, by simp [intOf]; omega⟩
      | false =>
        rw [hp] at hrp
        rw [← HNI.out hp] at hown
        clear HYI HNI hp
        go_wp2_with (first
          | (go_at_call 77; refine hrp.mono ?_; rintro e w' ⟨rfl, hw'⟩; subst w'))
        exact ⟨⟨i + 1, by simp, by omega, hown, hbel⟩, by simp [intOf]; omega⟩
    · obtain rfl : n = i := by omega
      rw [HT.out] at hown
      have HE : Hid (Below w.heap.size w wr) := HB1.out.trans (hbel.mono HB1.out.size)
      clear hbel
      go_wp2
      go_ret
      exact ⟨_, rfl, owns_base hown HB1.out.size, HE.out⟩

end Go.Proofs.YtmlkpfkeeifgeaaDoor
namespace Go.Proofs.YtmlkpfkeeifgeaaDoor
open Go.ChangeShapes Go.WideShapes Go.ChangeAt Go.RowKit

/-- The deadlines without a name's. -/
def woa (x : ByteArray) (M : List Dr) : List Int := (wo x M).map Prod.snd
theorem woa_yes {x : ByteArray} {M : List Dr} {i : Nat} (h : i < M.length) (hp : ¬ (nthD M i).1 = x) : woa x (M.take (i + 1)) = woa x (M.take i) ++ [(nthD M i).2] := by
  unfold woa wo
  rw [takeD_snoc h, List.filter_append, List.map_append]
  simp [hp]
theorem woa_no {x : ByteArray} {M : List Dr} {i : Nat} (h : i < M.length) (hp : (nthD M i).1 = x) : woa x (M.take (i + 1)) = woa x (M.take i) := by
  unfold woa wo
  rw [takeD_snoc h, List.filter_append, List.map_append]
  simp [hp]
theorem woa_len (x : ByteArray) (M : List Dr) : (woa x M).length ≤ M.length := by unfold woa; rw [List.length_map]; exact wo_len x M

set_option maxHeartbeats 4000000 in
set_option maxRecDepth 100000 in
theorem rend_c (w : World) (a0 a1 a2 : Option Addr) (n0 n1 c0 c1 c2 : Nat) (L M : List Dr) (x : ByteArray) (hw : StrsAt w a0 n0 c0 (nms L)) (hu : StrsAt w a1 n1 c1 (nms M)) (hz : IntsAt w a2 n1 c2 (M.map Prod.snd))
    (hl : n0 ≤ 3500) (hl1 : n1 ≤ 3500) (hm : M.length = n1) :
    Calls Tryd.prog 93 #[.agg #[.slice a0 n0 c0, .slice a1 n1 c1, .slice a2 n1 c2], .string x] w fun e w' => ∃ v0 v1 v2, e = .returned (.tuple #[.agg #[v0, v1, v2], .bool (isIn x L || isIn x M)]) ∧ RfAt w' v0 v1 v2 (wo x L) (wo x M) ∧ (∀ k, v0.ownBlock = some k ∨ v1.ownBlock = some k ∨ v2.ownBlock = some k → w.heap.size ≤ k ∧ k < w'.heap.size) ∧ Below w.heap.size w w' := by
  obtain ⟨i0, hi, hz0, hz1, hz2⟩ := info_parts info3
  have hB := Bx.new w (.slice a0 n0 c0) (.slice a1 n1 c1) (.slice a2 n1 c2)
  have hp0 := place_any a0 n0 c0 (nms L) x _ (hw.below (Nat.le_refl _) hB.bel)
  have hp1 := place_any a1 n1 c1 (nms M) x _ (hu.below (Nat.le_refl _) hB.bel)
  have hwo := without_any a0 n0 c0 (nms L) x _ (hw.below (Nat.le_refl _) hB.bel) (by omega)
  have HU := Hid.mk' hu
  have HZ := Hid.mk' hz
  have HM := Hid.mk' hm
  obtain ⟨y0, y1, y2⟩ := hB.cells
  have hule := hu.hle
  have hucap := hu.hcap
  have hzle := hz.hle
  have hzcap := hz.hcap
  unfold maxLen at hucap hzcap
  have HBX := Hid.mk' hB
  have HT : Hid (M.take n1 = M) := by show _ = _; rw [← hm, List.take_length]
  clear hB hw hu hz hm
  go_enter Tryd.func93, Tryd.ntmps93
  go_upto_region 1 with fail
  generalize (w.alloc (.cells #[.slice a0 n0 c0, .slice a1 n1 c1, .slice a2 n1 c2] 31)).alloc (.cells #[.slice none 0 0, .slice none 0 0, .slice none 0 0] 31) = w1 at *
  have HSZ : Hid (w.heap.size ≤ w1.heap.size) := HBX.out.bel.size
  obtain ⟨b2, hb2⟩ : ∃ b2, w.heap.size = b2 := ⟨_, rfl⟩
  obtain ⟨b4, hb4⟩ : ∃ b4, w.heap.size + 1 = b4 := ⟨_, rfl⟩
  have HBX2 : Hid (Bx w w1 b2 b4 (.slice a0 n0 c0) (.slice a1 n1 c1) (.slice a2 n1 c2)) := by rw [← hb2, ← hb4]; exact HBX.out
  rw [hb4, hb2]
  rw [hb2] at y0 y1 y2
  clear HBX hb4 hb2
  obtain ⟨was, hwas⟩ : ∃ was, (isIn x L || isIn x M) = was := ⟨_, rfl⟩
  have HWAS := Hid.mk' hwas
  go_cut [6] from 9 to 20 (fun v6 wx => v6 = .bool was ∧ wx = w1)
  case first =>
    go_wp2_with fail
    refine hp0.mono ?_
    rintro e w' ⟨rfl, hw'⟩
    subst w'
    cases h1 : isIn x L with
    | true =>
      rw [plc_mem (isIn_iff.1 h1)]
      have hge : (0 : Int) ≤ ((fidx x (nms L) : Nat) : Int) := by omega
      have hwt : true = was := by rw [← hwas, h1]; rfl
      generalize fidx x (nms L) = F at *
      clear hp1 hwo
      go_wp2
      go_meet
      exact ⟨by first | rw [← hwt] | (rw [← hwt]; rfl), rfl⟩
    | false =>
      rw [plc_not (isIn_not.1 h1)]
      go_wp2_with fail
      refine hp1.mono ?_
      rintro e w' ⟨rfl, hw'⟩
      subst w'
      cases h2 : isIn x M with
      | true =>
        rw [plc_mem (isIn_iff.1 h2)]
        have hge : (0 : Int) ≤ ((fidx x (nms M) : Nat) : Int) := by omega
        have hwt : true = was := by rw [← hwas, h1, h2]; rfl
        generalize fidx x (nms M) = F at *
        clear hwo
        go_wp2
        go_meet
        exact ⟨by first | rw [← hwt] | (rw [← hwt]; rfl), rfl⟩
      | false =>
        rw [plc_not (isIn_not.1 h2)]
        have HWT : Hid (was = false) := by show _ = _; rw [← hwas, h1, h2]; rfl
        clear hwo hwas
        go_wp2
        go_meet
        exact ⟨by rw [HWT.out], rfl⟩
  case rest =>
    obtain ⟨rfl, hwc⟩ := hcut
    subst hwc
    -- those that wait
    go_wp2_with fail
    refine hwo.mono ?_
    rintro e w3 ⟨v0, rfl, ho3, hb3⟩
    have HT3 := Hid.mk' (TxAt.own ho3)
    have hx3 := HBX2.out.below hb3
    obtain ⟨av0, cv0, rfl, -, -⟩ := owns_strs ho3
    obtain ⟨y0, y1, y2⟩ := hx3.cells
    have f0 := hx3.fz 0
    have HX4 := Hid.mk' (hx3.set0 (.slice av0 (wol x (nms L)).length cv0))
    have HK4 := Hid.mk' (hx3.set 0 (.slice av0 (wol x (nms L)).length cv0)).1
    have HS3 := Hid.mk' hb3.size
    clear hwo ho3 hx3 hb3 hp0 hp1
    generalize (wol x (nms L)).length = m0 at *
    go_upto_region 3 with fail
    generalize hw4 : w3.setCell ⟨b2, 0, none⟩ (.slice av0 m0 cv0) = w4 at *
    clear hw4 y0 y1 y2 f0
    have HU4 := Hid.mk' (HU.out.below (Nat.le_refl _) HX4.out.bel)
    have HZ4 := Hid.mk' (HZ.out.below (Nat.le_refl _) HX4.out.bel)
    go_wp2
    go_loopw [8, 7] (fun v8 v wr => ∃ i : Nat, v8 = .int .i64 i ∧ i ≤ n1 ∧ wr.ownsRow w4.heap.size 3 1 v (woa x (M.take i)).length (ic (woa x (M.take i))) ∧ Below w4.heap.size w4 wr) (fun v8 _ _ => n1 + 1 - (intOf v8).toNat)
    case atStart => exact ⟨0, rfl, Nat.zero_le _, by simpa [woa, wo, ic] using World.ownsRow_nil _ _ _ _, Below.refl _ _⟩
    case round =>
      obtain ⟨i, rfl, hin0, hown, hbel⟩ := hrel
      obtain ⟨y0, y1, y2⟩ := (HX4.out.below hbel).cells
      by_cases hin : i < n1
      · obtain ⟨b, off, e1, hb, hc⟩ := (HU4.out.below (Nat.le_refl _) hbel).at_ i hin
        obtain ⟨b', off', e2, hb', hc'⟩ := (HZ4.out.below (Nat.le_refl _) hbel).at_ i hin
        subst e1 e2
        rw [nms_getD] at hc
        rw [snd_getD] at hc'
        have hiM : i < M.length := by rw [HM.out]; exact hin
        have HY : Hid (¬ (nthD M i).1 = x → woa x (M.take (i + 1)) = woa x (M.take i) ++ [(nthD M i).2]) := woa_yes hiM
        have HN : Hid ((nthD M i).1 = x → woa x (M.take (i + 1)) = woa x (M.take i)) := woa_no hiM
        have hdl := woa_len x (M.take i)
        rw [List.length_take] at hdl
        generalize woa x (M.take i) = l at *
        generalize (nthD M i).1 = f at *
        generalize (nthD M i).2 = dd at *
        clear hiM
        by_cases he : f = x
        · rw [← HN.out he] at hown
          subst he
          clear HY HN
          go_wp2
          exact ⟨⟨i + 1, by simp, by omega, hown, hbel⟩, by simp [intOf]; omega⟩
        · obtain ⟨e1, e2⟩ := ne_bytes he
          have e3 : (f.toList != x.toList) = true := by simpa using e2
          have HE := Hid.mk' (HY.out he)
          have o2 := hown.alloc (.cells #[.int .i64 dd] 3)
          have hone := one_at wr dd
          obtain ⟨av, cv, hav⟩ : ∃ av cv, u7 = .slice av l.length cv := by
            obtain ⟨av, cv, e, _⟩ := owns_ints hown
            exact ⟨av, cv, e⟩
          subst hav
          clear HY HN he
          go_wp2_with (first
            | (at_builtin; refine wpList_ints _ rfl _ _ rfl w4.heap.size (.slice av l.length cv) l.length l [dd] _ rfl o2 _ 1 1 rfl hone (fun h => by cases h) (by omega) (by have := hbel.size; simp; omega) rfl (l.length + 1) rfl ?_))
          intro v3 w6 hown3 hgrow3
          have hbel3 : Below w4.heap.size w4 w6 := (hbel.alloc hbel.size _).grown hgrow3 (by have := hbel.size; simp; omega) (fun j hj => (hown.lt j hj).1)
          have hown4 : w6.ownsRow w4.heap.size 3 1 v3 (l ++ [dd]).length (ic (l ++ [dd])) := by rw [List.length_append]; exact hown3
          rw [← HE.out] at hown4
          clear hown3 hgrow3 hown hbel o2 hone
          go_wp2
          exact ⟨⟨i + 1, by simp, by omega, hown4, hbel3⟩, by simp [intOf]; omega⟩
      · obtain rfl : n1 = i := by omega
        rw [HT.out] at hown
        have HX5 := Hid.mk' (HX4.out.below hbel)
        have HI5 := Hid.mk' (IxAt.own (zs := woa x M) hown)
        obtain ⟨av2, cv2, hav⟩ : ∃ av cv, u7 = .slice av (woa x M).length cv := by
          obtain ⟨av, cv, e, _⟩ := owns_ints hown
          exact ⟨av, cv, e⟩
        subst hav
        have HS5 := Hid.mk' hbel.size
        have HK5 := Hid.mk' (keep_below (A := fun k => k ≠ b2 ∧ k ≠ b4) hbel)
        generalize (woa x M).length = m2 at *
        clear hown hbel
        -- those under way
        have hwi := without_any a1 n1 c1 (nms M) x wr (HU.out.below (Nat.le_refl _) HX5.out.bel) (by omega)
        go_wp2_with fail
        refine hwi.mono ?_
        rintro e w6 ⟨v1, rfl, ho6, hb6⟩
        have HT6 := Hid.mk' (TxAt.own ho6)
        have hx6 := HX5.out.below hb6
        obtain ⟨av1, cv1, rfl, -, -⟩ := owns_strs ho6
        clear y0 y1 y2 hwi
        obtain ⟨y0, y1, y2⟩ := hx6.cells
        have f0 := hx6.fz 1
        have HX7 := Hid.mk' (hx6.set1 (.slice av1 (wol x (nms M)).length cv1))
        have HK7 := Hid.mk' (hx6.set 1 (.slice av1 (wol x (nms M)).length cv1)).1
        have HB6 := Hid.mk' hb6
        clear ho6 hx6 hb6
        generalize (wol x (nms M)).length = m1 at *
        go_upto_region 10 with fail
        generalize hw7 : w6.setCell ⟨b2, 1, none⟩ (.slice av1 m1 cv1) = w7 at *
        clear hw7 y0 y1 y2 f0
        obtain ⟨y0, y1, y2⟩ := HX7.out.cells
        have f0 := HX7.out.fz 2
        have HX9 := Hid.mk' (HX7.out.set2 (.slice av2 m2 cv2))
        have HK9 := Hid.mk' (HX7.out.set 2 (.slice av2 m2 cv2)).1
        go_upto_region 11 with fail
        generalize hw9 : w7.setCell ⟨b2, 2, none⟩ (.slice av2 m2 cv2) = w9 at *
        clear hw9 y0 y1 y2 f0
        obtain ⟨y0, y1, y2⟩ := HX9.out.cells
        obtain ⟨d0, d1, d2⟩ := HX9.out.cells4
        have f0 := HX9.out.fz4 0
        have f1 := HX9.out.fz4 1
        have f2 := HX9.out.fz4 2
        have HO := Hid.mk' HX9.out.out
        obtain ⟨x0, x1, x2, _⟩ := blk3 HO.out.1
        go_wp2
        refine bodyPost_ret (v := .tuple #[.agg #[.slice av0 m0 cv0, .slice av1 m1 cv1, .slice av2 m2 cv2], .bool was]) (by simp [results, Tryd.results93, go_sem, x0, x1, x2]) rfl ?_
        have q2 := lt_of_heap HBX2.out.g2
        have q4 := lt_of_heap HBX2.out.g4
        have s3 := HS3.out
        have s4 := HK4.out.size
        have s5 := HS5.out
        have s6 := HB6.out.size
        have s7 := HK7.out.size
        have s9 := HK9.out.size
        have s0 := HSZ.out
        have sf := HO.out.2.1.size
        have k6 : Keep (fun k => k ≠ b2 ∧ k ≠ b4) w6 _ := ((HK7.out.mono fun k _ h => h.1).trans (HK9.out.mono fun k _ h => h.1)).trans (HO.out.2.1.mono fun k _ h => h.2)
        have k5 : Keep (fun k => k ≠ b2 ∧ k ≠ b4) wr _ := (keep_below HB6.out).trans k6
        have k3 : Keep (fun k => k ≠ b2 ∧ k ≠ b4) w3 _ := ((HK4.out.mono fun k _ h => h.1).trans HK5.out).trans k5
        refine ⟨_, _, _, by rw [HWAS.out], ⟨?_, ?_, ?_⟩, fun k hk => ?_, HO.out.2.2⟩
        · rw [← wol_wo]
          exact HT3.out.1.keep k3 (fun k e => by have := HT3.out.2 k e; omega)
        · rw [← wol_wo]
          exact HT6.out.1.keep k6 (fun k e => by have := HT6.out.2 k e; omega)
        · exact HI5.out.1.keep k5 (fun k e => by have := HI5.out.2 k e; omega)
        · rcases hk with e | e | e
          · have := HT3.out.2 k e
            omega
          · have := HT6.out.2 k e
            omega
          · have := HI5.out.2 k e
            omega

theorem rend_any (w : World) (xv yv zv : Value) (L M : List Dr) (x : ByteArray) (h : RfAt w xv yv zv L M) (hl : L.length ≤ 3500) (hm : M.length ≤ 3500) :
    Calls Tryd.prog 93 #[.agg #[xv, yv, zv], .string x] w fun e w' => ∃ v0 v1 v2, e = .returned (.tuple #[.agg #[v0, v1, v2], .bool (isIn x L || isIn x M)]) ∧ RfAt w' v0 v1 v2 (wo x L) (wo x M) ∧ (From w w' xv yv zv v0 ∧ From w w' xv yv zv v1 ∧ From w w' xv yv zv v2) ∧ Below w.heap.size w w' := by
  obtain ⟨⟨a0, c0, rfl, hw, hwn⟩, ⟨a1, c1, rfl, hu, hun⟩, ⟨a2, c2, rfl, hz, hzn⟩⟩ := h
  rw [nms_length] at hw hu
  rw [List.length_map] at hz
  rw [nms_length, nms_length, List.length_map]
  exact (rend_c w a0 a1 a2 L.length M.length c0 c1 c2 L M x hw hu hz hl hm rfl).mono fun e w' ⟨v0, v1, v2, he, hr, hb, hbl⟩ => ⟨v0, v1, v2, he, hr, ⟨fun k hk => .inr (hb k (.inl hk)), fun k hk => .inr (hb k (.inr (.inl hk))), fun k hk => .inr (hb k (.inr (.inr hk)))⟩, hbl⟩

end Go.Proofs.YtmlkpfkeeifgeaaDoor
