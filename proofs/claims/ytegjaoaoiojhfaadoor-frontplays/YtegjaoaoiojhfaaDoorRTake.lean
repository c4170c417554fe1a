/-
  What the document's Take does. Conditions: its held frames read as they are said to read; what always holds of a front holds of it.
-/
import Derived.Test.YtegjaoaoiojhfaaDoorRef
namespace Go.Proofs.YtegjaoaoiojhfaaDoor
open Go.ChangeShapes Go.WideShapes Go.ChangeAt Go.RowKit

set_option maxHeartbeats 2000000 in
set_option maxRecDepth 100000 in
/-- A frame that is not to be held. -/
theorem rtake_stay (S : Int) (a : Option Addr) (n c : Nat) (k : Int) (d : ByteArray) (X W : Int) (w : World) (hX : onx S k = X) (hW : onw S k = W) (h3 : W ≠ 3) (h6 : X ≠ 6) :
    Calls Tryd.prog 13 #[.agg #[.int .i64 S, .slice a n c], .agg #[.int .i64 k, .string d]] w fun e w' => e = .returned (.tuple #[.agg #[.int .i64 X, .slice a n c], .int .i64 W]) ∧ Below w.heap.size w w' := by
  obtain ⟨hb, g2, g3, g4⟩ := three_boxes w (.int .i64 S) (.slice a n c) k d
  have ho := ron_any S k (((w.alloc (.cells #[.int .i64 S, .slice a n c] 28)).alloc (.cells #[.int .i64 k, .string d] 31)).alloc (.cells #[.int .i64 0, .slice none 0 0] 28))
  rw [hX, hW] at ho
  have b3 : (W == 3) = false := beq_eq_false_iff_ne.2 h3
  have b6 : (X == 6) = false := beq_eq_false_iff_ne.2 h6
  clear hX hW h3 h6
  go_enter Tryd.func13, Tryd.ntmps13
  go_upto_region 1 with fail
  generalize ((w.alloc (.cells #[.int .i64 S, .slice a n c] 28)).alloc (.cells #[.int .i64 k, .string d] 31)).alloc (.cells #[.int .i64 0, .slice none 0 0] 28) = W0 at *
  have HB := Hid.mk' hb
  obtain ⟨p2, hp2⟩ : ∃ p, w.heap.size = p := ⟨_, rfl⟩
  obtain ⟨p3, hp3⟩ : ∃ p, p2 + 1 = p := ⟨_, rfl⟩
  obtain ⟨p4, hp4⟩ : ∃ p, p3 + 1 = p := ⟨_, rfl⟩
  rw [hp2] at g2
  rw [hp2, hp3] at g3
  rw [hp2, hp3, hp4] at g4
  rw [hp2, hp3, hp4]
  have HP : Hid (w.heap.size = p2 ∧ p3 = p2 + 1 ∧ p4 = p3 + 1) := ⟨hp2, hp3.symm, hp4.symm⟩
  have n23 : p2 ≠ p3 := by omega
  have n24 : p2 ≠ p4 := by omega
  have n34 : p3 ≠ p4 := by omega
  have n42 : p4 ≠ p2 := by omega
  have k1 : Keep (fun j => j ≠ p2) W0 (W0.setCell ⟨p2, 0, none⟩ (.int .i64 X)) := (Keep.refl _ _).setCell (fun hn => hn rfl) _
  have s2 := (heap_set2 (u := .int .i64 X) g2).1
  have s4 := (k1.block p4 (lt_of_heap g4) n42).trans g4
  have HZ := Hid.mk' (put2 s4 (.int .i64 X) (.slice a n c))
  have HK := Hid.mk' k1
  obtain ⟨c0, c1, -⟩ := blk2 g2
  obtain ⟨d0, d1, -⟩ := blk2 g3
  obtain ⟨e0, e1, -⟩ := blk2 g4
  have f2 := fz2 g2 0
  have f4 := fz2 g4 0
  have f5 := fz2 g4 1
  clear hp2 hp3 hp4 hb k1 s2 s4 g2 g3 g4
  go_wp2_with (go_at_call 22; refine ho.mono ?_; rintro e w' ⟨rfl, hw'⟩; subst w')
  generalize ((W0.setCell ⟨p2, 0, none⟩ (.int .i64 X)).setCell ⟨p4, 0, none⟩ (.int .i64 X)).setCell ⟨p4, 1, none⟩ (.slice a n c) = w9 at *
  obtain ⟨z0, z1, -⟩ := blk2 HZ.out.1
  refine bodyPost_ret (v := .tuple #[.agg #[.int .i64 X, .slice a n c], .int .i64 W]) (by simp [results, Tryd.results13, go_sem, z0, z1]) rfl ?_
  obtain ⟨q1, q2, q3⟩ := HP.out
  have HF : Keep (fun j => j < p2) W0 w9 := (HK.out.mono fun j _ hj => by omega).trans (HZ.out.2.mono fun j _ hj => by omega)
  exact ⟨rfl, HB.out.trans (HF.below HB.out.size (fun j hj => by omega))⟩

set_option maxHeartbeats 2000000 in
set_option maxRecDepth 100000 in
/-- A frame by which it is closed. -/
theorem rtake_shut (S : Int) (a : Option Addr) (n c : Nat) (k : Int) (d : ByteArray) (W : Int) (w : World) (hX : onx S k = 6) (hW : onw S k = W) (h3 : W ≠ 3) :
    Calls Tryd.prog 13 #[.agg #[.int .i64 S, .slice a n c], .agg #[.int .i64 k, .string d]] w fun e w' => e = .returned (.tuple #[.agg #[.int .i64 6, .slice none 0 0], .int .i64 W]) ∧ Below w.heap.size w w' := by
  obtain ⟨hb, g2, g3, g4⟩ := three_boxes w (.int .i64 S) (.slice a n c) k d
  have ho := ron_any S k (((w.alloc (.cells #[.int .i64 S, .slice a n c] 28)).alloc (.cells #[.int .i64 k, .string d] 31)).alloc (.cells #[.int .i64 0, .slice none 0 0] 28))
  rw [hX, hW] at ho
  have b3 : (W == 3) = false := beq_eq_false_iff_ne.2 h3
  clear hX hW h3
  go_enter Tryd.func13, Tryd.ntmps13
  go_upto_region 1 with fail
  generalize ((w.alloc (.cells #[.int .i64 S, .slice a n c] 28)).alloc (.cells #[.int .i64 k, .string d] 31)).alloc (.cells #[.int .i64 0, .slice none 0 0] 28) = W0 at *
  have HB := Hid.mk' hb
  obtain ⟨p2, hp2⟩ : ∃ p, w.heap.size = p := ⟨_, rfl⟩
  obtain ⟨p3, hp3⟩ : ∃ p, p2 + 1 = p := ⟨_, rfl⟩
  obtain ⟨p4, hp4⟩ : ∃ p, p3 + 1 = p := ⟨_, rfl⟩
  rw [hp2] at g2
  rw [hp2, hp3] at g3
  rw [hp2, hp3, hp4] at g4
  rw [hp2, hp3, hp4]
  have HP : Hid (w.heap.size = p2 ∧ p3 = p2 + 1 ∧ p4 = p3 + 1) := ⟨hp2, hp3.symm, hp4.symm⟩
  have n23 : p2 ≠ p3 := by omega
  have n24 : p2 ≠ p4 := by omega
  have n34 : p3 ≠ p4 := by omega
  have n42 : p4 ≠ p2 := by omega
  have k1 : Keep (fun j => j ≠ p2) W0 ((W0.setCell ⟨p2, 0, none⟩ (.int .i64 6)).setCell ⟨p2, 1, none⟩ (.slice none 0 0)) := ((Keep.refl _ _).setCell (fun hn => hn rfl) _).setCell (fun hn => hn rfl) _
  have s4 := (k1.block p4 (lt_of_heap g4) n42).trans g4
  have HZ := Hid.mk' (put2 s4 (.int .i64 6) (.slice none 0 0))
  have HK := Hid.mk' k1
  obtain ⟨c0, c1, -⟩ := blk2 g2
  obtain ⟨d0, d1, -⟩ := blk2 g3
  obtain ⟨e0, e1, -⟩ := blk2 g4
  have f2 := fz2 g2 0
  have f3 := fz2 g2 1
  have f4 := fz2 g4 0
  have f5 := fz2 g4 1
  clear hp2 hp3 hp4 hb k1 s4 g2 g3 g4
  go_wp2_with (go_at_call 22; refine ho.mono ?_; rintro e w' ⟨rfl, hw'⟩; subst w')
  generalize (((W0.setCell ⟨p2, 0, none⟩ (.int .i64 6)).setCell ⟨p2, 1, none⟩ (.slice none 0 0)).setCell ⟨p4, 0, none⟩ (.int .i64 6)).setCell ⟨p4, 1, none⟩ (.slice none 0 0) = w9 at *
  obtain ⟨z0, z1, -⟩ := blk2 HZ.out.1
  refine bodyPost_ret (v := .tuple #[.agg #[.int .i64 6, .slice none 0 0], .int .i64 W]) (by simp [results, Tryd.results13, go_sem, z0, z1]) rfl ?_
  obtain ⟨q1, q2, q3⟩ := HP.out
  have HF : Keep (fun j => j < p2) W0 w9 := (HK.out.mono fun j _ hj => by omega).trans (HZ.out.2.mono fun j _ hj => by omega)
  exact ⟨rfl, HB.out.trans (HF.below HB.out.size (fun j hj => by omega))⟩

set_option maxHeartbeats 2000000 in
set_option maxRecDepth 100000 in
/-- A frame that would be held, where there is no room. -/
theorem rtake_full2 (a : Option Addr) (n c : Nat) (k : Int) (d : ByteArray) (X : Int) (w : World) (hX : onx 2 k = X) (hW : onw 2 k = 3) (hn : 4 ≤ n) :
    Calls Tryd.prog 13 #[.agg #[.int .i64 2, .slice a n c], .agg #[.int .i64 k, .string d]] w fun e w' => e = .returned (.tuple #[.agg #[.int .i64 6, .slice none 0 0], .int .i64 7]) ∧ Below w.heap.size w w' := by
  obtain ⟨hb, g2, g3, g4⟩ := three_boxes w (.int .i64 2) (.slice a n c) k d
  have ho := ron_any 2 k (((w.alloc (.cells #[.int .i64 2, .slice a n c] 28)).alloc (.cells #[.int .i64 k, .string d] 31)).alloc (.cells #[.int .i64 0, .slice none 0 0] 28))
  rw [hX, hW] at ho
  have hn' : (4 : Int) ≤ (n : Int) := by omega
  clear hX hW
  go_enter Tryd.func13, Tryd.ntmps13
  go_upto_region 1 with fail
  generalize ((w.alloc (.cells #[.int .i64 2, .slice a n c] 28)).alloc (.cells #[.int .i64 k, .string d] 31)).alloc (.cells #[.int .i64 0, .slice none 0 0] 28) = W0 at *
  have HB := Hid.mk' hb
  obtain ⟨p2, hp2⟩ : ∃ p, w.heap.size = p := ⟨_, rfl⟩
  obtain ⟨p3, hp3⟩ : ∃ p, p2 + 1 = p := ⟨_, rfl⟩
  obtain ⟨p4, hp4⟩ : ∃ p, p3 + 1 = p := ⟨_, rfl⟩
  rw [hp2] at g2
  rw [hp2, hp3] at g3
  rw [hp2, hp3, hp4] at g4
  rw [hp2, hp3, hp4]
  have HP : Hid (w.heap.size = p2 ∧ p3 = p2 + 1 ∧ p4 = p3 + 1) := ⟨hp2, hp3.symm, hp4.symm⟩
  have n23 : p2 ≠ p3 := by omega
  have n24 : p2 ≠ p4 := by omega
  have n34 : p3 ≠ p4 := by omega
  have n42 : p4 ≠ p2 := by omega
  have k1 : Keep (fun j => j ≠ p2) W0 ((W0.setCell ⟨p2, 0, none⟩ (.int .i64 6)).setCell ⟨p2, 1, none⟩ (.slice none 0 0)) := ((Keep.refl _ _).setCell (fun hn => hn rfl) _).setCell (fun hn => hn rfl) _
  have s4 := (k1.block p4 (lt_of_heap g4) n42).trans g4
  have HZ := Hid.mk' (put2 s4 (.int .i64 6) (.slice none 0 0))
  have HK := Hid.mk' k1
  obtain ⟨c0, c1, -⟩ := blk2 g2
  obtain ⟨d0, d1, -⟩ := blk2 g3
  obtain ⟨e0, e1, -⟩ := blk2 g4
  have f2 := fz2 g2 0
  have f3 := fz2 g2 1
  have f4 := fz2 g4 0
  have f5 := fz2 g4 1
  clear hp2 hp3 hp4 hb k1 s4 g2 g3 g4
  go_wp2_with (go_at_call 22; refine ho.mono ?_; rintro e w' ⟨rfl, hw'⟩; subst w')
  generalize (((W0.setCell ⟨p2, 0, none⟩ (.int .i64 6)).setCell ⟨p2, 1, none⟩ (.slice none 0 0)).setCell ⟨p4, 0, none⟩ (.int .i64 6)).setCell ⟨p4, 1, none⟩ (.slice none 0 0) = w9 at *
  obtain ⟨z0, z1, -⟩ := blk2 HZ.out.1
  refine bodyPost_ret (v := .tuple #[.agg #[.int .i64 6, .slice none 0 0], .int .i64 7]) (by simp [results, Tryd.results13, go_sem, z0, z1]) rfl ?_
  obtain ⟨q1, q2, q3⟩ := HP.out
  have HF : Keep (fun j => j < p2) W0 w9 := (HK.out.mono fun j _ hj => by omega).trans (HZ.out.2.mono fun j _ hj => by omega)
  exact ⟨rfl, HB.out.trans (HF.below HB.out.size (fun j hj => by omega))⟩
set_option maxHeartbeats 2000000 in
set_option maxRecDepth 100000 in
/-- A frame that would be held, where there is no room. -/
theorem rtake_full4 (a : Option Addr) (n c : Nat) (k : Int) (d : ByteArray) (X : Int) (w : World) (hX : onx 4 k = X) (hW : onw 4 k = 3) (hn : 4 ≤ n) :
    Calls Tryd.prog 13 #[.agg #[.int .i64 4, .slice a n c], .agg #[.int .i64 k, .string d]] w fun e w' => e = .returned (.tuple #[.agg #[.int .i64 6, .slice none 0 0], .int .i64 8]) ∧ Below w.heap.size w w' := by
  obtain ⟨hb, g2, g3, g4⟩ := three_boxes w (.int .i64 4) (.slice a n c) k d
  have ho := ron_any 4 k (((w.alloc (.cells #[.int .i64 4, .slice a n c] 28)).alloc (.cells #[.int .i64 k, .string d] 31)).alloc (.cells #[.int .i64 0, .slice none 0 0] 28))
  rw [hX, hW] at ho
  have hn' : (4 : Int) ≤ (n : Int) := by omega
  clear hX hW
  go_enter Tryd.func13, Tryd.ntmps13
  go_upto_region 1 with fail
  generalize ((w.alloc (.cells #[.int .i64 4, .slice a n c] 28)).alloc (.cells #[.int .i64 k, .string d] 31)).alloc (.cells #[.int .i64 0, .slice none 0 0] 28) = W0 at *
  have HB := Hid.mk' hb
  obtain ⟨p2, hp2⟩ : ∃ p, w.heap.size = p := ⟨_, rfl⟩
  obtain ⟨p3, hp3⟩ : ∃ p, p2 + 1 = p := ⟨_, rfl⟩
  obtain ⟨p4, hp4⟩ : ∃ p, p3 + 1 = p := ⟨_, rfl⟩
  rw [hp2] at g2
  rw [hp2, hp3] at g3
  rw [hp2, hp3, hp4] at g4
  rw [hp2, hp3, hp4]
  have HP : Hid (w.heap.size = p2 ∧ p3 = p2 + 1 ∧ p4 = p3 + 1) := ⟨hp2, hp3.symm, hp4.symm⟩
  have n23 : p2 ≠ p3 := by omega
  have n24 : p2 ≠ p4 := by omega
  have n34 : p3 ≠ p4 := by omega
  have n42 : p4 ≠ p2 := by omega
  have k1 : Keep (fun j => j ≠ p2) W0 ((W0.setCell ⟨p2, 0, none⟩ (.int .i64 6)).setCell ⟨p2, 1, none⟩ (.slice none 0 0)) := ((Keep.refl _ _).setCell (fun hn => hn rfl) _).setCell (fun hn => hn rfl) _
  have s4 := (k1.block p4 (lt_of_heap g4) n42).trans g4
  have HZ := Hid.mk' (put2 s4 (.int .i64 6) (.slice none 0 0))
  have HK := Hid.mk' k1
  obtain ⟨c0, c1, -⟩ := blk2 g2
  obtain ⟨d0, d1, -⟩ := blk2 g3
  obtain ⟨e0, e1, -⟩ := blk2 g4
  have f2 := fz2 g2 0
  have f3 := fz2 g2 1
  have f4 := fz2 g4 0
  have f5 := fz2 g4 1
  clear hp2 hp3 hp4 hb k1 s4 g2 g3 g4
  go_wp2_with (go_at_call 22; refine ho.mono ?_; rintro e w' ⟨rfl, hw'⟩; subst w')
  generalize (((W0.setCell ⟨p2, 0, none⟩ (.int .i64 6)).setCell ⟨p2, 1, none⟩ (.slice none 0 0)).setCell ⟨p4, 0, none⟩ (.int .i64 6)).setCell ⟨p4, 1, none⟩ (.slice none 0 0) = w9 at *
  obtain ⟨z0, z1, -⟩ := blk2 HZ.out.1
  refine bodyPost_ret (v := .tuple #[.agg #[.int .i64 6, .slice none 0 0], .int .i64 8]) (by simp [results, Tryd.results13, go_sem, z0, z1]) rfl ?_
  obtain ⟨q1, q2, q3⟩ := HP.out
  have HF : Keep (fun j => j < p2) W0 w9 := (HK.out.mono fun j _ hj => by omega).trans (HZ.out.2.mono fun j _ hj => by omega)
  exact ⟨rfl, HB.out.trans (HF.below HB.out.size (fun j hj => by omega))⟩

set_option maxHeartbeats 2000000 in
set_option maxRecDepth 100000 in
/-- A frame that is held. -/
theorem rtake_hold (S : Int) (a : Option Addr) (n c : Nat) (l : List Fr) (k : Int) (d : ByteArray) (w : World) (hl : FrsAt w a n c l) (hX : onx S k = S) (hW : onw S k = 3) (hn : n < 4) (h6 : S ≠ 6) :
    Calls Tryd.prog 13 #[.agg #[.int .i64 S, .slice a n c], .agg #[.int .i64 k, .string d]] w fun e w' => ∃ a' c', e = .returned (.tuple #[.agg #[.int .i64 S, .slice a' (n + 1) c'], .int .i64 3]) ∧ FrsAt w' a' (n + 1) c' (l ++ [⟨k, d⟩]) ∧ Orig w w' a a' ∧ Below w.heap.size w w' := by
  obtain ⟨hb, g2, g3, g4⟩ := three_boxes w (.int .i64 S) (.slice a n c) k d
  have ho := ron_any S k (((w.alloc (.cells #[.int .i64 S, .slice a n c] 28)).alloc (.cells #[.int .i64 k, .string d] 31)).alloc (.cells #[.int .i64 0, .slice none 0 0] 28))
  rw [hX, hW] at ho
  have b6 : (S == 6) = false := beq_eq_false_iff_ne.2 h6
  have hn' : decide ((4 : Int) ≤ (n : Int)) = false := by simp; omega
  have HL0 := Hid.mk' (hl.below hb)
  have HBA : Hid (∀ x, 0 < n → a = some x → x.block ≠ w.heap.size) := by
    intro x h0 hx e
    obtain ⟨b, off, ea, hlt, _⟩ := hl.at_ 0 h0
    rw [ea] at hx
    cases hx
    have e' : b = w.heap.size := e
    omega
  clear hX hW h6 hl
  go_enter Tryd.func13, Tryd.ntmps13
  go_upto_region 1 with fail
  generalize ((w.alloc (.cells #[.int .i64 S, .slice a n c] 28)).alloc (.cells #[.int .i64 k, .string d] 31)).alloc (.cells #[.int .i64 0, .slice none 0 0] 28) = W0 at *
  have HB := Hid.mk' hb
  obtain ⟨p2, hp2⟩ : ∃ p, w.heap.size = p := ⟨_, rfl⟩
  obtain ⟨p3, hp3⟩ : ∃ p, p2 + 1 = p := ⟨_, rfl⟩
  obtain ⟨p4, hp4⟩ : ∃ p, p3 + 1 = p := ⟨_, rfl⟩
  rw [hp2] at g2
  rw [hp2, hp3] at g3
  rw [hp2, hp3, hp4] at g4
  rw [hp2, hp3, hp4]
  have HP : Hid (w.heap.size = p2 ∧ p3 = p2 + 1 ∧ p4 = p3 + 1) := ⟨hp2, hp3.symm, hp4.symm⟩
  have n23 : p2 ≠ p3 := by omega
  have n24 : p2 ≠ p4 := by omega
  have n34 : p3 ≠ p4 := by omega
  have n42 : p4 ≠ p2 := by omega
  have k1 : Keep (fun j => j ≠ p2) W0 (W0.setCell ⟨p2, 0, none⟩ (.int .i64 S)) := (Keep.refl _ _).setCell (fun hn => hn rfl) _
  have s2 := (heap_set2 (u := .int .i64 S) g2).1
  have s4 := (k1.block p4 (lt_of_heap g4) n42).trans g4
  have HS2 := Hid.mk' s2
  have HS4 := Hid.mk' s4
  have HK := Hid.mk' k1
  have HLW := Hid.mk' (HL0.out.keepN k1 (fun x h0 hx => by have := HBA.out x h0 hx; rwa [hp2] at this))
  have hg3 := (k1.block p3 (lt_of_heap g3) (fun e => n23 e.symm)).trans g3
  have HG3 := Hid.mk' hg3
  obtain ⟨c0, c1, -⟩ := blk2 g2
  obtain ⟨d0, d1, -⟩ := blk2 g3
  have f2 := fz2 g2 0
  clear hp2 hp3 hp4 hb k1 s2 s4 g2 g3 g4 hg3 HL0 HBA
  go_upto_region 10 with (go_at_call 22; refine ho.mono ?_; rintro e w' ⟨rfl, hw'⟩; subst w')
  generalize W0.setCell ⟨p2, 0, none⟩ (.int .i64 S) = W1 at *
  clear c0 c1 d0 d1 f2 ho
  have hb4 : p4 < W1.heap.size := lt_of_heap HS4.out
  obtain ⟨base, hbase⟩ : ∃ base, W1.heap.size = base := ⟨_, rfl⟩
  have o0 : W1.ownsRow base 31 2 (.slice none 0 0) 0 (flat []) := World.ownsRow_nil _ _ _ _
  have HBS : Hid (W1.heap.size = base ∧ p2 < base ∧ p3 < base ∧ p4 < base) := by have := HP.out; exact ⟨hbase, by omega, by omega, by omega⟩
  clear hbase hb4
  obtain ⟨c0, c1, -⟩ := blk2 HS2.out
  have hlw := HLW.out
  go_wp2_with (at_builtin; refine wpList_frs _ rfl _ _ rfl base (.slice none 0 0) 0 [] l l rfl o0 a n c rfl hlw (by omega) (Nat.le_of_eq HBS.out.1.symm) rfl n (by omega) ?_)
  intro v5 w5 ho5 hg5
  obtain ⟨a5, c5, rfl, -, ha5⟩ := owns_frs ho5
  have hk5 : Keep (fun j => j < base) W1 w5 := keep_grown hg5 (fun k e => by cases e)
  have g3 := (hk5.block p3 (lt_of_heap HG3.out) HBS.out.2.2.1).trans HG3.out
  have HK5 := Hid.mk' hk5
  have HA5 := Hid.mk' ha5
  obtain ⟨d0, d1, -⟩ := blk2 g3
  have HS5 : Hid (base ≤ w5.heap.size) := by have := hk5.size; have := HBS.out.1; show _ ≤ _; omega
  clear hg5 hlw o0 c0 c1 ha5 hk5 g3
  go_upto_region 11 with fail
  have hf6 := one_fr w5 k d
  have ho6 := ho5.alloc (.cells #[.int .i64 k, .string d] 31)
  have hk6 : Keep (fun j => j < base) W1 (w5.alloc (.cells #[.int .i64 k, .string d] 31)) := HK5.out.trans ((Keep.refl _ _).alloc _)
  obtain ⟨r0, r1, -⟩ := blk2 ((hk6.block p2 (lt_of_heap HS2.out) HBS.out.2.1).trans HS2.out)
  have HK6 := Hid.mk' hk6
  have HS6 : Hid (base ≤ (w5.alloc (.cells #[.int .i64 k, .string d] 31)).heap.size) := by have := HS5.out; show _ ≤ _; simp; omega
  have HST : Hid (∀ w7 v, Keep (fun j => j < base) W1 w7 → w7.cell? ⟨p2, 1, none⟩ = some (.slice a n c) ∧ w7.cell? ⟨p2, 0, none⟩ = some (.int .i64 S) ∧ (∀ o, w7.frozen? ⟨p2, o, none⟩ = false) ∧ (∀ o, w7.frozen? ⟨p4, o, none⟩ = false) ∧ w7.cell? ⟨p4, 0, none⟩ = some (.int .i64 0) ∧ w7.cell? ⟨p4, 1, none⟩ = some (.slice none 0 0) ∧
      (((w7.setCell ⟨p2, 1, none⟩ v).setCell ⟨p4, 0, none⟩ (.int .i64 S)).setCell ⟨p4, 1, none⟩ v).heap[p4]? = some (.cells #[.int .i64 S, v] 28 (0, 0)) ∧ Keep (fun j => j ≠ p2 ∧ j ≠ p4) w7 (((w7.setCell ⟨p2, 1, none⟩ v).setCell ⟨p4, 0, none⟩ (.int .i64 S)).setCell ⟨p4, 1, none⟩ v)) := by
    intro w7 v hk7
    have g2 := (hk7.block p2 (lt_of_heap HS2.out) HBS.out.2.1).trans HS2.out
    have g4 := (hk7.block p4 (lt_of_heap HS4.out) HBS.out.2.2.2).trans HS4.out
    have k8 : Keep (fun j => j ≠ p2) w7 (w7.setCell ⟨p2, 1, none⟩ v) := (Keep.refl _ _).setCell (fun hn => hn rfl) _
    have g4' := (k8.block p4 (lt_of_heap g4) n42).trans g4
    obtain ⟨y1, y2⟩ := put2 g4' (.int .i64 S) v
    exact ⟨(blk2 g2).2.1, (blk2 g2).1, fun o => fz2 g2 o, fun o => fz2 g4 o, (blk2 g4).1, (blk2 g4).2.1, y1, (k8.mono fun j _ h => h.1).trans (y2.mono fun j _ h => h.2)⟩
  clear hk6
  go_wp2_with (at_builtin; refine wpList_frs _ rfl _ _ rfl base (.slice a5 n c5) n l [⟨k, d⟩] (l ++ [⟨k, d⟩]) rfl ho6 (some ⟨w5.heap.size, 0, none⟩) 1 1 rfl hf6 (by omega) HS6.out rfl (n + 1) rfl ?_)
  intro v7 w7 ho7 hg7
  have hk7 : Keep (fun j => j < base) W1 w7 := HK6.out.trans (keep_grown hg7 (fun j e hj => by
    cases a5 with
    | none => cases e
    | some x =>
      cases e
      have := (HA5.out x rfl).1
      omega))
  obtain ⟨a7, c7, rfl, hf7, ha7⟩ := owns_frs ho7
  obtain ⟨s1, s0, fz, fz4, t0, t1, hp, hk⟩ := HST.out w7 (.slice a7 (n + 1) c7) hk7
  have u1 := fz 1
  have u4 := fz4 0
  have u5 := fz4 1
  have HF7 := Hid.mk' (hf7.keepN hk (fun x _ e => by
    have h1 := (ha7 x e).1
    have h2 := HBS.out
    constructor <;> omega))
  have HBB : Hid (Below w.heap.size w (((w7.setCell ⟨p2, 1, none⟩ (.slice a7 (n + 1) c7)).setCell ⟨p4, 0, none⟩ (.int .i64 S)).setCell ⟨p4, 1, none⟩ (.slice a7 (n + 1) c7))) := by
    obtain ⟨q1, q2, q3⟩ := HP.out
    have h2 := HBS.out
    have hkk : Keep (fun j => j < p2) W0 _ := ((HK.out.mono fun j _ hj => by omega).trans (hk7.mono fun j _ hj => by omega)).trans (hk.mono fun j _ hj => by omega)
    exact HB.out.trans (hkk.below HB.out.size (fun j hj => by omega))
  have HOR : Hid (Orig w (((w7.setCell ⟨p2, 1, none⟩ (.slice a7 (n + 1) c7)).setCell ⟨p4, 0, none⟩ (.int .i64 S)).setCell ⟨p4, 1, none⟩ (.slice a7 (n + 1) c7)) a a7) := fun x e => .inr ⟨by have := (ha7 x e).1; have := HBS.out; have := HP.out; omega, Nat.lt_of_lt_of_le (ha7 x e).2 hk.size⟩
  have HPP := Hid.mk' hp
  clear fz fz4 ho7 hg7 hk7 hf7 ha7 hp hk ho6 hf6 ho5 r0 r1 d0 d1
  go_wp2
  generalize ((w7.setCell ⟨p2, 1, none⟩ (.slice a7 (n + 1) c7)).setCell ⟨p4, 0, none⟩ (.int .i64 S)).setCell ⟨p4, 1, none⟩ (.slice a7 (n + 1) c7) = w9 at *
  obtain ⟨z0, z1, -⟩ := blk2 HPP.out
  refine bodyPost_ret (v := .tuple #[.agg #[.int .i64 S, .slice a7 (n + 1) c7], .int .i64 3]) (by simp [results, Tryd.results13, go_sem, z0, z1]) rfl ?_
  exact ⟨a7, c7, rfl, HF7.out, HOR.out, HBB.out⟩

/-- The document's Take as a whole. -/
theorem rtake_any {s : Ft} (hI : Inv s) (a : Option Addr) (n c : Nat) (k : Int) (d : ByteArray) (w : World) (hl : FrsAt w a n c s.hl) :
    Calls Tryd.prog 13 #[.agg #[.int .i64 s.st, .slice a n c], .agg #[.int .i64 k, .string d]] w fun e w' => ∃ a' n' c', e = .returned (.tuple #[.agg #[.int .i64 (tk s ⟨k, d⟩).st, .slice a' n' c'], .int .i64 (tkw s k)]) ∧ FrsAt w' a' n' c' (tk s ⟨k, d⟩).hl ∧ Orig w w' a a' ∧ Below w.heap.size w w' := by
  have hln := hl.hlen
  show Calls Tryd.prog 13 #[.agg #[.int .i64 s.st, .slice a n c], .agg #[.int .i64 k, .string d]] w fun e w' => ∃ a' n' c', e = .returned (.tuple #[.agg #[.int .i64 (tkx s k), .slice a' n' c'], .int .i64 (tkw s k)]) ∧ FrsAt w' a' n' c' (tkh s ⟨k, d⟩) ∧ Orig w w' a a' ∧ Below w.heap.size w w'
  obtain ⟨S, l⟩ := s
  dsimp only at hl hln
  rcases tk_cases hI k with ⟨h1, h2, h3, h4, h5⟩ | ⟨h1, h2, h3⟩
  · have hv : tkw ⟨S, l⟩ k = lwh S 0 := by unfold tkw; rw [if_pos ⟨h1, h2⟩]
    have hh : tkh ⟨S, l⟩ ⟨k, d⟩ = [] := by unfold tkh; rw [if_pos h3]
    rw [h3, hh, hv]
    dsimp only at h1 h2 h5
    have h4n : 4 ≤ n := by omega
    rcases h5 with rfl | rfl
    · exact (rtake_full2 a n c k d _ w rfl h1 h4n).mono fun e w' ⟨q1, q2⟩ => ⟨none, 0, 0, q1, FrsAt.nil _, Orig.none _ _ _, q2⟩
    · exact (rtake_full4 a n c k d _ w rfl h1 h4n).mono fun e w' ⟨q1, q2⟩ => ⟨none, 0, 0, q1, FrsAt.nil _, Orig.none _ _ _, q2⟩
  · dsimp only at h1 h2 h3
    by_cases hh : onw S k = 3
    · have ht := (tab_all S k hI.lo hI.hi).2.2.1 hh
      have h6 : S ≠ 6 := by omega
      have hn4 : n < 4 := by
        have := hI.le
        dsimp only at this
        have : l.length ≠ 4 := fun e => h1 ⟨hh, e⟩
        omega
      have e : tkh ⟨S, l⟩ ⟨k, d⟩ = l ++ [⟨k, d⟩] := by
        unfold tkh
        dsimp only
        rw [h2, h3, hh, ht.2.1, if_neg h6]
        rfl
      rw [e, h2, h3, hh, ht.2.1]
      exact (rtake_hold S a n c l k d w hl ht.2.1 hh hn4 h6).mono fun e w' ⟨a', c', q1, q2, q3, q4⟩ => ⟨a', n + 1, c', q1, q2, q3, q4⟩
    · by_cases hx : onx S k = 6
      · have e : tkh ⟨S, l⟩ ⟨k, d⟩ = [] := by
          unfold tkh
          dsimp only
          rw [h2, hx]
          rfl
        rw [e, h2, h3, hx]
        exact (rtake_shut S a n c k d _ w hx rfl hh).mono fun e w' ⟨q1, q2⟩ => ⟨none, 0, 0, q1, FrsAt.nil _, Orig.none _ _ _, q2⟩
      · have e : tkh ⟨S, l⟩ ⟨k, d⟩ = l := by
          unfold tkh
          dsimp only
          rw [h2, h3, if_neg hx, if_neg hh]
        rw [e, h2, h3]
        exact (rtake_stay S a n c k d _ _ w rfl rfl hh hx).mono fun e w' ⟨q1, q2⟩ => ⟨a, n, c, q1, hl.below q2, Orig.same _ _ _, q2⟩

end Go.Proofs.YtegjaoaoiojhfaaDoor
