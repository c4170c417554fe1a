/-
  What the document's Go does: Bound 0, Done 1, Abort 2, Quit 3. Conditions: its held frames read as they are said to read; what always holds of a front holds of it.
-/
import Derived.Test.YtegjaoaoiojhfaaDoorRNext
namespace Go.Proofs.YtegjaoaoiojhfaaDoor
open Go.ChangeShapes Go.WideShapes Go.ChangeAt Go.RowKit

/-- The two blocks that the document's Go lays first: its front, its result. -/
theorem go_boxes (w : World) (x y : Value) :
    Below w.heap.size w ((w.alloc (.cells #[x, y] 28)).alloc (.cells #[.int .i64 0, .slice none 0 0] 28)) ∧
    ((w.alloc (.cells #[x, y] 28)).alloc (.cells #[.int .i64 0, .slice none 0 0] 28)).heap[w.heap.size]? = some (.cells #[x, y] 28 (0, 0)) ∧
    ((w.alloc (.cells #[x, y] 28)).alloc (.cells #[.int .i64 0, .slice none 0 0] 28)).heap[w.heap.size + 1]? = some (.cells #[.int .i64 0, .slice none 0 0] 28 (0, 0)) := by
  refine ⟨((Below.refl _ w).alloc (Nat.le_refl _) _).alloc (by simp) _, ?_, ?_⟩
  · rw [Below.heap_alloc _ _ _ (by simp)]
    exact heap_alloc_new _ _
  · have := heap_alloc_new (w.alloc (.cells #[x, y] 28)) (.cells #[.int .i64 0, .slice none 0 0] 28)
    rwa [World.size_alloc] at this

set_option maxHeartbeats 2000000 in
set_option maxRecDepth 100000 in
theorem rgo_0y (a : Option Addr) (n c : Nat) (w : World) :
    Calls Tryd.prog 17 #[.agg #[.int .i64 2, .slice a n c], .int .i64 0] w fun e w' => e = .returned (.tuple #[.agg #[.int .i64 3, .slice a n c], .bool true]) ∧ Below w.heap.size w w' := by
  obtain ⟨hb, g2, g4⟩ := go_boxes w (.int .i64 2) (.slice a n c)
  go_enter Tryd.func17, Tryd.ntmps17
  go_upto_region 1 with fail
  generalize (w.alloc (.cells #[.int .i64 2, .slice a n c] 28)).alloc (.cells #[.int .i64 0, .slice none 0 0] 28) = W0 at *
  have HB := Hid.mk' hb
  obtain ⟨q2, hq2⟩ : ∃ p, w.heap.size = p := ⟨_, rfl⟩
  obtain ⟨q4, hq4⟩ : ∃ p, q2 + 1 = p := ⟨_, rfl⟩
  rw [hq2] at g2
  rw [hq2, hq4] at g4
  rw [hq2, hq4]
  have HP : Hid (w.heap.size = q2 ∧ q4 = q2 + 1) := ⟨hq2, hq4.symm⟩
  have n24 : q2 ≠ q4 := by omega
  have n42 : q4 ≠ q2 := by omega
  have k1 : Keep (fun j => j ≠ q2) W0 (W0.setCell ⟨q2, 0, none⟩ (.int .i64 3)) := (Keep.refl _ _).setCell (fun hn => hn rfl) _
  have HZ := Hid.mk' (put2 ((k1.block q4 (lt_of_heap g4) n42).trans g4) (.int .i64 3) (.slice a n c))
  have HK := Hid.mk' k1
  obtain ⟨c0, c1, -⟩ := blk2 g2
  obtain ⟨d0, d1, -⟩ := blk2 g4
  have f0 := fz2 g2 0
  have f1 := fz2 g2 1
  have f2 := fz2 g4 0
  have f3 := fz2 g4 1
  clear hq2 hq4 hb g2 g4 k1
  go_wp2
  generalize ((W0.setCell ⟨q2, 0, none⟩ (.int .i64 3)).setCell ⟨q4, 0, none⟩ (.int .i64 3)).setCell ⟨q4, 1, none⟩ (.slice a n c) = w9 at *
  obtain ⟨z0, z1, -⟩ := blk2 HZ.out.1
  refine bodyPost_ret (v := .tuple #[.agg #[.int .i64 3, .slice a n c], .bool true]) (by simp [results, Tryd.results17, go_sem, z0, z1]) rfl ?_
  obtain ⟨r1, r2⟩ := HP.out
  have HF : Keep (fun j => j < q2) W0 w9 := (HK.out.mono fun j _ hj => by omega).trans (HZ.out.2.mono fun j _ hj => by omega)
  exact ⟨rfl, HB.out.trans (HF.below HB.out.size (fun j hj => by omega))⟩

set_option maxHeartbeats 2000000 in
set_option maxRecDepth 100000 in
theorem rgo_0n (S : Int) (a : Option Addr) (n c : Nat) (w : World) (h2 : (S == 2) = false) :
    Calls Tryd.prog 17 #[.agg #[.int .i64 S, .slice a n c], .int .i64 0] w fun e w' => e = .returned (.tuple #[.agg #[.int .i64 S, .slice a n c], .bool false]) ∧ Below w.heap.size w w' := by
  obtain ⟨hb, g2, g4⟩ := go_boxes w (.int .i64 S) (.slice a n c)
  go_enter Tryd.func17, Tryd.ntmps17
  go_upto_region 1 with fail
  generalize (w.alloc (.cells #[.int .i64 S, .slice a n c] 28)).alloc (.cells #[.int .i64 0, .slice none 0 0] 28) = W0 at *
  have HB := Hid.mk' hb
  obtain ⟨q2, hq2⟩ : ∃ p, w.heap.size = p := ⟨_, rfl⟩
  obtain ⟨q4, hq4⟩ : ∃ p, q2 + 1 = p := ⟨_, rfl⟩
  rw [hq2] at g2
  rw [hq2, hq4] at g4
  rw [hq2, hq4]
  have HP : Hid (w.heap.size = q2 ∧ q4 = q2 + 1) := ⟨hq2, hq4.symm⟩
  have n24 : q2 ≠ q4 := by omega
  have n42 : q4 ≠ q2 := by omega
  have k1 : Keep (fun j => j ≠ q2) W0 (W0) := Keep.refl _ _
  have HZ := Hid.mk' (put2 ((k1.block q4 (lt_of_heap g4) n42).trans g4) (.int .i64 S) (.slice a n c))
  have HK := Hid.mk' k1
  obtain ⟨c0, c1, -⟩ := blk2 g2
  obtain ⟨d0, d1, -⟩ := blk2 g4
  have f0 := fz2 g2 0
  have f1 := fz2 g2 1
  have f2 := fz2 g4 0
  have f3 := fz2 g4 1
  clear hq2 hq4 hb g2 g4 k1
  go_wp2
  generalize ((W0).setCell ⟨q4, 0, none⟩ (.int .i64 S)).setCell ⟨q4, 1, none⟩ (.slice a n c) = w9 at *
  obtain ⟨z0, z1, -⟩ := blk2 HZ.out.1
  refine bodyPost_ret (v := .tuple #[.agg #[.int .i64 S, .slice a n c], .bool false]) (by simp [results, Tryd.results17, go_sem, z0, z1]) rfl ?_
  obtain ⟨r1, r2⟩ := HP.out
  have HF : Keep (fun j => j < q2) W0 w9 := (HK.out.mono fun j _ hj => by omega).trans (HZ.out.2.mono fun j _ hj => by omega)
  exact ⟨rfl, HB.out.trans (HF.below HB.out.size (fun j hj => by omega))⟩

set_option maxHeartbeats 2000000 in
set_option maxRecDepth 100000 in
theorem rgo_1y (a : Option Addr) (n c : Nat) (w : World) :
    Calls Tryd.prog 17 #[.agg #[.int .i64 4, .slice a n c], .int .i64 1] w fun e w' => e = .returned (.tuple #[.agg #[.int .i64 1, .slice a n c], .bool true]) ∧ Below w.heap.size w w' := by
  obtain ⟨hb, g2, g4⟩ := go_boxes w (.int .i64 4) (.slice a n c)
  go_enter Tryd.func17, Tryd.ntmps17
  go_upto_region 1 with fail
  generalize (w.alloc (.cells #[.int .i64 4, .slice a n c] 28)).alloc (.cells #[.int .i64 0, .slice none 0 0] 28) = W0 at *
  have HB := Hid.mk' hb
  obtain ⟨q2, hq2⟩ : ∃ p, w.heap.size = p := ⟨_, rfl⟩
  obtain ⟨q4, hq4⟩ : ∃ p, q2 + 1 = p := ⟨_, rfl⟩
  rw [hq2] at g2
  rw [hq2, hq4] at g4
  rw [hq2, hq4]
  have HP : Hid (w.heap.size = q2 ∧ q4 = q2 + 1) := ⟨hq2, hq4.symm⟩
  have n24 : q2 ≠ q4 := by omega
  have n42 : q4 ≠ q2 := by omega
  have k1 : Keep (fun j => j ≠ q2) W0 (W0.setCell ⟨q2, 0, none⟩ (.int .i64 1)) := (Keep.refl _ _).setCell (fun hn => hn rfl) _
  have HZ := Hid.mk' (put2 ((k1.block q4 (lt_of_heap g4) n42).trans g4) (.int .i64 1) (.slice a n c))
  have HK := Hid.mk' k1
  obtain ⟨c0, c1, -⟩ := blk2 g2
  obtain ⟨d0, d1, -⟩ := blk2 g4
  have f0 := fz2 g2 0
  have f1 := fz2 g2 1
  have f2 := fz2 g4 0
  have f3 := fz2 g4 1
  clear hq2 hq4 hb g2 g4 k1
  go_wp2
  generalize ((W0.setCell ⟨q2, 0, none⟩ (.int .i64 1)).setCell ⟨q4, 0, none⟩ (.int .i64 1)).setCell ⟨q4, 1, none⟩ (.slice a n c) = w9 at *
  obtain ⟨z0, z1, -⟩ := blk2 HZ.out.1
  refine bodyPost_ret (v := .tuple #[.agg #[.int .i64 1, .slice a n c], .bool true]) (by simp [results, Tryd.results17, go_sem, z0, z1]) rfl ?_
  obtain ⟨r1, r2⟩ := HP.out
  have HF : Keep (fun j => j < q2) W0 w9 := (HK.out.mono fun j _ hj => by omega).trans (HZ.out.2.mono fun j _ hj => by omega)
  exact ⟨rfl, HB.out.trans (HF.below HB.out.size (fun j hj => by omega))⟩

set_option maxHeartbeats 2000000 in
set_option maxRecDepth 100000 in
theorem rgo_1n (S : Int) (a : Option Addr) (n c : Nat) (w : World) (h4 : (S == 4) = false) :
    Calls Tryd.prog 17 #[.agg #[.int .i64 S, .slice a n c], .int .i64 1] w fun e w' => e = .returned (.tuple #[.agg #[.int .i64 S, .slice a n c], .bool false]) ∧ Below w.heap.size w w' := by
  obtain ⟨hb, g2, g4⟩ := go_boxes w (.int .i64 S) (.slice a n c)
  go_enter Tryd.func17, Tryd.ntmps17
  go_upto_region 1 with fail
  generalize (w.alloc (.cells #[.int .i64 S, .slice a n c] 28)).alloc (.cells #[.int .i64 0, .slice none 0 0] 28) = W0 at *
  have HB := Hid.mk' hb
  obtain ⟨q2, hq2⟩ : ∃ p, w.heap.size = p := ⟨_, rfl⟩
  obtain ⟨q4, hq4⟩ : ∃ p, q2 + 1 = p := ⟨_, rfl⟩
  rw [hq2] at g2
  rw [hq2, hq4] at g4
  rw [hq2, hq4]
  have HP : Hid (w.heap.size = q2 ∧ q4 = q2 + 1) := ⟨hq2, hq4.symm⟩
  have n24 : q2 ≠ q4 := by omega
  have n42 : q4 ≠ q2 := by omega
  have k1 : Keep (fun j => j ≠ q2) W0 (W0) := Keep.refl _ _
  have HZ := Hid.mk' (put2 ((k1.block q4 (lt_of_heap g4) n42).trans g4) (.int .i64 S) (.slice a n c))
  have HK := Hid.mk' k1
  obtain ⟨c0, c1, -⟩ := blk2 g2
  obtain ⟨d0, d1, -⟩ := blk2 g4
  have f0 := fz2 g2 0
  have f1 := fz2 g2 1
  have f2 := fz2 g4 0
  have f3 := fz2 g4 1
  clear hq2 hq4 hb g2 g4 k1
  go_wp2
  generalize ((W0).setCell ⟨q4, 0, none⟩ (.int .i64 S)).setCell ⟨q4, 1, none⟩ (.slice a n c) = w9 at *
  obtain ⟨z0, z1, -⟩ := blk2 HZ.out.1
  refine bodyPost_ret (v := .tuple #[.agg #[.int .i64 S, .slice a n c], .bool false]) (by simp [results, Tryd.results17, go_sem, z0, z1]) rfl ?_
  obtain ⟨r1, r2⟩ := HP.out
  have HF : Keep (fun j => j < q2) W0 w9 := (HK.out.mono fun j _ hj => by omega).trans (HZ.out.2.mono fun j _ hj => by omega)
  exact ⟨rfl, HB.out.trans (HF.below HB.out.size (fun j hj => by omega))⟩

set_option maxHeartbeats 2000000 in
set_option maxRecDepth 100000 in
theorem rgo_2y2 (a : Option Addr) (n c : Nat) (w : World) :
    Calls Tryd.prog 17 #[.agg #[.int .i64 2, .slice a n c], .int .i64 2] w fun e w' => e = .returned (.tuple #[.agg #[.int .i64 5, .slice a n c], .bool true]) ∧ Below w.heap.size w w' := by
  obtain ⟨hb, g2, g4⟩ := go_boxes w (.int .i64 2) (.slice a n c)
  go_enter Tryd.func17, Tryd.ntmps17
  go_upto_region 1 with fail
  generalize (w.alloc (.cells #[.int .i64 2, .slice a n c] 28)).alloc (.cells #[.int .i64 0, .slice none 0 0] 28) = W0 at *
  have HB := Hid.mk' hb
  obtain ⟨q2, hq2⟩ : ∃ p, w.heap.size = p := ⟨_, rfl⟩
  obtain ⟨q4, hq4⟩ : ∃ p, q2 + 1 = p := ⟨_, rfl⟩
  rw [hq2] at g2
  rw [hq2, hq4] at g4
  rw [hq2, hq4]
  have HP : Hid (w.heap.size = q2 ∧ q4 = q2 + 1) := ⟨hq2, hq4.symm⟩
  have n24 : q2 ≠ q4 := by omega
  have n42 : q4 ≠ q2 := by omega
  have k1 : Keep (fun j => j ≠ q2) W0 (W0.setCell ⟨q2, 0, none⟩ (.int .i64 5)) := (Keep.refl _ _).setCell (fun hn => hn rfl) _
  have HZ := Hid.mk' (put2 ((k1.block q4 (lt_of_heap g4) n42).trans g4) (.int .i64 5) (.slice a n c))
  have HK := Hid.mk' k1
  obtain ⟨c0, c1, -⟩ := blk2 g2
  obtain ⟨d0, d1, -⟩ := blk2 g4
  have f0 := fz2 g2 0
  have f1 := fz2 g2 1
  have f2 := fz2 g4 0
  have f3 := fz2 g4 1
  clear hq2 hq4 hb g2 g4 k1
  go_wp2
  generalize ((W0.setCell ⟨q2, 0, none⟩ (.int .i64 5)).setCell ⟨q4, 0, none⟩ (.int .i64 5)).setCell ⟨q4, 1, none⟩ (.slice a n c) = w9 at *
  obtain ⟨z0, z1, -⟩ := blk2 HZ.out.1
  refine bodyPost_ret (v := .tuple #[.agg #[.int .i64 5, .slice a n c], .bool true]) (by simp [results, Tryd.results17, go_sem, z0, z1]) rfl ?_
  obtain ⟨r1, r2⟩ := HP.out
  have HF : Keep (fun j => j < q2) W0 w9 := (HK.out.mono fun j _ hj => by omega).trans (HZ.out.2.mono fun j _ hj => by omega)
  exact ⟨rfl, HB.out.trans (HF.below HB.out.size (fun j hj => by omega))⟩

set_option maxHeartbeats 2000000 in
set_option maxRecDepth 100000 in
theorem rgo_2y3 (a : Option Addr) (n c : Nat) (w : World) :
    Calls Tryd.prog 17 #[.agg #[.int .i64 3, .slice a n c], .int .i64 2] w fun e w' => e = .returned (.tuple #[.agg #[.int .i64 5, .slice a n c], .bool true]) ∧ Below w.heap.size w w' := by
  obtain ⟨hb, g2, g4⟩ := go_boxes w (.int .i64 3) (.slice a n c)
  go_enter Tryd.func17, Tryd.ntmps17
  go_upto_region 1 with fail
  generalize (w.alloc (.cells #[.int .i64 3, .slice a n c] 28)).alloc (.cells #[.int .i64 0, .slice none 0 0] 28) = W0 at *
  have HB := Hid.mk' hb
  obtain ⟨q2, hq2⟩ : ∃ p, w.heap.size = p := ⟨_, rfl⟩
  obtain ⟨q4, hq4⟩ : ∃ p, q2 + 1 = p := ⟨_, rfl⟩
  rw [hq2] at g2
  rw [hq2, hq4] at g4
  rw [hq2, hq4]
  have HP : Hid (w.heap.size = q2 ∧ q4 = q2 + 1) := ⟨hq2, hq4.symm⟩
  have n24 : q2 ≠ q4 := by omega
  have n42 : q4 ≠ q2 := by omega
  have k1 : Keep (fun j => j ≠ q2) W0 (W0.setCell ⟨q2, 0, none⟩ (.int .i64 5)) := (Keep.refl _ _).setCell (fun hn => hn rfl) _
  have HZ := Hid.mk' (put2 ((k1.block q4 (lt_of_heap g4) n42).trans g4) (.int .i64 5) (.slice a n c))
  have HK := Hid.mk' k1
  obtain ⟨c0, c1, -⟩ := blk2 g2
  obtain ⟨d0, d1, -⟩ := blk2 g4
  have f0 := fz2 g2 0
  have f1 := fz2 g2 1
  have f2 := fz2 g4 0
  have f3 := fz2 g4 1
  clear hq2 hq4 hb g2 g4 k1
  go_wp2
  generalize ((W0.setCell ⟨q2, 0, none⟩ (.int .i64 5)).setCell ⟨q4, 0, none⟩ (.int .i64 5)).setCell ⟨q4, 1, none⟩ (.slice a n c) = w9 at *
  obtain ⟨z0, z1, -⟩ := blk2 HZ.out.1
  refine bodyPost_ret (v := .tuple #[.agg #[.int .i64 5, .slice a n c], .bool true]) (by simp [results, Tryd.results17, go_sem, z0, z1]) rfl ?_
  obtain ⟨r1, r2⟩ := HP.out
  have HF : Keep (fun j => j < q2) W0 w9 := (HK.out.mono fun j _ hj => by omega).trans (HZ.out.2.mono fun j _ hj => by omega)
  exact ⟨rfl, HB.out.trans (HF.below HB.out.size (fun j hj => by omega))⟩

set_option maxHeartbeats 2000000 in
set_option maxRecDepth 100000 in
theorem rgo_2y4 (a : Option Addr) (n c : Nat) (w : World) :
    Calls Tryd.prog 17 #[.agg #[.int .i64 4, .slice a n c], .int .i64 2] w fun e w' => e = .returned (.tuple #[.agg #[.int .i64 1, .slice a n c], .bool true]) ∧ Below w.heap.size w w' := by
  obtain ⟨hb, g2, g4⟩ := go_boxes w (.int .i64 4) (.slice a n c)
  go_enter Tryd.func17, Tryd.ntmps17
  go_upto_region 1 with fail
  generalize (w.alloc (.cells #[.int .i64 4, .slice a n c] 28)).alloc (.cells #[.int .i64 0, .slice none 0 0] 28) = W0 at *
  have HB := Hid.mk' hb
  obtain ⟨q2, hq2⟩ : ∃ p, w.heap.size = p := ⟨_, rfl⟩
  obtain ⟨q4, hq4⟩ : ∃ p, q2 + 1 = p := ⟨_, rfl⟩
  rw [hq2] at g2
  rw [hq2, hq4] at g4
  rw [hq2, hq4]
  have HP : Hid (w.heap.size = q2 ∧ q4 = q2 + 1) := ⟨hq2, hq4.symm⟩
  have n24 : q2 ≠ q4 := by omega
  have n42 : q4 ≠ q2 := by omega
  have k1 : Keep (fun j => j ≠ q2) W0 (W0.setCell ⟨q2, 0, none⟩ (.int .i64 1)) := (Keep.refl _ _).setCell (fun hn => hn rfl) _
  have HZ := Hid.mk' (put2 ((k1.block q4 (lt_of_heap g4) n42).trans g4) (.int .i64 1) (.slice a n c))
  have HK := Hid.mk' k1
  obtain ⟨c0, c1, -⟩ := blk2 g2
  obtain ⟨d0, d1, -⟩ := blk2 g4
  have f0 := fz2 g2 0
  have f1 := fz2 g2 1
  have f2 := fz2 g4 0
  have f3 := fz2 g4 1
  clear hq2 hq4 hb g2 g4 k1
  go_wp2
  generalize ((W0.setCell ⟨q2, 0, none⟩ (.int .i64 1)).setCell ⟨q4, 0, none⟩ (.int .i64 1)).setCell ⟨q4, 1, none⟩ (.slice a n c) = w9 at *
  obtain ⟨z0, z1, -⟩ := blk2 HZ.out.1
  refine bodyPost_ret (v := .tuple #[.agg #[.int .i64 1, .slice a n c], .bool true]) (by simp [results, Tryd.results17, go_sem, z0, z1]) rfl ?_
  obtain ⟨r1, r2⟩ := HP.out
  have HF : Keep (fun j => j < q2) W0 w9 := (HK.out.mono fun j _ hj => by omega).trans (HZ.out.2.mono fun j _ hj => by omega)
  exact ⟨rfl, HB.out.trans (HF.below HB.out.size (fun j hj => by omega))⟩

set_option maxHeartbeats 2000000 in
set_option maxRecDepth 100000 in
theorem rgo_2n (S : Int) (a : Option Addr) (n c : Nat) (w : World) (h2 : (S == 2) = false) (h3 : (S == 3) = false) (h4 : (S == 4) = false) :
    Calls Tryd.prog 17 #[.agg #[.int .i64 S, .slice a n c], .int .i64 2] w fun e w' => e = .returned (.tuple #[.agg #[.int .i64 S, .slice a n c], .bool false]) ∧ Below w.heap.size w w' := by
  obtain ⟨hb, g2, g4⟩ := go_boxes w (.int .i64 S) (.slice a n c)
  go_enter Tryd.func17, Tryd.ntmps17
  go_upto_region 1 with fail
  generalize (w.alloc (.cells #[.int .i64 S, .slice a n c] 28)).alloc (.cells #[.int .i64 0, .slice none 0 0] 28) = W0 at *
  have HB := Hid.mk' hb
  obtain ⟨q2, hq2⟩ : ∃ p, w.heap.size = p := ⟨_, rfl⟩
  obtain ⟨q4, hq4⟩ : ∃ p, q2 + 1 = p := ⟨_, rfl⟩
  rw [hq2] at g2
  rw [hq2, hq4] at g4
  rw [hq2, hq4]
  have HP : Hid (w.heap.size = q2 ∧ q4 = q2 + 1) := ⟨hq2, hq4.symm⟩
  have n24 : q2 ≠ q4 := by omega
  have n42 : q4 ≠ q2 := by omega
  have k1 : Keep (fun j => j ≠ q2) W0 (W0) := Keep.refl _ _
  have HZ := Hid.mk' (put2 ((k1.block q4 (lt_of_heap g4) n42).trans g4) (.int .i64 S) (.slice a n c))
  have HK := Hid.mk' k1
  obtain ⟨c0, c1, -⟩ := blk2 g2
  obtain ⟨d0, d1, -⟩ := blk2 g4
  have f0 := fz2 g2 0
  have f1 := fz2 g2 1
  have f2 := fz2 g4 0
  have f3 := fz2 g4 1
  clear hq2 hq4 hb g2 g4 k1
  go_wp2
  generalize ((W0).setCell ⟨q4, 0, none⟩ (.int .i64 S)).setCell ⟨q4, 1, none⟩ (.slice a n c) = w9 at *
  obtain ⟨z0, z1, -⟩ := blk2 HZ.out.1
  refine bodyPost_ret (v := .tuple #[.agg #[.int .i64 S, .slice a n c], .bool false]) (by simp [results, Tryd.results17, go_sem, z0, z1]) rfl ?_
  obtain ⟨r1, r2⟩ := HP.out
  have HF : Keep (fun j => j < q2) W0 w9 := (HK.out.mono fun j _ hj => by omega).trans (HZ.out.2.mono fun j _ hj => by omega)
  exact ⟨rfl, HB.out.trans (HF.below HB.out.size (fun j hj => by omega))⟩

set_option maxHeartbeats 2000000 in
set_option maxRecDepth 100000 in
theorem rgo_3y (S : Int) (a : Option Addr) (n c : Nat) (w : World) (h6 : (S != 6) = true) :
    Calls Tryd.prog 17 #[.agg #[.int .i64 S, .slice a n c], .int .i64 3] w fun e w' => e = .returned (.tuple #[.agg #[.int .i64 6, .slice none 0 0], .bool true]) ∧ Below w.heap.size w w' := by
  obtain ⟨hb, g2, g4⟩ := go_boxes w (.int .i64 S) (.slice a n c)
  go_enter Tryd.func17, Tryd.ntmps17
  go_upto_region 1 with fail
  generalize (w.alloc (.cells #[.int .i64 S, .slice a n c] 28)).alloc (.cells #[.int .i64 0, .slice none 0 0] 28) = W0 at *
  have HB := Hid.mk' hb
  obtain ⟨q2, hq2⟩ : ∃ p, w.heap.size = p := ⟨_, rfl⟩
  obtain ⟨q4, hq4⟩ : ∃ p, q2 + 1 = p := ⟨_, rfl⟩
  rw [hq2] at g2
  rw [hq2, hq4] at g4
  rw [hq2, hq4]
  have HP : Hid (w.heap.size = q2 ∧ q4 = q2 + 1) := ⟨hq2, hq4.symm⟩
  have n24 : q2 ≠ q4 := by omega
  have n42 : q4 ≠ q2 := by omega
  have k1 : Keep (fun j => j ≠ q2) W0 ((W0.setCell ⟨q2, 1, none⟩ (.slice none 0 0)).setCell ⟨q2, 0, none⟩ (.int .i64 6)) := ((Keep.refl _ _).setCell (fun hn => hn rfl) _).setCell (fun hn => hn rfl) _
  have HZ := Hid.mk' (put2 ((k1.block q4 (lt_of_heap g4) n42).trans g4) (.int .i64 6) (.slice none 0 0))
  have HK := Hid.mk' k1
  obtain ⟨c0, c1, -⟩ := blk2 g2
  obtain ⟨d0, d1, -⟩ := blk2 g4
  have f0 := fz2 g2 0
  have f1 := fz2 g2 1
  have f2 := fz2 g4 0
  have f3 := fz2 g4 1
  clear hq2 hq4 hb g2 g4 k1
  go_wp2
  generalize (((W0.setCell ⟨q2, 1, none⟩ (.slice none 0 0)).setCell ⟨q2, 0, none⟩ (.int .i64 6)).setCell ⟨q4, 0, none⟩ (.int .i64 6)).setCell ⟨q4, 1, none⟩ (.slice none 0 0) = w9 at *
  obtain ⟨z0, z1, -⟩ := blk2 HZ.out.1
  refine bodyPost_ret (v := .tuple #[.agg #[.int .i64 6, .slice none 0 0], .bool true]) (by simp [results, Tryd.results17, go_sem, z0, z1]) rfl ?_
  obtain ⟨r1, r2⟩ := HP.out
  have HF : Keep (fun j => j < q2) W0 w9 := (HK.out.mono fun j _ hj => by omega).trans (HZ.out.2.mono fun j _ hj => by omega)
  exact ⟨rfl, HB.out.trans (HF.below HB.out.size (fun j hj => by omega))⟩

set_option maxHeartbeats 2000000 in
set_option maxRecDepth 100000 in
theorem rgo_3n (a : Option Addr) (n c : Nat) (w : World) :
    Calls Tryd.prog 17 #[.agg #[.int .i64 6, .slice a n c], .int .i64 3] w fun e w' => e = .returned (.tuple #[.agg #[.int .i64 6, .slice a n c], .bool false]) ∧ Below w.heap.size w w' := by
  obtain ⟨hb, g2, g4⟩ := go_boxes w (.int .i64 6) (.slice a n c)
  go_enter Tryd.func17, Tryd.ntmps17
  go_upto_region 1 with fail
  generalize (w.alloc (.cells #[.int .i64 6, .slice a n c] 28)).alloc (.cells #[.int .i64 0, .slice none 0 0] 28) = W0 at *
  have HB := Hid.mk' hb
  obtain ⟨q2, hq2⟩ : ∃ p, w.heap.size = p := ⟨_, rfl⟩
  obtain ⟨q4, hq4⟩ : ∃ p, q2 + 1 = p := ⟨_, rfl⟩
  rw [hq2] at g2
  rw [hq2, hq4] at g4
  rw [hq2, hq4]
  have HP : Hid (w.heap.size = q2 ∧ q4 = q2 + 1) := ⟨hq2, hq4.symm⟩
  have n24 : q2 ≠ q4 := by omega
  have n42 : q4 ≠ q2 := by omega
  have k1 : Keep (fun j => j ≠ q2) W0 (W0) := Keep.refl _ _
  have HZ := Hid.mk' (put2 ((k1.block q4 (lt_of_heap g4) n42).trans g4) (.int .i64 6) (.slice a n c))
  have HK := Hid.mk' k1
  obtain ⟨c0, c1, -⟩ := blk2 g2
  obtain ⟨d0, d1, -⟩ := blk2 g4
  have f0 := fz2 g2 0
  have f1 := fz2 g2 1
  have f2 := fz2 g4 0
  have f3 := fz2 g4 1
  clear hq2 hq4 hb g2 g4 k1
  go_wp2
  generalize ((W0).setCell ⟨q4, 0, none⟩ (.int .i64 6)).setCell ⟨q4, 1, none⟩ (.slice a n c) = w9 at *
  obtain ⟨z0, z1, -⟩ := blk2 HZ.out.1
  refine bodyPost_ret (v := .tuple #[.agg #[.int .i64 6, .slice a n c], .bool false]) (by simp [results, Tryd.results17, go_sem, z0, z1]) rfl ?_
  obtain ⟨r1, r2⟩ := HP.out
  have HF : Keep (fun j => j < q2) W0 w9 := (HK.out.mono fun j _ hj => by omega).trans (HZ.out.2.mono fun j _ hj => by omega)
  exact ⟨rfl, HB.out.trans (HF.below HB.out.size (fun j hj => by omega))⟩

theorem goT_no {m : Int} {s : Ft} (h : goB m s.st = false) : goT m s = s := by unfold goT; rw [h]; rfl
theorem goT_yes {m : Int} {s : Ft} (h : goB m s.st = true) : goT m s = ⟨goX m s.st, if goX m s.st = 6 then [] else s.hl⟩ := by unfold goT; rw [h]; rfl

/-- The document's Go as a whole. -/
theorem rgo_any (s : Ft) (m : Int) (hm : m = 0 ∨ m = 1 ∨ m = 2 ∨ m = 3) (a : Option Addr) (n c : Nat) (w : World) (hl : FrsAt w a n c s.hl) :
    Calls Tryd.prog 17 #[.agg #[.int .i64 s.st, .slice a n c], .int .i64 m] w fun e w' => ∃ a' n' c', e = .returned (.tuple #[.agg #[.int .i64 (goT m s).st, .slice a' n' c'], .bool (goB m s.st)]) ∧ FrsAt w' a' n' c' (goT m s).hl ∧ Orig w w' a a' ∧ Below w.heap.size w w' := by
  obtain ⟨S, l⟩ := s
  dsimp only at hl
  have no : ∀ m, goB m S = false → (Calls Tryd.prog 17 #[.agg #[.int .i64 S, .slice a n c], .int .i64 m] w fun e w' => e = .returned (.tuple #[.agg #[.int .i64 S, .slice a n c], .bool false]) ∧ Below w.heap.size w w') →
      Calls Tryd.prog 17 #[.agg #[.int .i64 S, .slice a n c], .int .i64 m] w fun e w' => ∃ a' n' c', e = .returned (.tuple #[.agg #[.int .i64 (goT m ⟨S, l⟩).st, .slice a' n' c'], .bool (goB m S)]) ∧ FrsAt w' a' n' c' (goT m ⟨S, l⟩).hl ∧ Orig w w' a a' ∧ Below w.heap.size w w' := by
    intro m hb hc
    rw [goT_no (s := ⟨S, l⟩) hb, hb]
    exact hc.mono fun e w' ⟨q1, q2⟩ => ⟨a, n, c, q1, hl.below q2, Orig.same _ _ _, q2⟩
  have yes : ∀ m X, goB m S = true → goX m S = X → X ≠ 6 → (Calls Tryd.prog 17 #[.agg #[.int .i64 S, .slice a n c], .int .i64 m] w fun e w' => e = .returned (.tuple #[.agg #[.int .i64 X, .slice a n c], .bool true]) ∧ Below w.heap.size w w') →
      Calls Tryd.prog 17 #[.agg #[.int .i64 S, .slice a n c], .int .i64 m] w fun e w' => ∃ a' n' c', e = .returned (.tuple #[.agg #[.int .i64 (goT m ⟨S, l⟩).st, .slice a' n' c'], .bool (goB m S)]) ∧ FrsAt w' a' n' c' (goT m ⟨S, l⟩).hl ∧ Orig w w' a a' ∧ Below w.heap.size w w' := by
    intro m X hb hx h6 hc
    rw [goT_yes (s := ⟨S, l⟩) hb, hb]
    dsimp only
    rw [hx, if_neg h6]
    exact hc.mono fun e w' ⟨q1, q2⟩ => ⟨a, n, c, q1, hl.below q2, Orig.same _ _ _, q2⟩
  rcases hm with rfl | rfl | rfl | rfl
  · by_cases h2 : S = 2
    · subst h2
      exact yes 0 3 (by decide) (by decide) (by decide) (rgo_0y a n c w)
    · exact no 0 (by simp [goB, h2]) (rgo_0n S a n c w (beq_eq_false_iff_ne.2 h2))
  · by_cases h4 : S = 4
    · subst h4
      exact yes 1 1 (by decide) (by decide) (by decide) (rgo_1y a n c w)
    · exact no 1 (by simp [goB, h4]) (rgo_1n S a n c w (beq_eq_false_iff_ne.2 h4))
  · by_cases h2 : S = 2
    · subst h2
      exact yes 2 5 (by decide) (by decide) (by decide) (rgo_2y2 a n c w)
    · by_cases h3 : S = 3
      · subst h3
        exact yes 2 5 (by decide) (by decide) (by decide) (rgo_2y3 a n c w)
      · by_cases h4 : S = 4
        · subst h4
          exact yes 2 1 (by decide) (by decide) (by decide) (rgo_2y4 a n c w)
        · exact no 2 (by simp [goB, h2, h3, h4]) (rgo_2n S a n c w (beq_eq_false_iff_ne.2 h2) (beq_eq_false_iff_ne.2 h3) (beq_eq_false_iff_ne.2 h4))
  · by_cases h6 : S = 6
    · subst h6
      exact no 3 (by decide) (rgo_3n a n c w)
    · have hb : goB 3 S = true := by simp [goB, h6]
      show Calls Tryd.prog 17 #[.agg #[.int .i64 S, .slice a n c], .int .i64 3] w fun e w' => ∃ a' n' c', e = .returned (.tuple #[.agg #[.int .i64 (goT 3 ⟨S, l⟩).st, .slice a' n' c'], .bool (goB 3 S)]) ∧ FrsAt w' a' n' c' (goT 3 ⟨S, l⟩).hl ∧ Orig w w' a a' ∧ Below w.heap.size w w'
      rw [goT_yes (s := ⟨S, l⟩) hb, hb]
      exact (rgo_3y S a n c w (by simpa using h6)).mono fun e w' ⟨q1, q2⟩ => ⟨none, 0, 0, q1, FrsAt.nil _, Orig.none _ _ _, q2⟩

end Go.Proofs.YtegjaoaoiojhfaaDoor
