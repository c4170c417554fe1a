/-
  What a step of the document's does, as a contract. Conditions: what always holds of a connection holds of it.
-/
import Derived.Test.YtnbpkjfaopfapaaDoorRefA
import Derived.Deep.CutBlock
namespace Go.Proofs.YtnbpkjfaopfapaaDoor
open Go.ChangeShapes Go.WideShapes Go.ChangeAt Go.RowKit

theorem RAt.below {w w' : World} {g : Nat} {h : ByteArray} {s : Bk} (hb : RAt w g h s) (hk : Below w.heap.size w w') : RAt w' g h s := (hk.block g (Cells7.lt hb)).trans hb

set_option maxHeartbeats 4000000 in
set_option maxRecDepth 100000 in
theorem rstep_any (h : ByteArray) (s : Bk) (k a b : Int) (w : World) (hi : Inv s 1000) :
    Calls Tryd.prog 7 #[.agg #[.int .i64 s.st, .string h, .int .i64 s.bo, .int .i64 s.dl, .int .i64 s.si, .int .i64 s.cl, .int .i64 s.ow], .agg #[.int .i64 k, .int .i64 a, .int .i64 b]] w fun e w' => e = .returned (.tuple #[rv h (stp (kindI k) a b s).1, .bool (stp (kindI k) a b s).2]) ∧ Below w.heap.size w w' := by
  obtain ⟨Q1, ⟨x0, x1, x2⟩, Q3, hbl⟩ := three_boxes w h s k a b
  have HI := Hid.mk' hi
  clear hi
  have hkk := kindI_of k
  obtain ⟨t, ht⟩ : ∃ t, t = (stp (kindI k) a b s).1 := ⟨_, rfl⟩
  obtain ⟨d, hd⟩ : ∃ d, d = (stp (kindI k) a b s).2 := ⟨_, rfl⟩
  rw [← ht, ← hd]
  have HT : Hid (stp (kindI k) a b s = (t, d)) := by rw [ht, hd]; exact rfl
  clear ht hd
  unfold rv
  go_enter Tryd.func7, Tryd.ntmps7
  go_upto_region 1 with fail
  generalize (((w.alloc (.cells #[.int .i64 s.st, .string h, .int .i64 s.bo, .int .i64 s.dl, .int .i64 s.si, .int .i64 s.cl, .int .i64 s.ow] 27)).alloc (.cells #[.int .i64 k, .int .i64 a, .int .i64 b] 30)).alloc (.cells #[.int .i64 0, .string ⟨#[]⟩, .int .i64 0, .int .i64 0, .int .i64 0, .int .i64 0, .int .i64 0] 27)) = W at *
  have HB := Hid.mk' hbl
  obtain ⟨p3, hp3⟩ : ∃ p, w.heap.size + 2 = p := ⟨_, rfl⟩
  obtain ⟨p2, hp2⟩ : ∃ p, w.heap.size + 1 = p := ⟨_, rfl⟩
  obtain ⟨p1, hp1⟩ : ∃ p, w.heap.size = p := ⟨_, rfl⟩
  rw [hp3] at Q3
  rw [hp2] at x0 x1 x2
  rw [hp1] at Q1
  try rw [hp3]
  try rw [hp2]
  try rw [hp1]
  have HP : Hid (w.heap.size = p1 ∧ p2 = p1 + 1 ∧ p3 = p1 + 2) := ⟨hp1, by omega, by omega⟩
  clear hp1 hp2 hp3 hbl
  have HQ1 := Hid.mk' Q1
  have HQ3 := Hid.mk' Q3
  have hl2 : p2 < W.heap.size := World.block_lt_of_cell? _ _ x0
  clear Q1 Q3
  have hkd := kind_any k a b W
  generalize kindI k = kk at *
  go_wp2_with fail
  refine hkd.mono ?_
  rintro e w2 ⟨rfl, hb2⟩
  have x1 := (hb2.cell (p := ⟨p2, 1, none⟩) hl2).trans x1
  have x2 := (hb2.cell (p := ⟨p2, 2, none⟩) hl2).trans x2
  have Q1 := HQ1.out.below hb2
  have HQ3b := Hid.mk' (HQ3.out.below hb2)
  have HB2 : Hid (Below w.heap.size w w2) := HB.out.trans (hb2.mono HB.out.size)
  obtain ⟨⟨c0, c1, c2⟩, c3, c4, c5, c6⟩ := Cells7.cells Q1
  clear hb2 hkd HQ1 HQ3 Q1 HB hl2 x0
  rcases hkk with rfl | rfl | rfl | rfl | rfl | rfl | rfl
  · have HC : Hid (Calls Tryd.prog 29 #[.agg #[.int .i64 s.st, .string h, .int .i64 s.bo, .int .i64 s.dl, .int .i64 s.si, .int .i64 s.cl, .int .i64 s.ow], .int .i64 a, .int .i64 b] w2 fun e w' => e = .returned (.tuple #[.agg #[.int .i64 t.st, .string h, .int .i64 t.bo, .int .i64 t.dl, .int .i64 t.si, .int .i64 t.cl, .int .i64 t.ow], .bool d]) ∧ Below w2.heap.size w2 w') := by
      have h1 := rthr_any h s a b w2 HI.out
      have h2 : thr s a b = (t, d) := HT.out
      rw [h2] at h1
      exact h1
    clear HT HI
    go_wp2_with fail
    refine HC.out.mono ?_
    rintro e w3 ⟨rfl, hb3⟩
    have Q3 := HQ3b.out.below hb3
    have HB3 : Hid (Below w.heap.size w w3) := HB2.out.trans (hb3.mono HB2.out.size)
    have HZ := Hid.mk' (Cells7.put Q3 (.int .i64 t.st) (.string h) (.int .i64 t.bo) (.int .i64 t.dl) (.int .i64 t.si) (.int .i64 t.cl) (.int .i64 t.ow))
    obtain ⟨⟨d0, d1, d2⟩, d3, d4, d5, d6⟩ := Cells7.cells Q3
    have e0 := Cells7.fz Q3 0
    have e1 := Cells7.fz Q3 1
    have e2 := Cells7.fz Q3 2
    have e3 := Cells7.fz Q3 3
    have e4 := Cells7.fz Q3 4
    have e5 := Cells7.fz Q3 5
    have e6 := Cells7.fz Q3 6
    clear hb3 HC HQ3b Q3 c0 c1 c2 c3 c4 c5 c6 x1 x2
    go_wp2
    generalize (((((((w3.setCell ⟨p3, 0, none⟩ (.int .i64 t.st)).setCell ⟨p3, 1, none⟩ (.string h)).setCell ⟨p3, 2, none⟩ (.int .i64 t.bo)).setCell ⟨p3, 3, none⟩ (.int .i64 t.dl)).setCell ⟨p3, 4, none⟩ (.int .i64 t.si)).setCell ⟨p3, 5, none⟩ (.int .i64 t.cl)).setCell ⟨p3, 6, none⟩ (.int .i64 t.ow)) = w9 at *
    obtain ⟨⟨z0, z1, z2⟩, z3, z4, z5, z6⟩ := Cells7.cells HZ.out.1
    refine bodyPost_ret (v := .tuple #[.agg #[.int .i64 t.st, .string h, .int .i64 t.bo, .int .i64 t.dl, .int .i64 t.si, .int .i64 t.cl, .int .i64 t.ow], .bool d]) (by simp [results, Tryd.results7, go_sem, z0, z1, z2, z3, z4, z5, z6]) rfl ?_
    obtain ⟨hp1, hp2, hp3⟩ := HP.out
    exact ⟨rfl, HB3.out.trans (HZ.out.2.below HB3.out.size (fun k hk => by omega))⟩
  · have HC : Hid (Calls Tryd.prog 30 #[.agg #[.int .i64 s.st, .string h, .int .i64 s.bo, .int .i64 s.dl, .int .i64 s.si, .int .i64 s.cl, .int .i64 s.ow], .int .i64 a] w2 fun e w' => e = .returned (.tuple #[.agg #[.int .i64 t.st, .string h, .int .i64 t.bo, .int .i64 t.dl, .int .i64 t.si, .int .i64 t.cl, .int .i64 t.ow], .bool d]) ∧ Below w2.heap.size w2 w') := by
      have h1 := rgre_any h s a w2 HI.out
      have h2 : gre s a = (t, d) := HT.out
      rw [h2] at h1
      exact h1
    clear HT HI
    go_wp2_with fail
    refine HC.out.mono ?_
    rintro e w3 ⟨rfl, hb3⟩
    have Q3 := HQ3b.out.below hb3
    have HB3 : Hid (Below w.heap.size w w3) := HB2.out.trans (hb3.mono HB2.out.size)
    have HZ := Hid.mk' (Cells7.put Q3 (.int .i64 t.st) (.string h) (.int .i64 t.bo) (.int .i64 t.dl) (.int .i64 t.si) (.int .i64 t.cl) (.int .i64 t.ow))
    obtain ⟨⟨d0, d1, d2⟩, d3, d4, d5, d6⟩ := Cells7.cells Q3
    have e0 := Cells7.fz Q3 0
    have e1 := Cells7.fz Q3 1
    have e2 := Cells7.fz Q3 2
    have e3 := Cells7.fz Q3 3
    have e4 := Cells7.fz Q3 4
    have e5 := Cells7.fz Q3 5
    have e6 := Cells7.fz Q3 6
    clear hb3 HC HQ3b Q3 c0 c1 c2 c3 c4 c5 c6 x1 x2
    go_wp2
    generalize (((((((w3.setCell ⟨p3, 0, none⟩ (.int .i64 t.st)).setCell ⟨p3, 1, none⟩ (.string h)).setCell ⟨p3, 2, none⟩ (.int .i64 t.bo)).setCell ⟨p3, 3, none⟩ (.int .i64 t.dl)).setCell ⟨p3, 4, none⟩ (.int .i64 t.si)).setCell ⟨p3, 5, none⟩ (.int .i64 t.cl)).setCell ⟨p3, 6, none⟩ (.int .i64 t.ow)) = w9 at *
    obtain ⟨⟨z0, z1, z2⟩, z3, z4, z5, z6⟩ := Cells7.cells HZ.out.1
    refine bodyPost_ret (v := .tuple #[.agg #[.int .i64 t.st, .string h, .int .i64 t.bo, .int .i64 t.dl, .int .i64 t.si, .int .i64 t.cl, .int .i64 t.ow], .bool d]) (by simp [results, Tryd.results7, go_sem, z0, z1, z2, z3, z4, z5, z6]) rfl ?_
    obtain ⟨hp1, hp2, hp3⟩ := HP.out
    exact ⟨rfl, HB3.out.trans (HZ.out.2.below HB3.out.size (fun k hk => by omega))⟩
  · have HC : Hid (Calls Tryd.prog 31 #[.agg #[.int .i64 s.st, .string h, .int .i64 s.bo, .int .i64 s.dl, .int .i64 s.si, .int .i64 s.cl, .int .i64 s.ow], .int .i64 a] w2 fun e w' => e = .returned (.tuple #[.agg #[.int .i64 t.st, .string h, .int .i64 t.bo, .int .i64 t.dl, .int .i64 t.si, .int .i64 t.cl, .int .i64 t.ow], .bool d]) ∧ Below w2.heap.size w2 w') := by
      have h1 := rbin_any h s a w2 HI.out
      have h2 : bin s a = (t, d) := HT.out
      rw [h2] at h1
      exact h1
    clear HT HI
    go_wp2_with fail
    refine HC.out.mono ?_
    rintro e w3 ⟨rfl, hb3⟩
    have Q3 := HQ3b.out.below hb3
    have HB3 : Hid (Below w.heap.size w w3) := HB2.out.trans (hb3.mono HB2.out.size)
    have HZ := Hid.mk' (Cells7.put Q3 (.int .i64 t.st) (.string h) (.int .i64 t.bo) (.int .i64 t.dl) (.int .i64 t.si) (.int .i64 t.cl) (.int .i64 t.ow))
    obtain ⟨⟨d0, d1, d2⟩, d3, d4, d5, d6⟩ := Cells7.cells Q3
    have e0 := Cells7.fz Q3 0
    have e1 := Cells7.fz Q3 1
    have e2 := Cells7.fz Q3 2
    have e3 := Cells7.fz Q3 3
    have e4 := Cells7.fz Q3 4
    have e5 := Cells7.fz Q3 5
    have e6 := Cells7.fz Q3 6
    clear hb3 HC HQ3b Q3 c0 c1 c2 c3 c4 c5 c6 x1 x2
    go_wp2
    generalize (((((((w3.setCell ⟨p3, 0, none⟩ (.int .i64 t.st)).setCell ⟨p3, 1, none⟩ (.string h)).setCell ⟨p3, 2, none⟩ (.int .i64 t.bo)).setCell ⟨p3, 3, none⟩ (.int .i64 t.dl)).setCell ⟨p3, 4, none⟩ (.int .i64 t.si)).setCell ⟨p3, 5, none⟩ (.int .i64 t.cl)).setCell ⟨p3, 6, none⟩ (.int .i64 t.ow)) = w9 at *
    obtain ⟨⟨z0, z1, z2⟩, z3, z4, z5, z6⟩ := Cells7.cells HZ.out.1
    refine bodyPost_ret (v := .tuple #[.agg #[.int .i64 t.st, .string h, .int .i64 t.bo, .int .i64 t.dl, .int .i64 t.si, .int .i64 t.cl, .int .i64 t.ow], .bool d]) (by simp [results, Tryd.results7, go_sem, z0, z1, z2, z3, z4, z5, z6]) rfl ?_
    obtain ⟨hp1, hp2, hp3⟩ := HP.out
    exact ⟨rfl, HB3.out.trans (HZ.out.2.below HB3.out.size (fun k hk => by omega))⟩
  · have HC : Hid (Calls Tryd.prog 32 #[.agg #[.int .i64 s.st, .string h, .int .i64 s.bo, .int .i64 s.dl, .int .i64 s.si, .int .i64 s.cl, .int .i64 s.ow]] w2 fun e w' => e = .returned (.tuple #[.agg #[.int .i64 t.st, .string h, .int .i64 t.bo, .int .i64 t.dl, .int .i64 t.si, .int .i64 t.cl, .int .i64 t.ow], .bool d]) ∧ Below w2.heap.size w2 w') := by
      have h1 := rsen_any h s w2 HI.out
      have h2 : sen s = (t, d) := HT.out
      rw [h2] at h1
      exact h1
    clear HT HI
    go_wp2_with fail
    refine HC.out.mono ?_
    rintro e w3 ⟨rfl, hb3⟩
    have Q3 := HQ3b.out.below hb3
    have HB3 : Hid (Below w.heap.size w w3) := HB2.out.trans (hb3.mono HB2.out.size)
    have HZ := Hid.mk' (Cells7.put Q3 (.int .i64 t.st) (.string h) (.int .i64 t.bo) (.int .i64 t.dl) (.int .i64 t.si) (.int .i64 t.cl) (.int .i64 t.ow))
    obtain ⟨⟨d0, d1, d2⟩, d3, d4, d5, d6⟩ := Cells7.cells Q3
    have e0 := Cells7.fz Q3 0
    have e1 := Cells7.fz Q3 1
    have e2 := Cells7.fz Q3 2
    have e3 := Cells7.fz Q3 3
    have e4 := Cells7.fz Q3 4
    have e5 := Cells7.fz Q3 5
    have e6 := Cells7.fz Q3 6
    clear hb3 HC HQ3b Q3 c0 c1 c2 c3 c4 c5 c6 x1 x2
    go_wp2
    generalize (((((((w3.setCell ⟨p3, 0, none⟩ (.int .i64 t.st)).setCell ⟨p3, 1, none⟩ (.string h)).setCell ⟨p3, 2, none⟩ (.int .i64 t.bo)).setCell ⟨p3, 3, none⟩ (.int .i64 t.dl)).setCell ⟨p3, 4, none⟩ (.int .i64 t.si)).setCell ⟨p3, 5, none⟩ (.int .i64 t.cl)).setCell ⟨p3, 6, none⟩ (.int .i64 t.ow)) = w9 at *
    obtain ⟨⟨z0, z1, z2⟩, z3, z4, z5, z6⟩ := Cells7.cells HZ.out.1
    refine bodyPost_ret (v := .tuple #[.agg #[.int .i64 t.st, .string h, .int .i64 t.bo, .int .i64 t.dl, .int .i64 t.si, .int .i64 t.cl, .int .i64 t.ow], .bool d]) (by simp [results, Tryd.results7, go_sem, z0, z1, z2, z3, z4, z5, z6]) rfl ?_
    obtain ⟨hp1, hp2, hp3⟩ := HP.out
    exact ⟨rfl, HB3.out.trans (HZ.out.2.below HB3.out.size (fun k hk => by omega))⟩
  · have HC : Hid (Calls Tryd.prog 33 #[.agg #[.int .i64 s.st, .string h, .int .i64 s.bo, .int .i64 s.dl, .int .i64 s.si, .int .i64 s.cl, .int .i64 s.ow]] w2 fun e w' => e = .returned (.tuple #[.agg #[.int .i64 t.st, .string h, .int .i64 t.bo, .int .i64 t.dl, .int .i64 t.si, .int .i64 t.cl, .int .i64 t.ow], .bool d]) ∧ Below w2.heap.size w2 w') := by
      have h1 := rgot_any h s w2 HI.out
      have h2 : got s = (t, d) := HT.out
      rw [h2] at h1
      exact h1
    clear HT HI
    go_wp2_with fail
    refine HC.out.mono ?_
    rintro e w3 ⟨rfl, hb3⟩
    have Q3 := HQ3b.out.below hb3
    have HB3 : Hid (Below w.heap.size w w3) := HB2.out.trans (hb3.mono HB2.out.size)
    have HZ := Hid.mk' (Cells7.put Q3 (.int .i64 t.st) (.string h) (.int .i64 t.bo) (.int .i64 t.dl) (.int .i64 t.si) (.int .i64 t.cl) (.int .i64 t.ow))
    obtain ⟨⟨d0, d1, d2⟩, d3, d4, d5, d6⟩ := Cells7.cells Q3
    have e0 := Cells7.fz Q3 0
    have e1 := Cells7.fz Q3 1
    have e2 := Cells7.fz Q3 2
    have e3 := Cells7.fz Q3 3
    have e4 := Cells7.fz Q3 4
    have e5 := Cells7.fz Q3 5
    have e6 := Cells7.fz Q3 6
    clear hb3 HC HQ3b Q3 c0 c1 c2 c3 c4 c5 c6 x1 x2
    go_wp2
    generalize (((((((w3.setCell ⟨p3, 0, none⟩ (.int .i64 t.st)).setCell ⟨p3, 1, none⟩ (.string h)).setCell ⟨p3, 2, none⟩ (.int .i64 t.bo)).setCell ⟨p3, 3, none⟩ (.int .i64 t.dl)).setCell ⟨p3, 4, none⟩ (.int .i64 t.si)).setCell ⟨p3, 5, none⟩ (.int .i64 t.cl)).setCell ⟨p3, 6, none⟩ (.int .i64 t.ow)) = w9 at *
    obtain ⟨⟨z0, z1, z2⟩, z3, z4, z5, z6⟩ := Cells7.cells HZ.out.1
    refine bodyPost_ret (v := .tuple #[.agg #[.int .i64 t.st, .string h, .int .i64 t.bo, .int .i64 t.dl, .int .i64 t.si, .int .i64 t.cl, .int .i64 t.ow], .bool d]) (by simp [results, Tryd.results7, go_sem, z0, z1, z2, z3, z4, z5, z6]) rfl ?_
    obtain ⟨hp1, hp2, hp3⟩ := HP.out
    exact ⟨rfl, HB3.out.trans (HZ.out.2.below HB3.out.size (fun k hk => by omega))⟩
  · have HC : Hid (Calls Tryd.prog 34 #[.agg #[.int .i64 s.st, .string h, .int .i64 s.bo, .int .i64 s.dl, .int .i64 s.si, .int .i64 s.cl, .int .i64 s.ow], .int .i64 a] w2 fun e w' => e = .returned (.tuple #[.agg #[.int .i64 t.st, .string h, .int .i64 t.bo, .int .i64 t.dl, .int .i64 t.si, .int .i64 t.cl, .int .i64 t.ow], .bool d]) ∧ Below w2.heap.size w2 w') := by
      have h1 := rfre_any h s a w2 HI.out
      have h2 : fre s a = (t, d) := HT.out
      rw [h2] at h1
      exact h1
    clear HT HI
    go_wp2_with fail
    refine HC.out.mono ?_
    rintro e w3 ⟨rfl, hb3⟩
    have Q3 := HQ3b.out.below hb3
    have HB3 : Hid (Below w.heap.size w w3) := HB2.out.trans (hb3.mono HB2.out.size)
    have HZ := Hid.mk' (Cells7.put Q3 (.int .i64 t.st) (.string h) (.int .i64 t.bo) (.int .i64 t.dl) (.int .i64 t.si) (.int .i64 t.cl) (.int .i64 t.ow))
    obtain ⟨⟨d0, d1, d2⟩, d3, d4, d5, d6⟩ := Cells7.cells Q3
    have e0 := Cells7.fz Q3 0
    have e1 := Cells7.fz Q3 1
    have e2 := Cells7.fz Q3 2
    have e3 := Cells7.fz Q3 3
    have e4 := Cells7.fz Q3 4
    have e5 := Cells7.fz Q3 5
    have e6 := Cells7.fz Q3 6
    clear hb3 HC HQ3b Q3 c0 c1 c2 c3 c4 c5 c6 x1 x2
    go_wp2
    generalize (((((((w3.setCell ⟨p3, 0, none⟩ (.int .i64 t.st)).setCell ⟨p3, 1, none⟩ (.string h)).setCell ⟨p3, 2, none⟩ (.int .i64 t.bo)).setCell ⟨p3, 3, none⟩ (.int .i64 t.dl)).setCell ⟨p3, 4, none⟩ (.int .i64 t.si)).setCell ⟨p3, 5, none⟩ (.int .i64 t.cl)).setCell ⟨p3, 6, none⟩ (.int .i64 t.ow)) = w9 at *
    obtain ⟨⟨z0, z1, z2⟩, z3, z4, z5, z6⟩ := Cells7.cells HZ.out.1
    refine bodyPost_ret (v := .tuple #[.agg #[.int .i64 t.st, .string h, .int .i64 t.bo, .int .i64 t.dl, .int .i64 t.si, .int .i64 t.cl, .int .i64 t.ow], .bool d]) (by simp [results, Tryd.results7, go_sem, z0, z1, z2, z3, z4, z5, z6]) rfl ?_
    obtain ⟨hp1, hp2, hp3⟩ := HP.out
    exact ⟨rfl, HB3.out.trans (HZ.out.2.below HB3.out.size (fun k hk => by omega))⟩
  · have HC : Hid (Calls Tryd.prog 35 #[.agg #[.int .i64 s.st, .string h, .int .i64 s.bo, .int .i64 s.dl, .int .i64 s.si, .int .i64 s.cl, .int .i64 s.ow]] w2 fun e w' => e = .returned (.tuple #[.agg #[.int .i64 t.st, .string h, .int .i64 t.bo, .int .i64 t.dl, .int .i64 t.si, .int .i64 t.cl, .int .i64 t.ow], .bool d]) ∧ Below w2.heap.size w2 w') := by
      have h1 := rkil_any h s w2 HI.out
      have h2 : kil s = (t, d) := HT.out
      rw [h2] at h1
      exact h1
    clear HT HI
    go_wp2_with fail
    refine HC.out.mono ?_
    rintro e w3 ⟨rfl, hb3⟩
    have Q3 := HQ3b.out.below hb3
    have HB3 : Hid (Below w.heap.size w w3) := HB2.out.trans (hb3.mono HB2.out.size)
    have HZ := Hid.mk' (Cells7.put Q3 (.int .i64 t.st) (.string h) (.int .i64 t.bo) (.int .i64 t.dl) (.int .i64 t.si) (.int .i64 t.cl) (.int .i64 t.ow))
    obtain ⟨⟨d0, d1, d2⟩, d3, d4, d5, d6⟩ := Cells7.cells Q3
    have e0 := Cells7.fz Q3 0
    have e1 := Cells7.fz Q3 1
    have e2 := Cells7.fz Q3 2
    have e3 := Cells7.fz Q3 3
    have e4 := Cells7.fz Q3 4
    have e5 := Cells7.fz Q3 5
    have e6 := Cells7.fz Q3 6
    clear hb3 HC HQ3b Q3 c0 c1 c2 c3 c4 c5 c6 x1 x2
    go_wp2
    generalize (((((((w3.setCell ⟨p3, 0, none⟩ (.int .i64 t.st)).setCell ⟨p3, 1, none⟩ (.string h)).setCell ⟨p3, 2, none⟩ (.int .i64 t.bo)).setCell ⟨p3, 3, none⟩ (.int .i64 t.dl)).setCell ⟨p3, 4, none⟩ (.int .i64 t.si)).setCell ⟨p3, 5, none⟩ (.int .i64 t.cl)).setCell ⟨p3, 6, none⟩ (.int .i64 t.ow)) = w9 at *
    obtain ⟨⟨z0, z1, z2⟩, z3, z4, z5, z6⟩ := Cells7.cells HZ.out.1
    refine bodyPost_ret (v := .tuple #[.agg #[.int .i64 t.st, .string h, .int .i64 t.bo, .int .i64 t.dl, .int .i64 t.si, .int .i64 t.cl, .int .i64 t.ow], .bool d]) (by simp [results, Tryd.results7, go_sem, z0, z1, z2, z3, z4, z5, z6]) rfl ?_
    obtain ⟨hp1, hp2, hp3⟩ := HP.out
    exact ⟨rfl, HB3.out.trans (HZ.out.2.below HB3.out.size (fun k hk => by omega))⟩

end Go.Proofs.YtnbpkjfaopfapaaDoor
