/-
  What the document's Next does. Conditions: its held frames read as they are said to read; what always holds of a front holds of it.
-/
import Derived.Test.YtegjaoaoiojhfaaDoorRTake
namespace Go.Proofs.YtegjaoaoiojhfaaDoor
open Go.ChangeShapes Go.WideShapes Go.ChangeAt Go.RowKit

/-- The three blocks that the document's Next lays first: its front, its two results. -/
theorem next_boxes (w : World) (x y : Value) :
    Below w.heap.size w (((w.alloc (.cells #[x, y] 28)).alloc (.cells #[.int .i64 0, .slice none 0 0] 28)).alloc (.cells #[.int .i64 0, .string ⟨#[]⟩] 31)) ∧
    (((w.alloc (.cells #[x, y] 28)).alloc (.cells #[.int .i64 0, .slice none 0 0] 28)).alloc (.cells #[.int .i64 0, .string ⟨#[]⟩] 31)).heap[w.heap.size]? = some (.cells #[x, y] 28 (0, 0)) ∧
    (((w.alloc (.cells #[x, y] 28)).alloc (.cells #[.int .i64 0, .slice none 0 0] 28)).alloc (.cells #[.int .i64 0, .string ⟨#[]⟩] 31)).heap[w.heap.size + 1]? = some (.cells #[.int .i64 0, .slice none 0 0] 28 (0, 0)) ∧
    (((w.alloc (.cells #[x, y] 28)).alloc (.cells #[.int .i64 0, .slice none 0 0] 28)).alloc (.cells #[.int .i64 0, .string ⟨#[]⟩] 31)).heap[w.heap.size + 1 + 1]? = some (.cells #[.int .i64 0, .string ⟨#[]⟩] 31 (0, 0)) := by
  refine ⟨(((Below.refl _ w).alloc (Nat.le_refl _) _).alloc (by simp) _).alloc (by simp; omega) _, ?_, ?_, ?_⟩
  · rw [Below.heap_alloc _ _ _ (by simp; omega), Below.heap_alloc _ _ _ (by simp)]
    exact heap_alloc_new _ _
  · rw [Below.heap_alloc _ _ _ (by simp)]
    have := heap_alloc_new (w.alloc (.cells #[x, y] 28)) (.cells #[.int .i64 0, .slice none 0 0] 28)
    rwa [World.size_alloc] at this
  · have := heap_alloc_new ((w.alloc (.cells #[x, y] 28)).alloc (.cells #[.int .i64 0, .slice none 0 0] 28)) (.cells #[.int .i64 0, .string ⟨#[]⟩] 31)
    rwa [World.size_alloc, World.size_alloc] at this
/-- The two results are laid. -/
theorem two_puts {w : World} {p q : Nat} {x y x' y' : Value} {t t' : TypeId} (hp : w.heap[p]? = some (.cells #[x, y] t (0, 0))) (hq : w.heap[q]? = some (.cells #[x', y'] t' (0, 0))) (hne : p ≠ q) (u v u' v' : Value) :
    ((((w.setCell ⟨p, 0, none⟩ u).setCell ⟨p, 1, none⟩ v).setCell ⟨q, 0, none⟩ u').setCell ⟨q, 1, none⟩ v').heap[p]? = some (.cells #[u, v] t (0, 0)) ∧ ((((w.setCell ⟨p, 0, none⟩ u).setCell ⟨p, 1, none⟩ v).setCell ⟨q, 0, none⟩ u').setCell ⟨q, 1, none⟩ v').heap[q]? = some (.cells #[u', v'] t' (0, 0)) ∧
    Keep (fun j => j ≠ p ∧ j ≠ q) w ((((w.setCell ⟨p, 0, none⟩ u).setCell ⟨p, 1, none⟩ v).setCell ⟨q, 0, none⟩ u').setCell ⟨q, 1, none⟩ v') := by
  obtain ⟨h1, k1⟩ := put2 hp u v
  have hq1 := (k1.block q (lt_of_heap hq) (fun e => hne e.symm)).trans hq
  obtain ⟨h2, k2⟩ := put2 hq1 u' v'
  exact ⟨(k2.block p (lt_of_heap h1) hne).trans h1, h2, (k1.mono fun j _ h => h.1).trans (k2.mono fun j _ h => h.2)⟩

set_option maxHeartbeats 2000000 in
set_option maxRecDepth 100000 in
theorem rnext_no (S : Int) (a : Option Addr) (n c : Nat) (w : World) (h : S = 2 ∨ S = 4 ∨ n = 0 ∧ S ≠ 2 ∧ S ≠ 4) :
    Calls Tryd.prog 15 #[.agg #[.int .i64 S, .slice a n c]] w fun e w' => e = .returned (.tuple #[.agg #[.int .i64 S, .slice a n c], .agg #[.int .i64 0, .string ⟨#[]⟩], .int .i64 0, .bool false]) ∧ Below w.heap.size w w' := by
  obtain ⟨hb, g1, g2, g3⟩ := next_boxes w (.int .i64 S) (.slice a n c)
  have h' : S = 2 ∨ S = 4 ∨ n = 0 ∧ (S == 2) = false ∧ (S == 4) = false := by
    rcases h with h | h | ⟨h, h1, h2⟩
    · exact .inl h
    · exact .inr (.inl h)
    · exact .inr (.inr ⟨h, beq_eq_false_iff_ne.2 h1, beq_eq_false_iff_ne.2 h2⟩)
  clear h
  rcases h' with rfl | rfl | ⟨rfl, h1, h2⟩
  · go_enter Tryd.func15, Tryd.ntmps15
    go_upto_region 1 with fail
    generalize ((w.alloc (.cells #[.int .i64 2, .slice a n c] 28)).alloc (.cells #[.int .i64 0, .slice none 0 0] 28)).alloc (.cells #[.int .i64 0, .string ⟨#[]⟩] 31) = W0 at *
    have HB := Hid.mk' hb
    obtain ⟨q1, hq1⟩ : ∃ p, w.heap.size = p := ⟨_, rfl⟩
    obtain ⟨q2, hq2⟩ : ∃ p, q1 + 1 = p := ⟨_, rfl⟩
    obtain ⟨q3, hq3⟩ : ∃ p, q2 + 1 = p := ⟨_, rfl⟩
    rw [hq1] at g1
    rw [hq1, hq2] at g2
    rw [hq1, hq2, hq3] at g3
    rw [hq1, hq2, hq3]
    have HP : Hid (w.heap.size = q1 ∧ q2 = q1 + 1 ∧ q3 = q2 + 1) := ⟨hq1, hq2.symm, hq3.symm⟩
    have n12 : q1 ≠ q2 := by omega
    have n13 : q1 ≠ q3 := by omega
    have n23 : q2 ≠ q3 := by omega
    have HZ := Hid.mk' (two_puts g2 g3 n23 (.int .i64 2) (.slice a n c) (.int .i64 0) (.string ⟨#[]⟩))
    obtain ⟨c0, c1, -⟩ := blk2 g1
    obtain ⟨d0, d1, -⟩ := blk2 g2
    obtain ⟨e0, e1, -⟩ := blk2 g3
    have f0 := fz2 g2 0
    have f1 := fz2 g2 1
    have f2 := fz2 g3 0
    have f3 := fz2 g3 1
    clear hq1 hq2 hq3 hb g1 g2 g3
    go_wp2
    generalize (((W0.setCell ⟨q2, 0, none⟩ (.int .i64 2)).setCell ⟨q2, 1, none⟩ (.slice a n c)).setCell ⟨q3, 0, none⟩ (.int .i64 0)).setCell ⟨q3, 1, none⟩ (.string ⟨#[]⟩) = w9 at *
    obtain ⟨z0, z1, -⟩ := blk2 HZ.out.1
    obtain ⟨z2, z3, -⟩ := blk2 HZ.out.2.1
    refine bodyPost_ret (v := .tuple #[.agg #[.int .i64 2, .slice a n c], .agg #[.int .i64 0, .string ⟨#[]⟩], .int .i64 0, .bool false]) (by simp [results, Tryd.results15, go_sem, z0, z1, z2, z3]) rfl ?_
    obtain ⟨r1, r2, r3⟩ := HP.out
    exact ⟨rfl, HB.out.trans ((HZ.out.2.2.mono (B := fun j => j < q1) fun j _ hj => by omega).below HB.out.size (fun j hj => by omega))⟩
  · go_enter Tryd.func15, Tryd.ntmps15
    go_upto_region 1 with fail
    generalize ((w.alloc (.cells #[.int .i64 4, .slice a n c] 28)).alloc (.cells #[.int .i64 0, .slice none 0 0] 28)).alloc (.cells #[.int .i64 0, .string ⟨#[]⟩] 31) = W0 at *
    have HB := Hid.mk' hb
    obtain ⟨q1, hq1⟩ : ∃ p, w.heap.size = p := ⟨_, rfl⟩
    obtain ⟨q2, hq2⟩ : ∃ p, q1 + 1 = p := ⟨_, rfl⟩
    obtain ⟨q3, hq3⟩ : ∃ p, q2 + 1 = p := ⟨_, rfl⟩
    rw [hq1] at g1
    rw [hq1, hq2] at g2
    rw [hq1, hq2, hq3] at g3
    rw [hq1, hq2, hq3]
    have HP : Hid (w.heap.size = q1 ∧ q2 = q1 + 1 ∧ q3 = q2 + 1) := ⟨hq1, hq2.symm, hq3.symm⟩
    have n12 : q1 ≠ q2 := by omega
    have n13 : q1 ≠ q3 := by omega
    have n23 : q2 ≠ q3 := by omega
    have HZ := Hid.mk' (two_puts g2 g3 n23 (.int .i64 4) (.slice a n c) (.int .i64 0) (.string ⟨#[]⟩))
    obtain ⟨c0, c1, -⟩ := blk2 g1
    obtain ⟨d0, d1, -⟩ := blk2 g2
    obtain ⟨e0, e1, -⟩ := blk2 g3
    have f0 := fz2 g2 0
    have f1 := fz2 g2 1
    have f2 := fz2 g3 0
    have f3 := fz2 g3 1
    clear hq1 hq2 hq3 hb g1 g2 g3
    go_wp2
    generalize (((W0.setCell ⟨q2, 0, none⟩ (.int .i64 4)).setCell ⟨q2, 1, none⟩ (.slice a n c)).setCell ⟨q3, 0, none⟩ (.int .i64 0)).setCell ⟨q3, 1, none⟩ (.string ⟨#[]⟩) = w9 at *
    obtain ⟨z0, z1, -⟩ := blk2 HZ.out.1
    obtain ⟨z2, z3, -⟩ := blk2 HZ.out.2.1
    refine bodyPost_ret (v := .tuple #[.agg #[.int .i64 4, .slice a n c], .agg #[.int .i64 0, .string ⟨#[]⟩], .int .i64 0, .bool false]) (by simp [results, Tryd.results15, go_sem, z0, z1, z2, z3]) rfl ?_
    obtain ⟨r1, r2, r3⟩ := HP.out
    exact ⟨rfl, HB.out.trans ((HZ.out.2.2.mono (B := fun j => j < q1) fun j _ hj => by omega).below HB.out.size (fun j hj => by omega))⟩
  · go_enter Tryd.func15, Tryd.ntmps15
    go_upto_region 1 with fail
    generalize ((w.alloc (.cells #[.int .i64 S, .slice a 0 c] 28)).alloc (.cells #[.int .i64 0, .slice none 0 0] 28)).alloc (.cells #[.int .i64 0, .string ⟨#[]⟩] 31) = W0 at *
    have HB := Hid.mk' hb
    obtain ⟨q1, hq1⟩ : ∃ p, w.heap.size = p := ⟨_, rfl⟩
    obtain ⟨q2, hq2⟩ : ∃ p, q1 + 1 = p := ⟨_, rfl⟩
    obtain ⟨q3, hq3⟩ : ∃ p, q2 + 1 = p := ⟨_, rfl⟩
    rw [hq1] at g1
    rw [hq1, hq2] at g2
    rw [hq1, hq2, hq3] at g3
    rw [hq1, hq2, hq3]
    have HP : Hid (w.heap.size = q1 ∧ q2 = q1 + 1 ∧ q3 = q2 + 1) := ⟨hq1, hq2.symm, hq3.symm⟩
    have n12 : q1 ≠ q2 := by omega
    have n13 : q1 ≠ q3 := by omega
    have n23 : q2 ≠ q3 := by omega
    have HZ := Hid.mk' (two_puts g2 g3 n23 (.int .i64 S) (.slice a 0 c) (.int .i64 0) (.string ⟨#[]⟩))
    obtain ⟨c0, c1, -⟩ := blk2 g1
    obtain ⟨d0, d1, -⟩ := blk2 g2
    obtain ⟨e0, e1, -⟩ := blk2 g3
    have f0 := fz2 g2 0
    have f1 := fz2 g2 1
    have f2 := fz2 g3 0
    have f3 := fz2 g3 1
    clear hq1 hq2 hq3 hb g1 g2 g3
    go_wp2
    generalize (((W0.setCell ⟨q2, 0, none⟩ (.int .i64 S)).setCell ⟨q2, 1, none⟩ (.slice a 0 c)).setCell ⟨q3, 0, none⟩ (.int .i64 0)).setCell ⟨q3, 1, none⟩ (.string ⟨#[]⟩) = w9 at *
    obtain ⟨z0, z1, -⟩ := blk2 HZ.out.1
    obtain ⟨z2, z3, -⟩ := blk2 HZ.out.2.1
    refine bodyPost_ret (v := .tuple #[.agg #[.int .i64 S, .slice a 0 c], .agg #[.int .i64 0, .string ⟨#[]⟩], .int .i64 0, .bool false]) (by simp [results, Tryd.results15, go_sem, z0, z1, z2, z3]) rfl ?_
    obtain ⟨r1, r2, r3⟩ := HP.out
    exact ⟨rfl, HB.out.trans ((HZ.out.2.2.mono (B := fun j => j < q1) fun j _ hj => by omega).below HB.out.size (fun j hj => by omega))⟩

set_option maxHeartbeats 4000000 in
set_option maxRecDepth 100000 in
theorem rnext_yes (S : Int) (a : Option Addr) (n c : Nat) (l : List Fr) (w : World) (hI : Inv ⟨S, l⟩) (hl : FrsAt w a n c l) (h2 : S ≠ 2) (h4 : S ≠ 4) (hn : 1 ≤ n) (k : Int) (d : ByteArray) (hkd : nthD l 0 = ⟨k, d⟩) :
    Calls Tryd.prog 15 #[.agg #[.int .i64 S, .slice a n c]] w fun e w' => ∃ a' n' c', e = .returned (.tuple #[.agg #[.int .i64 (tk ⟨S, l.drop 1⟩ ⟨k, d⟩).st, .slice a' n' c'], .agg #[.int .i64 k, .string d], .int .i64 (tkw ⟨S, l.drop 1⟩ k), .bool true]) ∧ FrsAt w' a' n' c' (tk ⟨S, l.drop 1⟩ ⟨k, d⟩).hl ∧ Orig w w' a a' ∧ Below w.heap.size w w' := by
  obtain ⟨hb, g1, g2, g3⟩ := next_boxes w (.int .i64 S) (.slice a n c)
  have hn0 : ((n : Int) == 0) = false := beq_eq_false_iff_ne.2 (by omega)
  have b2 : (S == 2) = false := beq_eq_false_iff_ne.2 h2
  have b4 : (S == 4) = false := beq_eq_false_iff_ne.2 h4
  have HI : Hid (Inv ⟨S, l.drop 1⟩) := inv_nxs hI
  obtain ⟨bl, off, rfl, hbl, r0, r1⟩ := hl.at_ 0 (by omega)
  rw [hkd] at r0 r1
  simp only [Nat.zero_mul, Nat.add_zero] at r0 r1
  have r0 := (hb.cell (p := ⟨bl, off, none⟩) hbl).trans r0
  have r1 := (hb.cell (p := ⟨bl, off + 1, none⟩) hbl).trans r1
  have hle := hl.hle
  have hcm := hl.hcap
  unfold maxLen at hcm
  have HL := Hid.mk' (hl.below hb)
  have HBL : Hid (bl < w.heap.size) := hbl
  have hn1 : (0 : Int) < (n : Int) := by omega
  have hn2 : (1 : Int) ≤ (n : Int) := by omega
  clear hI h2 h4 hl hkd hbl
  go_enter Tryd.func15, Tryd.ntmps15
  go_upto_region 1 with fail
  generalize ((w.alloc (.cells #[.int .i64 S, .slice (some ⟨bl, off, none⟩) n c] 28)).alloc (.cells #[.int .i64 0, .slice none 0 0] 28)).alloc (.cells #[.int .i64 0, .string ⟨#[]⟩] 31) = W0 at *
  have HB := Hid.mk' hb
  obtain ⟨q1, hq1⟩ : ∃ p, w.heap.size = p := ⟨_, rfl⟩
  obtain ⟨q2, hq2⟩ : ∃ p, q1 + 1 = p := ⟨_, rfl⟩
  obtain ⟨q3, hq3⟩ : ∃ p, q2 + 1 = p := ⟨_, rfl⟩
  rw [hq1] at g1
  rw [hq1, hq2] at g2
  rw [hq1, hq2, hq3] at g3
  rw [hq1, hq2, hq3]
  have HP : Hid (w.heap.size = q1 ∧ q2 = q1 + 1 ∧ q3 = q2 + 1) := ⟨hq1, hq2.symm, hq3.symm⟩
  have n12 : q1 ≠ q2 := by omega
  have n13 : q1 ≠ q3 := by omega
  have n23 : q2 ≠ q3 := by omega
  have HG1 := Hid.mk' g1
  have HG2' := Hid.mk' g2
  have HG3' := Hid.mk' g3
  clear hq1 hq2 hq3 hb
  obtain ⟨c0', c1', -⟩ := blk2 g1
  clear g1 g2 g3
  go_upto_region 4 with fail
  have hb1 : Below W0.heap.size W0 (W0.alloc (.cells #[.int .i64 k, .string d] 31)) := (Below.refl _ W0).alloc (Nat.le_refl _) _
  have g1 := (hb1.block q1 (lt_of_heap HG1.out)).trans HG1.out
  have HG2 := Hid.mk' ((hb1.block q2 (lt_of_heap HG2'.out)).trans HG2'.out)
  have HG3 := Hid.mk' ((hb1.block q3 (lt_of_heap HG3'.out)).trans HG3'.out)
  have HGX := Hid.mk' (heap_alloc_new W0 (.cells #[.int .i64 k, .string d] 31))
  have HL1 := Hid.mk' (HL.out.below hb1)
  have HK1 : Hid (Keep (fun j => j < q1) w (W0.alloc (.cells #[.int .i64 k, .string d] 31))) := (keep_below HB.out).trans (keep_below hb1)
  have nx1 : W0.heap.size ≠ q1 := by have := lt_of_heap HG1.out; omega
  have nx2 : W0.heap.size ≠ q2 := by have := lt_of_heap HG2'.out; omega
  have nx3 : W0.heap.size ≠ q3 := by have := lt_of_heap HG3'.out; omega
  have n32 : q3 ≠ q2 := fun e => n23 e.symm
  clear hb1 HL r0 r1 c0' c1' HG1 HG2' HG3'
  generalize W0.alloc (.cells #[.int .i64 k, .string d] 31) = W1 at *
  generalize W0.heap.size = qx at *
  obtain ⟨c0, c1, -⟩ := blk2 g1
  obtain ⟨x0, x1, -⟩ := blk2 HGX.out
  have f1 := fz2 g1 1
  clear g1
  have HTL' := Hid.mk' (HL1.out.tail hn)
  clear HL1
  by_cases hc1 : c = 1
  · obtain rfl : n = 1 := by omega
    subst hc1
    have HTL : Hid (FrsAt W1 (some ⟨bl, off, none⟩) 0 0 (l.drop 1)) := HTL'.out
    clear HTL'
    go_upto_region 5 with fail
    have HS : Hid (FrsAt (W1.setCell ⟨q1, 1, none⟩ (.slice (some ⟨bl, off, none⟩) 0 0)) (some ⟨bl, off, none⟩) 0 0 (l.drop 1)) := HTL.out.keepN ((Keep.refl (fun j => j ≠ q1) _).setCell (fun hn => hn rfl) _) (fun x _ e => by cases e; show bl ≠ q1; have := HBL.out; have := HP.out; omega)
    have HK2 : Hid (Keep (fun j => j ≠ q1) W1 (W1.setCell ⟨q1, 1, none⟩ (.slice (some ⟨bl, off, none⟩) 0 0))) := (Keep.refl _ _).setCell (fun hn => hn rfl) _
    have HRT := Hid.mk' (rtake_any HI.out _ _ _ k d _ HS.out)
    go_wp2_with fail
    generalize W1.setCell ⟨q1, 1, none⟩ (.slice (some ⟨bl, off, none⟩) 0 0) = W2 at *
    refine HRT.out.mono ?_
    rintro e w3 ⟨a3, n3, c3, rfl, hf3, ho3, hb3⟩
    have HF3 := Hid.mk' hf3
    have HO3 : Hid (∀ x, a3 = some x → x.block = bl ∨ W1.heap.size ≤ x.block ∧ x.block < w3.heap.size) := fun x e => by
      rcases ho3 x e with ⟨y, hy, hyb⟩ | h
      · cases hy
        exact .inl hyb.symm
      · exact .inr ⟨Nat.le_trans HK2.out.size h.1, h.2⟩
    have HSZ : Hid (w.heap.size ≤ W1.heap.size ∧ q2 < W1.heap.size ∧ q3 < W1.heap.size) := ⟨HK1.out.size, lt_of_heap HG2.out, lt_of_heap HG3.out⟩
    have g2' := (hb3.block q2 (Nat.lt_of_lt_of_le (lt_of_heap HG2.out) HK2.out.size)).trans ((HK2.out.block q2 (lt_of_heap HG2.out) (fun e => n12 e.symm)).trans HG2.out)
    have g3' := (hb3.block q3 (Nat.lt_of_lt_of_le (lt_of_heap HG3.out) HK2.out.size)).trans ((HK2.out.block q3 (lt_of_heap HG3.out) (fun e => n13 e.symm)).trans HG3.out)
    have gx' := (hb3.block qx (Nat.lt_of_lt_of_le (lt_of_heap HGX.out) HK2.out.size)).trans ((HK2.out.block qx (lt_of_heap HGX.out) (fun e => nx1 e)).trans HGX.out)
    have HK3 : Hid (Keep (fun j => j < q1) w w3) := HK1.out.trans ((HK2.out.mono fun j _ h => by omega).trans (keep_below hb3))
    clear hb3 ho3 HRT HS HK2 HG2 HG3 HGX c0 c1 f1 x0 x1
    generalize hX : (tk ⟨S, l.drop 1⟩ ⟨k, d⟩).st = X at *
    generalize hV : tkw ⟨S, l.drop 1⟩ k = V at *
    generalize hL3 : (tk ⟨S, l.drop 1⟩ ⟨k, d⟩).hl = L3 at *
    have HX := Hid.mk' hX
    have HV := Hid.mk' hV
    have HL3 := Hid.mk' hL3
    clear hX hV hL3
    go_upto_region 6 with fail
    have hb4 : Below w3.heap.size w3 (w3.alloc (.cells #[.int .i64 X, .slice a3 n3 c3] 28)) := (Below.refl _ w3).alloc (Nat.le_refl _) _
    obtain ⟨y0, y1, hy7⟩ := blk2 (heap_alloc_new w3 (.cells #[.int .i64 X, .slice a3 n3 c3] 28))
    have HY7 := Hid.mk' hy7
    clear hy7
    have g2 := (hb4.block q2 (lt_of_heap g2')).trans g2'
    have g3 := (hb4.block q3 (lt_of_heap g3')).trans g3'
    have gx := (hb4.block qx (lt_of_heap gx')).trans gx'
    have HF4 := Hid.mk' (HF3.out.below hb4)
    have HK4 : Hid (Keep (fun j => j < q1) w _) := HK3.out.trans (keep_below hb4)
    have n72 : w3.heap.size ≠ q2 := by have := lt_of_heap g2'; omega
    have n73 : w3.heap.size ≠ q3 := by have := lt_of_heap g3'; omega
    have n7x : w3.heap.size ≠ qx := by have := lt_of_heap gx'; omega
    clear hb4 g2' g3' gx' HF3 HK3
    generalize w3.alloc (.cells #[.int .i64 X, .slice a3 n3 c3] 28) = w4 at *
    generalize w3.heap.size = q7 at *
    have HZ := Hid.mk' (two_puts (w := w4) g2 g3 n23 (.int .i64 X) (.slice a3 n3 c3) (.int .i64 k) (.string d))
    obtain ⟨x0, x1, -⟩ := blk2 gx
    obtain ⟨d0, d1, -⟩ := blk2 g2
    obtain ⟨e0, e1, -⟩ := blk2 g3
    have f0 := fz2 g2 0
    have f1 := fz2 g2 1
    have f2 := fz2 g3 0
    have f3 := fz2 g3 1
    clear g2 g3 gx
    go_region
    all_goals (
      generalize (((w4.setCell ⟨q2, 0, none⟩ (.int .i64 X)).setCell ⟨q2, 1, none⟩ (.slice a3 n3 c3)).setCell ⟨q3, 0, none⟩ (.int .i64 k)).setCell ⟨q3, 1, none⟩ (.string d) = w9 at *
      obtain ⟨z0, z1, -⟩ := blk2 (w := w9.drew) HZ.out.1
      obtain ⟨z2, z3, -⟩ := blk2 (w := w9.drew) HZ.out.2.1
      go_wp2
      refine bodyPost_ret (v := .tuple #[.agg #[.int .i64 X, .slice a3 n3 c3], .agg #[.int .i64 k, .string d], .int .i64 V, .bool true]) (by simp [results, Tryd.results15, go_sem, z0, z1, z2, z3]) rfl ?_
      have hp := HP.out
      have HKZ : Keep (fun j => j < q1) w w9 := HK4.out.trans (HZ.out.2.2.mono fun j _ h => by omega)
      refine ⟨a3, n3, c3, by rw [HX.out, HV.out], ?_, fun x e => ?_, below_drewN (HKZ.below (Nat.le_refl _) (fun j hj => by omega)) 1⟩
      · rw [HL3.out]
        exact HF4.out.keepN (A := fun j => j ≠ q2 ∧ j ≠ q3) HZ.out.2.2.drew (fun x _ e => by
          have h1 := HSZ.out
          have h2 := HBL.out
          rcases HO3.out x e with h | h <;> constructor <;> omega)
      · rcases HO3.out x e with h | h
        · exact .inl ⟨_, rfl, h.symm⟩
        · exact .inr ⟨Nat.le_trans HSZ.out.1 h.1, Nat.lt_of_lt_of_le (Nat.lt_trans h.2 HY7.out) HZ.out.2.2.size⟩)
  · have HTL : Hid (FrsAt W1 (some ⟨bl, off + 2, none⟩) (n - 1) (c - 1) (l.drop 1)) := by
      have := HTL'.out
      rw [if_neg hc1] at this
      have e0 : ((⟨bl, off, none⟩ : Addr).add 2) = ⟨bl, off + 2, none⟩ := by unfold Addr.add; split <;> simp_all
      simp only [Option.map_some, e0] at this
      exact this
    clear HTL'
    go_upto_region 5 with fail
    have HS : Hid (FrsAt (W1.setCell ⟨q1, 1, none⟩ (.slice (some ⟨bl, off + 2, none⟩) (n - 1) (c - 1))) (some ⟨bl, off + 2, none⟩) (n - 1) (c - 1) (l.drop 1)) := HTL.out.keepN ((Keep.refl (fun j => j ≠ q1) _).setCell (fun hn => hn rfl) _) (fun x _ e => by cases e; show bl ≠ q1; have := HBL.out; have := HP.out; omega)
    have HK2 : Hid (Keep (fun j => j ≠ q1) W1 (W1.setCell ⟨q1, 1, none⟩ (.slice (some ⟨bl, off + 2, none⟩) (n - 1) (c - 1)))) := (Keep.refl _ _).setCell (fun hn => hn rfl) _
    have HRT := Hid.mk' (rtake_any HI.out _ _ _ k d _ HS.out)
    go_wp2_with fail
    generalize W1.setCell ⟨q1, 1, none⟩ (.slice (some ⟨bl, off + 2, none⟩) (n - 1) (c - 1)) = W2 at *
    refine HRT.out.mono ?_
    rintro e w3 ⟨a3, n3, c3, rfl, hf3, ho3, hb3⟩
    have HF3 := Hid.mk' hf3
    have HO3 : Hid (∀ x, a3 = some x → x.block = bl ∨ W1.heap.size ≤ x.block ∧ x.block < w3.heap.size) := fun x e => by
      rcases ho3 x e with ⟨y, hy, hyb⟩ | h
      · cases hy
        exact .inl hyb.symm
      · exact .inr ⟨Nat.le_trans HK2.out.size h.1, h.2⟩
    have HSZ : Hid (w.heap.size ≤ W1.heap.size ∧ q2 < W1.heap.size ∧ q3 < W1.heap.size) := ⟨HK1.out.size, lt_of_heap HG2.out, lt_of_heap HG3.out⟩
    have g2' := (hb3.block q2 (Nat.lt_of_lt_of_le (lt_of_heap HG2.out) HK2.out.size)).trans ((HK2.out.block q2 (lt_of_heap HG2.out) (fun e => n12 e.symm)).trans HG2.out)
    have g3' := (hb3.block q3 (Nat.lt_of_lt_of_le (lt_of_heap HG3.out) HK2.out.size)).trans ((HK2.out.block q3 (lt_of_heap HG3.out) (fun e => n13 e.symm)).trans HG3.out)
    have gx' := (hb3.block qx (Nat.lt_of_lt_of_le (lt_of_heap HGX.out) HK2.out.size)).trans ((HK2.out.block qx (lt_of_heap HGX.out) (fun e => nx1 e)).trans HGX.out)
    have HK3 : Hid (Keep (fun j => j < q1) w w3) := HK1.out.trans ((HK2.out.mono fun j _ h => by omega).trans (keep_below hb3))
    clear hb3 ho3 HRT HS HK2 HG2 HG3 HGX c0 c1 f1 x0 x1
    generalize hX : (tk ⟨S, l.drop 1⟩ ⟨k, d⟩).st = X at *
    generalize hV : tkw ⟨S, l.drop 1⟩ k = V at *
    generalize hL3 : (tk ⟨S, l.drop 1⟩ ⟨k, d⟩).hl = L3 at *
    have HX := Hid.mk' hX
    have HV := Hid.mk' hV
    have HL3 := Hid.mk' hL3
    clear hX hV hL3
    go_upto_region 6 with fail
    have hb4 : Below w3.heap.size w3 (w3.alloc (.cells #[.int .i64 X, .slice a3 n3 c3] 28)) := (Below.refl _ w3).alloc (Nat.le_refl _) _
    obtain ⟨y0, y1, hy7⟩ := blk2 (heap_alloc_new w3 (.cells #[.int .i64 X, .slice a3 n3 c3] 28))
    have HY7 := Hid.mk' hy7
    clear hy7
    have g2 := (hb4.block q2 (lt_of_heap g2')).trans g2'
    have g3 := (hb4.block q3 (lt_of_heap g3')).trans g3'
    have gx := (hb4.block qx (lt_of_heap gx')).trans gx'
    have HF4 := Hid.mk' (HF3.out.below hb4)
    have HK4 : Hid (Keep (fun j => j < q1) w _) := HK3.out.trans (keep_below hb4)
    have n72 : w3.heap.size ≠ q2 := by have := lt_of_heap g2'; omega
    have n73 : w3.heap.size ≠ q3 := by have := lt_of_heap g3'; omega
    have n7x : w3.heap.size ≠ qx := by have := lt_of_heap gx'; omega
    clear hb4 g2' g3' gx' HF3 HK3
    generalize w3.alloc (.cells #[.int .i64 X, .slice a3 n3 c3] 28) = w4 at *
    generalize w3.heap.size = q7 at *
    have HZ := Hid.mk' (two_puts (w := w4) g2 g3 n23 (.int .i64 X) (.slice a3 n3 c3) (.int .i64 k) (.string d))
    obtain ⟨x0, x1, -⟩ := blk2 gx
    obtain ⟨d0, d1, -⟩ := blk2 g2
    obtain ⟨e0, e1, -⟩ := blk2 g3
    have f0 := fz2 g2 0
    have f1 := fz2 g2 1
    have f2 := fz2 g3 0
    have f3 := fz2 g3 1
    clear g2 g3 gx
    go_region
    all_goals (
      generalize (((w4.setCell ⟨q2, 0, none⟩ (.int .i64 X)).setCell ⟨q2, 1, none⟩ (.slice a3 n3 c3)).setCell ⟨q3, 0, none⟩ (.int .i64 k)).setCell ⟨q3, 1, none⟩ (.string d) = w9 at *
      obtain ⟨z0, z1, -⟩ := blk2 (w := w9.drew) HZ.out.1
      obtain ⟨z2, z3, -⟩ := blk2 (w := w9.drew) HZ.out.2.1
      go_wp2
      refine bodyPost_ret (v := .tuple #[.agg #[.int .i64 X, .slice a3 n3 c3], .agg #[.int .i64 k, .string d], .int .i64 V, .bool true]) (by simp [results, Tryd.results15, go_sem, z0, z1, z2, z3]) rfl ?_
      have hp := HP.out
      have HKZ : Keep (fun j => j < q1) w w9 := HK4.out.trans (HZ.out.2.2.mono fun j _ h => by omega)
      refine ⟨a3, n3, c3, by rw [HX.out, HV.out], ?_, fun x e => ?_, below_drewN (HKZ.below (Nat.le_refl _) (fun j hj => by omega)) 1⟩
      · rw [HL3.out]
        exact HF4.out.keepN (A := fun j => j ≠ q2 ∧ j ≠ q3) HZ.out.2.2.drew (fun x _ e => by
          have h1 := HSZ.out
          have h2 := HBL.out
          rcases HO3.out x e with h | h <;> constructor <;> omega)
      · rcases HO3.out x e with h | h
        · exact .inl ⟨_, rfl, h.symm⟩
        · exact .inr ⟨Nat.le_trans HSZ.out.1 h.1, Nat.lt_of_lt_of_le (Nat.lt_trans h.2 HY7.out) HZ.out.2.2.size⟩)

/-- The document's Next as a whole. -/
theorem rnext_any {s : Ft} (hI : Inv s) (a : Option Addr) (n c : Nat) (w : World) (hl : FrsAt w a n c s.hl) :
    Calls Tryd.prog 15 #[.agg #[.int .i64 s.st, .slice a n c]] w fun e w' => ∃ a' n' c', e = .returned (.tuple #[.agg #[.int .i64 (nxT s).st, .slice a' n' c'], .agg #[.int .i64 (nxF s).k, .string (nxF s).s], .int .i64 (nxW s), .bool (nxB s)]) ∧ FrsAt w' a' n' c' (nxT s).hl ∧ Orig w w' a a' ∧ Below w.heap.size w w' := by
  have hln := hl.hlen
  cases hb : nxB s with
  | false =>
    have e1 : nxF s = f0 := by unfold nxF; rw [hb]; rfl
    have e2 : nxW s = 0 := by unfold nxW; rw [hb]; rfl
    have e3 : nxT s = s := by unfold nxT; rw [hb]; rfl
    rw [e1, e2, e3]
    have hh : s.st = 2 ∨ s.st = 4 ∨ n = 0 ∧ s.st ≠ 2 ∧ s.st ≠ 4 := by
      unfold nxB at hb
      by_cases h2 : s.st = 2
      · exact .inl h2
      · by_cases h4 : s.st = 4
        · exact .inr (.inl h4)
        · refine .inr (.inr ⟨?_, h2, h4⟩)
          simp [h2, h4] at hb
          rw [← hln, hb]
          rfl
    exact (rnext_no s.st a n c w hh).mono fun e w' ⟨q1, q2⟩ => ⟨a, n, c, q1, hl.below q2, Orig.same _ _ _, q2⟩
  | true =>
    have hh : s.hl.length ≠ 0 ∧ s.st ≠ 2 ∧ s.st ≠ 4 := by
      unfold nxB at hb
      simp at hb
      exact ⟨by have := hb.1; simpa using this, hb.2.1, hb.2.2⟩
    have e1 : nxF s = nthD s.hl 0 := by unfold nxF; rw [hb]; rfl
    have e2 : nxW s = tkw (nxs s) (nthD s.hl 0).k := by unfold nxW; rw [hb, e1]; rfl
    have e3 : nxT s = tk (nxs s) (nthD s.hl 0) := by unfold nxT; rw [hb, e1]; rfl
    rw [e1, e2, e3]
    exact rnext_yes s.st a n c s.hl w hI hl hh.2.1 hh.2.2 (by omega) _ _ rfl

end Go.Proofs.YtegjaoaoiojhfaaDoor
