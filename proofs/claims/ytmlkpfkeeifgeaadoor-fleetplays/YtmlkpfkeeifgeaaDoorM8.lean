/-
  Several texts in one: RfD, RfU, RfF, RfJ.
-/
import Derived.Test.YtmlkpfkeeifgeaaDoorM6
import Derived.Deep.RegionHeld3
import Derived.Deep.RegionWith
namespace Go.Proofs.YtmlkpfkeeifgeaaDoor
open Go.ChangeShapes Go.WideShapes Go.ChangeAt Go.RowKit Go.Joins Go.Deep

theorem ask_same {q : ByteArray} {L M : List Dr} (h : ¬ askE q L M = 0) : askL q L M = L := by
  unfold askE at h
  unfold askL
  split
  · rfl
  · rename_i q1
    rw [if_neg q1] at h
    split
    · rfl
    · rename_i q2
      rw [if_neg q2] at h
      split
      · rfl
      · rename_i q3
        rw [if_neg q3] at h
        exact absurd rfl h
set_option maxHeartbeats 4000000 in
set_option maxRecDepth 100000 in
theorem rdrain_e {w : World} {A : Nat → Prop} {e gd : Int} {a b c x y z : Sl} {s : Fl} (q : ByteArray) (h : RL6 w A a b c x y z s) (hG : ∀ k, A k → k < w.heap.size) (hq : q.size ≤ maxLen) (hE : ¬ errF q s.H = 0) :
    Calls Tryd.prog 40 #[.agg #[.int .i64 e, .int .i64 gd, .slice a.a a.n a.c, .slice b.a b.n b.c, .slice c.a c.n c.c, .slice x.a x.n x.c, .slice y.a y.n y.c, .slice z.a z.n z.c], .string q] w fun o w' => ∃ v, o = .returned (.tuple #[v, .int .i64 (errF q s.H)]) ∧ RP w w' A e gd s v := by
  have hE' : (errF q s.H != 0) = true := by simp [hE]
  obtain ⟨w1, hw1⟩ : ∃ w1, w1 = (w.alloc (.cells #[.int .i64 e, .int .i64 gd, .slice a.a a.n a.c, .slice b.a b.n b.c, .slice c.a c.n c.c, .slice x.a x.n x.c, .slice y.a y.n y.c, .slice z.a z.n z.c] 33)).alloc (.cells #[.int .i64 0, .int .i64 0, .slice none 0 0, .slice none 0 0, .slice none 0 0, .slice none 0 0, .slice none 0 0, .slice none 0 0] 33) := ⟨_, rfl⟩
  have HQ : Hid (Bo w w1 e gd a b c x y z) := by rw [hw1]; exact Bo.start w e gd a b c x y z
  have HR : Hid (RL6 w1 (nq A (w.heap.size + 2) w1) a b c x y z s) := h.nq1 HQ.out.hb
  have hsz := HQ.out.sz
  have HK := Hid.mk' (rknown_x e gd HR.out q hq)
  generalize errF q s.H = E at *
  have hq2 : w1.heap[w.heap.size]? = some (.cells #[.int .i64 e, .int .i64 gd, .slice a.a a.n a.c, .slice b.a b.n b.c, .slice c.a c.n c.c, .slice x.a x.n x.c, .slice y.a y.n y.c, .slice z.a z.n z.c] 33 (0, 0)) := HQ.out.g2
  obtain ⟨c0, c1, c2, c3, c4, c5, c6, c7⟩ := blk8 hq2
  clear hq2
  clear h
  go_enter Tryd.func40, Tryd.ntmps40
  go_upto_region 1 with fail
  rw [← hw1]
  clear hw1
  go_upto_region 2 with (go_at_call 72; refine HK.out.mono ?_; rintro o w3 ⟨rfl, hb3⟩)
  have HQ3 : Hid (Bo w w3 e gd a b c x y z) := HQ.out.call hb3
  have HR3 := Hid.mk' (HR.out.nqb hb3)
  clear c0 c1 c2 c3 c4 c5 c6 c7
  have hq2 : w3.heap[w.heap.size]? = some (.cells #[.int .i64 e, .int .i64 gd, .slice a.a a.n a.c, .slice b.a b.n b.c, .slice c.a c.n c.c, .slice x.a x.n x.c, .slice y.a y.n y.c, .slice z.a z.n z.c] 33 (0, 0)) := HQ3.out.g2
  obtain ⟨c0, c1, c2, c3, c4, c5, c6, c7⟩ := blk8 hq2
  clear hq2
  have hq4 : w3.heap[w.heap.size + 1]? = some (.cells #[.int .i64 0, .int .i64 0, .slice none 0 0, .slice none 0 0, .slice none 0 0, .slice none 0 0, .slice none 0 0, .slice none 0 0] 33 (0, 0)) := HQ3.out.g4
  obtain ⟨d0, d1, d2, d3, d4, d5, d6, d7⟩ := blk8 hq4
  have f0 := fz8 hq4 0
  have f1 := fz8 hq4 1
  have f2 := fz8 hq4 2
  have f3 := fz8 hq4 3
  have f4 := fz8 hq4 4
  have f5 := fz8 hq4 5
  have f6 := fz8 hq4 6
  have f7 := fz8 hq4 7
  clear hq4
  go_wp2
  obtain ⟨g8, h8, hb8⟩ := HQ3.out.res hG HR3.out
  try dsimp only at g8 h8 hb8
  clear d0 d1 d2 d3 d4 d5 d6 d7 f0 f1 f2 f3 f4 f5 f6 f7
  generalize ((((((((w3.setCell _ _).setCell _ _).setCell _ _).setCell _ _).setCell _ _).setCell _ _).setCell _ _).setCell _ _) = w8 at *
  obtain ⟨d0, d1, d2, d3, d4, d5, d6, d7⟩ := blk8 g8
  refine bodyPost_ret (v := .tuple #[.agg #[.int .i64 e, .int .i64 gd, .slice a.a a.n a.c, .slice b.a b.n b.c, .slice c.a c.n c.c, .slice x.a x.n x.c, .slice y.a y.n y.c, .slice z.a z.n z.c], .int .i64 E]) (by simp [results, Tryd.results40, go_sem, d0, d1, d2, d3, d4, d5, d6, d7]) rfl ?_
  exact ⟨_, rfl, a, b, c, x, y, z, rfl, h8, hb8⟩
set_option maxHeartbeats 4000000 in
set_option maxRecDepth 100000 in
theorem rdrain_o {w : World} {A : Nat → Prop} {e gd : Int} {a b c x y z : Sl} {s : Fl} (q : ByteArray) (h : RL6 w A a b c x y z s) (hG : ∀ k, A k → k < w.heap.size) (hq : q.size ≤ maxLen) (hE : errF q s.H = 0) :
    Calls Tryd.prog 40 #[.agg #[.int .i64 e, .int .i64 gd, .slice a.a a.n a.c, .slice b.a b.n b.c, .slice c.a c.n c.c, .slice x.a x.n x.c, .slice y.a y.n y.c, .slice z.a z.n z.c], .string q] w fun o w' => ∃ v, o = .returned (.tuple #[v, .int .i64 (drE q s)]) ∧ RP w w' A e gd (drS q s) v := by
  have hok := errF_ok hE
  have hpl := pl_yes hok.2
  have hi := hpl.2
  obtain ⟨ba, bn, bk⟩ := b
  obtain ⟨ca, cn, ck⟩ := c
  obtain ⟨-, q2, p2, e2, -⟩ := h.sti hi
  obtain ⟨-, r2, p3, e3, -⟩ := h.lvi hi
  obtain rfl : ba = some ⟨q2, p2, none⟩ := e2
  obtain rfl : ca = some ⟨r2, p3, none⟩ := e3
  dsimp only
  obtain ⟨t, ht⟩ : ∃ t, t = (atH s.H (plN q s.H)).st := ⟨_, rfl⟩
  have hE' : (errF q s.H != 0) = false := by simp [hE]
  obtain ⟨w1, hw1⟩ : ∃ w1, w1 = (w.alloc (.cells #[.int .i64 e, .int .i64 gd, .slice a.a a.n a.c, .slice (some ⟨q2, p2, none⟩)  bn  bk, .slice (some ⟨r2, p3, none⟩)  cn  ck, .slice x.a x.n x.c, .slice y.a y.n y.c, .slice z.a z.n z.c] 33)).alloc (.cells #[.int .i64 0, .int .i64 0, .slice none 0 0, .slice none 0 0, .slice none 0 0, .slice none 0 0, .slice none 0 0, .slice none 0 0] 33) := ⟨_, rfl⟩
  have HQ : Hid (Bo w w1 e gd a ⟨some ⟨q2, p2, none⟩, bn, bk⟩ ⟨some ⟨r2, p3, none⟩, cn, ck⟩ x y z) := by rw [hw1]; exact Bo.start w e gd a ⟨some ⟨q2, p2, none⟩, bn, bk⟩ ⟨some ⟨r2, p3, none⟩, cn, ck⟩ x y z
  have HR : Hid (RL6 w1 (nq A (w.heap.size + 2) w1) a ⟨some ⟨q2, p2, none⟩, bn, bk⟩ ⟨some ⟨r2, p3, none⟩, cn, ck⟩ x y z s) := h.nq1 HQ.out.hb
  have hsz := HQ.out.sz
  have HK := Hid.mk' (rknown_x e gd HR.out q hq)
  rw [hE] at hE' HK
  have hq2 : w1.heap[w.heap.size]? = some (.cells #[.int .i64 e, .int .i64 gd, .slice a.a a.n a.c, .slice (some ⟨q2, p2, none⟩)  bn  bk, .slice (some ⟨r2, p3, none⟩)  cn  ck, .slice x.a x.n x.c, .slice y.a y.n y.c, .slice z.a z.n z.c] 33 (0, 0)) := HQ.out.g2
  obtain ⟨c0, c1, c2, c3, c4, c5, c6, c7⟩ := blk8 hq2
  clear hq2
  clear h
  go_enter Tryd.func40, Tryd.ntmps40
  go_upto_region 1 with fail
  rw [← hw1]
  clear hw1
  go_upto_region 4 with (go_at_call 72; refine HK.out.mono ?_; rintro o w3 ⟨rfl, hb3⟩)
  have HQ3 : Hid (Bo w w3 e gd a ⟨some ⟨q2, p2, none⟩, bn, bk⟩ ⟨some ⟨r2, p3, none⟩, cn, ck⟩ x y z) := HQ.out.call hb3
  have HR3 := Hid.mk' (HR.out.nqb hb3)
  clear c0 c1 c2 c3 c4 c5 c6 c7
  have HC : Hid (∀ w', Below w3.heap.size w3 w' → (fun w' => w'.cell? ⟨w.heap.size, 0, none⟩ = some (.int .i64 e) ∧ w'.cell? ⟨w.heap.size, 1, none⟩ = some (.int .i64 gd) ∧ w'.cell? ⟨w.heap.size, 2, none⟩ = some (.slice a.a a.n a.c) ∧ w'.cell? ⟨w.heap.size, 3, none⟩ = some (.slice (some ⟨q2, p2, none⟩)  bn  bk) ∧ w'.cell? ⟨w.heap.size, 4, none⟩ = some (.slice (some ⟨r2, p3, none⟩)  cn  ck) ∧ w'.cell? ⟨w.heap.size, 5, none⟩ = some (.slice x.a x.n x.c) ∧ w'.cell? ⟨w.heap.size, 6, none⟩ = some (.slice y.a y.n y.c) ∧ w'.cell? ⟨w.heap.size, 7, none⟩ = some (.slice z.a z.n z.c) ∧ w'.cell? ⟨q2, p2 + plN q s.H, none⟩ = some (.int .i64 t) ∧ Below w3.heap.size w3 w') w') := fun w' hb => by
    have hq2 : w'.heap[w.heap.size]? = some (.cells #[.int .i64 e, .int .i64 gd, .slice a.a a.n a.c, .slice (some ⟨q2, p2, none⟩)  bn  bk, .slice (some ⟨r2, p3, none⟩)  cn  ck, .slice x.a x.n x.c, .slice y.a y.n y.c, .slice z.a z.n z.c] 33 (0, 0)) := (HQ3.out.call hb).g2
    obtain ⟨y0, y1, y2, y3, y4, y5, y6, y7⟩ := blk8 hq2
    obtain ⟨x2, -, -⟩ := (HR3.out.nqb hb).stk hi
    rw [← ht] at x2
    exact ⟨y0, y1, y2, y3, y4, y5, y6, y7, x2, hb⟩
  have HAT : Hid (∀ w', Below w3.heap.size w3 w' → Calls Tryd.prog 50 #[.agg #[.int .i64 e, .int .i64 gd, .slice a.a a.n a.c, .slice (some ⟨q2, p2, none⟩)  bn  bk, .slice (some ⟨r2, p3, none⟩)  cn  ck, .slice x.a x.n x.c, .slice y.a y.n y.c, .slice z.a z.n z.c], .string q] w' fun o w'' => o = .returned (.int .i64 (plN q s.H)) ∧ Below w'.heap.size w' w'') := fun w' hb => by
    have := rat_x e gd (HR3.out.nqb hb) q
    rw [hpl.1] at this
    exact this
  obtain ⟨-, hin, hib⟩ := HR3.out.stk hi
  have h0 := HC.out w3.drew (below_drewN (Below.refl _ w3) 1)
  dsimp only at h0
  have HD : Hid (((t = 1 ∨ t = 3) → drE q s = 8 ∧ drS q s = s) ∧ (¬ (t = 1 ∨ t = 3) → drE q s = askE q s.L s.M ∧ drS q s = ⟨s.H, askL q s.L s.M, s.M⟩)) := by
    rw [ht]
    refine ⟨fun h1 => ?_, fun h1 => ?_⟩
    · have e1 : drE q s = 8 := by unfold drE; rw [if_pos hE]; exact if_pos h1
      exact ⟨e1, by unfold drS; rw [e1]; rfl⟩
    · have e1 : drE q s = askE q s.L s.M := by unfold drE; rw [if_pos hE]; exact if_neg h1
      refine ⟨e1, ?_⟩
      unfold drS
      rw [e1]
      by_cases h2 : askE q s.L s.M = 0
      · rw [if_pos h2]
      · rw [if_neg h2, ask_same h2]
  have HT := Hid.mk' ht
  have HI := Hid.mk' hi
  have HPL := Hid.mk' hpl
  clear hi hpl ht hE hok
  generalize plN q s.H = i at *
  go_region_held3 (fun w' => w'.cell? ⟨w.heap.size, 0, none⟩ = some (.int .i64 e) ∧ w'.cell? ⟨w.heap.size, 1, none⟩ = some (.int .i64 gd) ∧ w'.cell? ⟨w.heap.size, 2, none⟩ = some (.slice a.a a.n a.c) ∧ w'.cell? ⟨w.heap.size, 3, none⟩ = some (.slice (some ⟨q2, p2, none⟩)  bn  bk) ∧ w'.cell? ⟨w.heap.size, 4, none⟩ = some (.slice (some ⟨r2, p3, none⟩)  cn  ck) ∧ w'.cell? ⟨w.heap.size, 5, none⟩ = some (.slice x.a x.n x.c) ∧ w'.cell? ⟨w.heap.size, 6, none⟩ = some (.slice y.a y.n y.c) ∧ w'.cell? ⟨w.heap.size, 7, none⟩ = some (.slice z.a z.n z.c) ∧ w'.cell? ⟨q2, p2 + i, none⟩ = some (.int .i64 t) ∧ Below w3.heap.size w3 w')
    (first | exact h0 | assumption | exact HC.out _ (Below.trans (and9 (by assumption)) (hbx.mono (Below.size (and9 (by assumption))))) | go_keep)
    ((go_at_call 50; refine (HAT.out _ (and9 (by assumption))).mono ?_; rintro o w2 ⟨rfl, hbx⟩))
  all_goals (
    have hbz : Below w3.heap.size w3 w2 := and9 (by assumption)
    rename_i hHeld
    clear h0 HC HAT hbx hHeld
    have HQ2 : Hid (Bo w w2 e gd a ⟨some ⟨q2, p2, none⟩, bn, bk⟩ ⟨some ⟨r2, p3, none⟩, cn, ck⟩ x y z) := HQ3.out.call hbz
    have HR2 := Hid.mk' (HR3.out.nqb hbz)
    have hq2 : w2.heap[w.heap.size]? = some (.cells #[.int .i64 e, .int .i64 gd, .slice a.a a.n a.c, .slice (some ⟨q2, p2, none⟩)  bn  bk, .slice (some ⟨r2, p3, none⟩)  cn  ck, .slice x.a x.n x.c, .slice y.a y.n y.c, .slice z.a z.n z.c] 33 (0, 0)) := HQ2.out.g2
    obtain ⟨c0, c1, c2, c3, c4, c5, c6, c7⟩ := blk8 hq2
    clear hq2
    by_cases h1 : t = 1
    · have HE := Hid.mk' (HD.out.1 (.inl h1))
      subst h1
      have hq4 : w2.heap[w.heap.size + 1]? = some (.cells #[.int .i64 0, .int .i64 0, .slice none 0 0, .slice none 0 0, .slice none 0 0, .slice none 0 0, .slice none 0 0, .slice none 0 0] 33 (0, 0)) := HQ2.out.g4
      obtain ⟨d0, d1, d2, d3, d4, d5, d6, d7⟩ := blk8 hq4
      have f0 := fz8 hq4 0
      have f1 := fz8 hq4 1
      have f2 := fz8 hq4 2
      have f3 := fz8 hq4 3
      have f4 := fz8 hq4 4
      have f5 := fz8 hq4 5
      have f6 := fz8 hq4 6
      have f7 := fz8 hq4 7
      clear hq4
      go_wp2
      obtain ⟨g8, h8, hb8⟩ := HQ2.out.res hG HR2.out
      try dsimp only at g8 h8 hb8
      clear d0 d1 d2 d3 d4 d5 d6 d7 f0 f1 f2 f3 f4 f5 f6 f7
      generalize ((((((((w2.setCell _ _).setCell _ _).setCell _ _).setCell _ _).setCell _ _).setCell _ _).setCell _ _).setCell _ _) = w8 at *
      obtain ⟨d0, d1, d2, d3, d4, d5, d6, d7⟩ := blk8 g8
      refine bodyPost_ret (v := .tuple #[.agg #[.int .i64 e, .int .i64 gd, .slice a.a a.n a.c, .slice (some ⟨q2, p2, none⟩)  bn  bk, .slice (some ⟨r2, p3, none⟩)  cn  ck, .slice x.a x.n x.c, .slice y.a y.n y.c, .slice z.a z.n z.c], .int .i64 8]) (by simp [results, Tryd.results40, go_sem, d0, d1, d2, d3, d4, d5, d6, d7]) rfl ?_
      rw [HE.out.1, HE.out.2]
      exact ⟨_, rfl, a, ⟨some ⟨q2, p2, none⟩, bn, bk⟩, ⟨some ⟨r2, p3, none⟩, cn, ck⟩, x, y, z, rfl, h8, hb8⟩
    · by_cases h3 : t = 3
      · have HE := Hid.mk' (HD.out.1 (.inr h3))
        subst h3
        have hq4 : w2.heap[w.heap.size + 1]? = some (.cells #[.int .i64 0, .int .i64 0, .slice none 0 0, .slice none 0 0, .slice none 0 0, .slice none 0 0, .slice none 0 0, .slice none 0 0] 33 (0, 0)) := HQ2.out.g4
        obtain ⟨d0, d1, d2, d3, d4, d5, d6, d7⟩ := blk8 hq4
        have f0 := fz8 hq4 0
        have f1 := fz8 hq4 1
        have f2 := fz8 hq4 2
        have f3 := fz8 hq4 3
        have f4 := fz8 hq4 4
        have f5 := fz8 hq4 5
        have f6 := fz8 hq4 6
        have f7 := fz8 hq4 7
        clear hq4
        go_wp2
        obtain ⟨g8, h8, hb8⟩ := HQ2.out.res hG HR2.out
        try dsimp only at g8 h8 hb8
        clear d0 d1 d2 d3 d4 d5 d6 d7 f0 f1 f2 f3 f4 f5 f6 f7
        generalize ((((((((w2.setCell _ _).setCell _ _).setCell _ _).setCell _ _).setCell _ _).setCell _ _).setCell _ _).setCell _ _) = w8 at *
        obtain ⟨d0, d1, d2, d3, d4, d5, d6, d7⟩ := blk8 g8
        refine bodyPost_ret (v := .tuple #[.agg #[.int .i64 e, .int .i64 gd, .slice a.a a.n a.c, .slice (some ⟨q2, p2, none⟩)  bn  bk, .slice (some ⟨r2, p3, none⟩)  cn  ck, .slice x.a x.n x.c, .slice y.a y.n y.c, .slice z.a z.n z.c], .int .i64 8]) (by simp [results, Tryd.results40, go_sem, d0, d1, d2, d3, d4, d5, d6, d7]) rfl ?_
        rw [HE.out.1, HE.out.2]
        exact ⟨_, rfl, a, ⟨some ⟨q2, p2, none⟩, bn, bk⟩, ⟨some ⟨r2, p3, none⟩, cn, ck⟩, x, y, z, rfl, h8, hb8⟩
      · have HE := Hid.mk' (HD.out.2 (fun h => h.elim h1 h3))
        have k1 : (t == 1) = false := by simp [h1]
        have k3 : (t == 3) = false := by simp [h3]
        have HA := Hid.mk' (rask_x HR2.out q hq)
        generalize askE q s.L s.M = E at *
        clear h1 h3
        go_upto_region 8 with (go_at_call 73; refine HA.out.mono ?_; rintro o w4 ⟨x', rfl, h4, hb4⟩)
        have hb5 : Below w4.heap.size w4 (w4.alloc (.cells #[.slice x'.a x'.n x'.c, .slice y.a y.n y.c, .slice z.a z.n z.c] 31)) := (Below.refl _ w4).alloc (Nat.le_refl _) _
        have hg5 := heap_alloc_new w4 (.cells #[.slice x'.a x'.n x'.c, .slice y.a y.n y.c, .slice z.a z.n z.c] 31)
        have HQ4 := Hid.mk' (HQ2.out.call hb4)
        have HR4 := Hid.mk' (h4.nqc HQ2.out.sz hb4.size)
        generalize w4.alloc (.cells #[.slice x'.a x'.n x'.c, .slice y.a y.n y.c, .slice z.a z.n z.c] 31) = w5 at *
        have HQ5 := Hid.mk' (HQ4.out.call hb5)
        have HR5 := Hid.mk' (HR4.out.nqb hb5)
        obtain ⟨m0, m1, m2, -⟩ := blk3 hg5
        clear c0 c1 c2 c3 c4 c5 c6 c7 hg5
        have hq2 : w5.heap[w.heap.size]? = some (.cells #[.int .i64 e, .int .i64 gd, .slice a.a a.n a.c, .slice (some ⟨q2, p2, none⟩)  bn  bk, .slice (some ⟨r2, p3, none⟩)  cn  ck, .slice x.a x.n x.c, .slice y.a y.n y.c, .slice z.a z.n z.c] 33 (0, 0)) := HQ5.out.g2
        obtain ⟨c0, c1, c2, c3, c4, c5, c6, c7⟩ := blk8 hq2
        clear hq2
        have hq2 : w5.heap[w.heap.size]? = some (.cells #[.int .i64 e, .int .i64 gd, .slice a.a a.n a.c, .slice (some ⟨q2, p2, none⟩)  bn  bk, .slice (some ⟨r2, p3, none⟩)  cn  ck, .slice x.a x.n x.c, .slice y.a y.n y.c, .slice z.a z.n z.c] 33 (0, 0)) := HQ5.out.g2
        have z5 := fz8 hq2 5
        have z6 := fz8 hq2 6
        have z7 := fz8 hq2 7
        clear hq2
        go_upto_region 9 with fail
        have HQ6 : Hid (Bo w (((w5.setCell ⟨w.heap.size, 5, none⟩ (.slice x'.a x'.n x'.c)).setCell ⟨w.heap.size, 6, none⟩ (.slice y.a y.n y.c)).setCell ⟨w.heap.size, 7, none⟩ (.slice z.a z.n z.c)) e gd a ⟨some ⟨q2, p2, none⟩, bn, bk⟩ ⟨some ⟨r2, p3, none⟩, cn, ck⟩ x' y z) := HQ5.out.store3 x' y z
        have HR6 : Hid (RL6 (((w5.setCell ⟨w.heap.size, 5, none⟩ (.slice x'.a x'.n x'.c)).setCell ⟨w.heap.size, 6, none⟩ (.slice y.a y.n y.c)).setCell ⟨w.heap.size, 7, none⟩ (.slice z.a z.n z.c)) (nq A (w.heap.size + 2) (((w5.setCell ⟨w.heap.size, 5, none⟩ (.slice x'.a x'.n x'.c)).setCell ⟨w.heap.size, 6, none⟩ (.slice y.a y.n y.c)).setCell ⟨w.heap.size, 7, none⟩ (.slice z.a z.n z.c))) a ⟨some ⟨q2, p2, none⟩, bn, bk⟩ ⟨some ⟨r2, p3, none⟩, cn, ck⟩ x' y z ⟨s.H, askL q s.L s.M, s.M⟩) := HR5.out.st3 hG
        clear c0 c1 c2 c3 c4 c5 c6 c7 z5 z6 z7 m0 m1 m2
        generalize (((w5.setCell ⟨w.heap.size, 5, none⟩ (.slice x'.a x'.n x'.c)).setCell ⟨w.heap.size, 6, none⟩ (.slice y.a y.n y.c)).setCell ⟨w.heap.size, 7, none⟩ (.slice z.a z.n z.c)) = w6 at *
        have hq2 : w6.heap[w.heap.size]? = some (.cells #[.int .i64 e, .int .i64 gd, .slice a.a a.n a.c, .slice (some ⟨q2, p2, none⟩)  bn  bk, .slice (some ⟨r2, p3, none⟩)  cn  ck, .slice x'.a x'.n x'.c, .slice y.a y.n y.c, .slice z.a z.n z.c] 33 (0, 0)) := HQ6.out.g2
        obtain ⟨c0, c1, c2, c3, c4, c5, c6, c7⟩ := blk8 hq2
        clear hq2
        have hq4 : w6.heap[w.heap.size + 1]? = some (.cells #[.int .i64 0, .int .i64 0, .slice none 0 0, .slice none 0 0, .slice none 0 0, .slice none 0 0, .slice none 0 0, .slice none 0 0] 33 (0, 0)) := HQ6.out.g4
        obtain ⟨d0, d1, d2, d3, d4, d5, d6, d7⟩ := blk8 hq4
        have f0 := fz8 hq4 0
        have f1 := fz8 hq4 1
        have f2 := fz8 hq4 2
        have f3 := fz8 hq4 3
        have f4 := fz8 hq4 4
        have f5 := fz8 hq4 5
        have f6 := fz8 hq4 6
        have f7 := fz8 hq4 7
        clear hq4
        go_wp2
        obtain ⟨g8, h8, hb8⟩ := HQ6.out.res hG HR6.out
        try dsimp only at g8 h8 hb8
        clear d0 d1 d2 d3 d4 d5 d6 d7 f0 f1 f2 f3 f4 f5 f6 f7
        generalize ((((((((w6.setCell _ _).setCell _ _).setCell _ _).setCell _ _).setCell _ _).setCell _ _).setCell _ _).setCell _ _) = w8 at *
        obtain ⟨d0, d1, d2, d3, d4, d5, d6, d7⟩ := blk8 g8
        refine bodyPost_ret (v := .tuple #[.agg #[.int .i64 e, .int .i64 gd, .slice a.a a.n a.c, .slice (some ⟨q2, p2, none⟩)  bn  bk, .slice (some ⟨r2, p3, none⟩)  cn  ck, .slice x'.a x'.n x'.c, .slice y.a y.n y.c, .slice z.a z.n z.c], .int .i64 E]) (by simp [results, Tryd.results40, go_sem, d0, d1, d2, d3, d4, d5, d6, d7]) rfl ?_
        rw [HE.out.1, HE.out.2]
        exact ⟨_, rfl, a, ⟨some ⟨q2, p2, none⟩, bn, bk⟩, ⟨some ⟨r2, p3, none⟩, cn, ck⟩, x', y, z, rfl, h8, hb8⟩)
/-- A drain is asked for. -/
theorem rdrain_f {w : World} {A : Nat → Prop} {e gd : Int} {a b c x y z : Sl} {s : Fl} (q : ByteArray) (h : RL6 w A a b c x y z s) (hG : ∀ k, A k → k < w.heap.size) (hq : q.size ≤ maxLen) :
    Calls Tryd.prog 40 #[.agg #[.int .i64 e, .int .i64 gd, .slice a.a a.n a.c, .slice b.a b.n b.c, .slice c.a c.n c.c, .slice x.a x.n x.c, .slice y.a y.n y.c, .slice z.a z.n z.c], .string q] w fun o w' => ∃ v, o = .returned (.tuple #[v, .int .i64 (drE q s)]) ∧ RP w w' A e gd (drS q s) v := by
  by_cases hE : errF q s.H = 0
  · exact rdrain_o q h hG hq hE
  · have e1 : drE q s = errF q s.H := by unfold drE; exact if_neg hE
    have e2 : drS q s = s := by unfold drS; rw [e1]; exact if_neg hE
    rw [e1, e2]
    exact rdrain_e q h hG hq hE
end Go.Proofs.YtmlkpfkeeifgeaaDoor
namespace Go.Proofs.YtmlkpfkeeifgeaaDoor
open Go.ChangeShapes Go.WideShapes Go.ChangeAt Go.RowKit Go.Joins Go.Deep

set_option maxHeartbeats 4000000 in
set_option maxRecDepth 100000 in
theorem rundrain_e {w : World} {A : Nat → Prop} {e gd : Int} {a b c x y z : Sl} {s : Fl} (q : ByteArray) (h : RL6 w A a b c x y z s) (hG : ∀ k, A k → k < w.heap.size) (hq : q.size ≤ maxLen) (hE : ¬ errF q s.H = 0) :
    Calls Tryd.prog 41 #[.agg #[.int .i64 e, .int .i64 gd, .slice a.a a.n a.c, .slice b.a b.n b.c, .slice c.a c.n c.c, .slice x.a x.n x.c, .slice y.a y.n y.c, .slice z.a z.n z.c], .string q] w fun o w' => ∃ v, o = .returned (.tuple #[v, .int .i64 (errF q s.H)]) ∧ RP w w' A e gd s v := by
  have hE' : (errF q s.H != 0) = true := by simp [hE]
  obtain ⟨w1, hw1⟩ : ∃ w1, w1 = (w.alloc (.cells #[.int .i64 e, .int .i64 gd, .slice a.a a.n a.c, .slice b.a b.n b.c, .slice c.a c.n c.c, .slice x.a x.n x.c, .slice y.a y.n y.c, .slice z.a z.n z.c] 33)).alloc (.cells #[.int .i64 0, .int .i64 0, .slice none 0 0, .slice none 0 0, .slice none 0 0, .slice none 0 0, .slice none 0 0, .slice none 0 0] 33) := ⟨_, rfl⟩
  have HQ : Hid (Bo w w1 e gd a b c x y z) := by rw [hw1]; exact Bo.start w e gd a b c x y z
  have HR : Hid (RL6 w1 (nq A (w.heap.size + 2) w1) a b c x y z s) := h.nq1 HQ.out.hb
  have hsz := HQ.out.sz
  have HK := Hid.mk' (rknown_x e gd HR.out q hq)
  generalize errF q s.H = E at *
  have hq2 : w1.heap[w.heap.size]? = some (.cells #[.int .i64 e, .int .i64 gd, .slice a.a a.n a.c, .slice b.a b.n b.c, .slice c.a c.n c.c, .slice x.a x.n x.c, .slice y.a y.n y.c, .slice z.a z.n z.c] 33 (0, 0)) := HQ.out.g2
  obtain ⟨c0, c1, c2, c3, c4, c5, c6, c7⟩ := blk8 hq2
  clear hq2
  clear h
  go_enter Tryd.func41, Tryd.ntmps41
  go_upto_region 1 with fail
  rw [← hw1]
  clear hw1
  go_upto_region 2 with (go_at_call 72; refine HK.out.mono ?_; rintro o w3 ⟨rfl, hb3⟩)
  have HQ3 : Hid (Bo w w3 e gd a b c x y z) := HQ.out.call hb3
  have HR3 := Hid.mk' (HR.out.nqb hb3)
  clear c0 c1 c2 c3 c4 c5 c6 c7
  have hq2 : w3.heap[w.heap.size]? = some (.cells #[.int .i64 e, .int .i64 gd, .slice a.a a.n a.c, .slice b.a b.n b.c, .slice c.a c.n c.c, .slice x.a x.n x.c, .slice y.a y.n y.c, .slice z.a z.n z.c] 33 (0, 0)) := HQ3.out.g2
  obtain ⟨c0, c1, c2, c3, c4, c5, c6, c7⟩ := blk8 hq2
  clear hq2
  have hq4 : w3.heap[w.heap.size + 1]? = some (.cells #[.int .i64 0, .int .i64 0, .slice none 0 0, .slice none 0 0, .slice none 0 0, .slice none 0 0, .slice none 0 0, .slice none 0 0] 33 (0, 0)) := HQ3.out.g4
  obtain ⟨d0, d1, d2, d3, d4, d5, d6, d7⟩ := blk8 hq4
  have f0 := fz8 hq4 0
  have f1 := fz8 hq4 1
  have f2 := fz8 hq4 2
  have f3 := fz8 hq4 3
  have f4 := fz8 hq4 4
  have f5 := fz8 hq4 5
  have f6 := fz8 hq4 6
  have f7 := fz8 hq4 7
  clear hq4
  go_wp2
  obtain ⟨g8, h8, hb8⟩ := HQ3.out.res hG HR3.out
  try dsimp only at g8 h8 hb8
  clear d0 d1 d2 d3 d4 d5 d6 d7 f0 f1 f2 f3 f4 f5 f6 f7
  generalize ((((((((w3.setCell _ _).setCell _ _).setCell _ _).setCell _ _).setCell _ _).setCell _ _).setCell _ _).setCell _ _) = w8 at *
  obtain ⟨d0, d1, d2, d3, d4, d5, d6, d7⟩ := blk8 g8
  refine bodyPost_ret (v := .tuple #[.agg #[.int .i64 e, .int .i64 gd, .slice a.a a.n a.c, .slice b.a b.n b.c, .slice c.a c.n c.c, .slice x.a x.n x.c, .slice y.a y.n y.c, .slice z.a z.n z.c], .int .i64 E]) (by simp [results, Tryd.results41, go_sem, d0, d1, d2, d3, d4, d5, d6, d7]) rfl ?_
  exact ⟨_, rfl, a, b, c, x, y, z, rfl, h8, hb8⟩
theorem plc_isIn {q : ByteArray} {L : List Dr} (h : isIn q L = true) : plc q (nms L) = (fidx q (nms L) : Nat) := plc_mem (isIn_iff.1 h)
theorem un_1 {q : ByteArray} {s : Fl} (hE : errF q s.H = 0) (hv : (ofN q s.H).lv = true) : unE q s = 8 ∧ unS q s = s := by
  have e1 : unE q s = 8 := by unfold unE; rw [if_pos hE, if_pos hv]
  exact ⟨e1, by unfold unS; rw [e1]; rfl⟩
theorem un_2 {q : ByteArray} {s : Fl} (hE : errF q s.H = 0) (hv : (ofN q s.H).lv = false) (hk : isIn q s.L = true) : unE q s = 0 ∧ unS q s = ⟨s.H, wo q s.L, wo q s.M⟩ := by
  have e1 : unE q s = 0 := by unfold unE; rw [if_pos hE, hv, if_neg (by simp), if_neg (by rw [hk]; simp)]
  exact ⟨e1, by unfold unS; rw [e1, if_pos rfl, if_pos hk]⟩
theorem un_3 {q : ByteArray} {s : Fl} (hE : errF q s.H = 0) (hv : (ofN q s.H).lv = false) (hk : isIn q s.L = false) (hd : St.did (ofN q s.H).st 1 = false) : unE q s = 8 ∧ unS q s = s := by
  have e1 : unE q s = 8 := by unfold unE; rw [if_pos hE, hv, if_neg (by simp), if_pos ⟨hk, hd⟩]
  exact ⟨e1, by unfold unS; rw [e1]; rfl⟩
theorem un_4 {q : ByteArray} {s : Fl} (hE : errF q s.H = 0) (hv : (ofN q s.H).lv = false) (hk : isIn q s.L = false) (hd : St.did (ofN q s.H).st 1 = true) : unE q s = 0 ∧ unS q s = ⟨putH s.H (plN q s.H) (St.nx (ofN q s.H).st 1) false, wo q s.L, wo q s.M⟩ := by
  have e1 : unE q s = 0 := by unfold unE; rw [if_pos hE, hv, if_neg (by simp), if_neg (by rw [hd]; simp)]
  refine ⟨e1, ?_⟩
  unfold unS
  rw [e1, if_pos rfl, if_neg (by rw [hk]; simp)]
  rw [← hv]
  rfl
set_option maxHeartbeats 4000000 in
set_option maxRecDepth 100000 in
theorem rundrain_o {w : World} {A : Nat → Prop} {e gd : Int} {a b c x y z : Sl} {s : Fl} (q : ByteArray) (h : RL6 w A a b c x y z s) (hG : ∀ k, A k → k < w.heap.size) (hq : q.size ≤ maxLen) (hE : errF q s.H = 0) (hlen : s.H.length ≤ 4000) (hl : s.L.length ≤ 3500) (hm : s.M.length ≤ 3500) :
    Calls Tryd.prog 41 #[.agg #[.int .i64 e, .int .i64 gd, .slice a.a a.n a.c, .slice b.a b.n b.c, .slice c.a c.n c.c, .slice x.a x.n x.c, .slice y.a y.n y.c, .slice z.a z.n z.c], .string q] w fun o w' => ∃ v, o = .returned (.tuple #[v, .int .i64 (unE q s)]) ∧ RP w w' A e gd (unS q s) v := by
  have hok := errF_ok hE
  have hpl := pl_yes hok.2
  obtain ⟨i, hi0⟩ : ∃ i, i = plN q s.H := ⟨_, rfl⟩
  rw [← hi0] at hpl
  have hi := hpl.2
  obtain ⟨ba, bn, bk⟩ := b
  obtain ⟨ca, cn, ck⟩ := c
  obtain ⟨-, q2, p2, e2, -⟩ := h.sti hi
  obtain ⟨-, r2, p3, e3, -⟩ := h.lvi hi
  obtain rfl : ba = some ⟨q2, p2, none⟩ := e2
  obtain rfl : ca = some ⟨r2, p3, none⟩ := e3
  dsimp only
  obtain ⟨t, ht⟩ : ∃ t, t = (atH s.H i).st := ⟨_, rfl⟩
  obtain ⟨v, hv⟩ : ∃ v, v = (atH s.H i).lv := ⟨_, rfl⟩
  have HT : Hid (t = (atH s.H i).st ∧ v = (atH s.H i).lv ∧ i = plN q s.H ∧ i < s.H.length ∧ errF q s.H = 0) := ⟨ht, hv, hi0, hi, hE⟩
  clear ht hv
  obtain ⟨w1, hw1⟩ : ∃ w1, w1 = (w.alloc (.cells #[.int .i64 e, .int .i64 gd, .slice a.a a.n a.c, .slice (some ⟨q2, p2, none⟩)  bn  bk, .slice (some ⟨r2, p3, none⟩)  cn  ck, .slice x.a x.n x.c, .slice y.a y.n y.c, .slice z.a z.n z.c] 33)).alloc (.cells #[.int .i64 0, .int .i64 0, .slice none 0 0, .slice none 0 0, .slice none 0 0, .slice none 0 0, .slice none 0 0, .slice none 0 0] 33) := ⟨_, rfl⟩
  have HQ : Hid (Bo w w1 e gd a ⟨some ⟨q2, p2, none⟩, bn, bk⟩ ⟨some ⟨r2, p3, none⟩, cn, ck⟩ x y z) := by rw [hw1]; exact Bo.start w e gd a ⟨some ⟨q2, p2, none⟩, bn, bk⟩ ⟨some ⟨r2, p3, none⟩, cn, ck⟩ x y z
  have HR : Hid (RL6 w1 (nq A (w.heap.size + 2) w1) a ⟨some ⟨q2, p2, none⟩, bn, bk⟩ ⟨some ⟨r2, p3, none⟩, cn, ck⟩ x y z s) := h.nq1 HQ.out.hb
  have hsz := HQ.out.sz
  have HK := Hid.mk' (rknown_x e gd HR.out q hq)
  rw [hE] at HK
  have hq2 : w1.heap[w.heap.size]? = some (.cells #[.int .i64 e, .int .i64 gd, .slice a.a a.n a.c, .slice (some ⟨q2, p2, none⟩)  bn  bk, .slice (some ⟨r2, p3, none⟩)  cn  ck, .slice x.a x.n x.c, .slice y.a y.n y.c, .slice z.a z.n z.c] 33 (0, 0)) := HQ.out.g2
  obtain ⟨c0, c1, c2, c3, c4, c5, c6, c7⟩ := blk8 hq2
  clear hq2
  clear h
  go_enter Tryd.func41, Tryd.ntmps41
  go_upto_region 1 with fail
  rw [← hw1]
  clear hw1
  go_upto_region 4 with (go_at_call 72; refine HK.out.mono ?_; rintro o w3 ⟨rfl, hb3⟩)
  have HQ3 : Hid (Bo w w3 e gd a ⟨some ⟨q2, p2, none⟩, bn, bk⟩ ⟨some ⟨r2, p3, none⟩, cn, ck⟩ x y z) := HQ.out.call hb3
  have HR3 := Hid.mk' (HR.out.nqb hb3)
  clear c0 c1 c2 c3 c4 c5 c6 c7
  have hq2 : w3.heap[w.heap.size]? = some (.cells #[.int .i64 e, .int .i64 gd, .slice a.a a.n a.c, .slice (some ⟨q2, p2, none⟩)  bn  bk, .slice (some ⟨r2, p3, none⟩)  cn  ck, .slice x.a x.n x.c, .slice y.a y.n y.c, .slice z.a z.n z.c] 33 (0, 0)) := HQ3.out.g2
  obtain ⟨c0, c1, c2, c3, c4, c5, c6, c7⟩ := blk8 hq2
  clear hq2
  have HAT := Hid.mk' (rat_x e gd HR3.out q)
  rw [hpl.1] at HAT
  clear hpl hok hE hi0
  go_upto_region 5 with (go_at_call 50; refine HAT.out.mono ?_; rintro o w4 ⟨rfl, hb4⟩)
  have HQ4 : Hid (Bo w w4 e gd a ⟨some ⟨q2, p2, none⟩, bn, bk⟩ ⟨some ⟨r2, p3, none⟩, cn, ck⟩ x y z) := HQ3.out.call hb4
  have HR4 := Hid.mk' (HR3.out.nqb hb4)
  clear c0 c1 c2 c3 c4 c5 c6 c7
  have hq2 : w4.heap[w.heap.size]? = some (.cells #[.int .i64 e, .int .i64 gd, .slice a.a a.n a.c, .slice (some ⟨q2, p2, none⟩)  bn  bk, .slice (some ⟨r2, p3, none⟩)  cn  ck, .slice x.a x.n x.c, .slice y.a y.n y.c, .slice z.a z.n z.c] 33 (0, 0)) := HQ4.out.g2
  obtain ⟨c0, c1, c2, c3, c4, c5, c6, c7⟩ := blk8 hq2
  clear hq2
  obtain ⟨x2, hin2, hib2⟩ := HR4.out.stk HT.out.2.2.2.1
  obtain ⟨x3, hin3, hib3⟩ := HR4.out.lvk HT.out.2.2.2.1
  rw [← HT.out.1] at x2
  rw [← HT.out.2.1] at x3
  have HG4 : Hid (∀ k, nq A (w.heap.size + 2) w4 k → k < w4.heap.size) := fun _ hk => nq_lt hG HQ4.out.hb.size hk
  have hlv : (ofN q s.H).lv = v := by show (atH s.H (plN q s.H)).lv = v; rw [← HT.out.2.2.1]; exact HT.out.2.1.symm
  have hst : (ofN q s.H).st = t := by show (atH s.H (plN q s.H)).st = t; rw [← HT.out.2.2.1]; exact HT.out.1.symm
  have HLS : Hid ((ofN q s.H).lv = v ∧ (ofN q s.H).st = t) := ⟨hlv, hst⟩
  clear hlv hst
  cases v with
  | true =>
    have HE := Hid.mk' (un_1 HT.out.2.2.2.2 HLS.out.1)
    have hq4 : w4.heap[w.heap.size + 1]? = some (.cells #[.int .i64 0, .int .i64 0, .slice none 0 0, .slice none 0 0, .slice none 0 0, .slice none 0 0, .slice none 0 0, .slice none 0 0] 33 (0, 0)) := HQ4.out.g4
    obtain ⟨d0, d1, d2, d3, d4, d5, d6, d7⟩ := blk8 hq4
    have f0 := fz8 hq4 0
    have f1 := fz8 hq4 1
    have f2 := fz8 hq4 2
    have f3 := fz8 hq4 3
    have f4 := fz8 hq4 4
    have f5 := fz8 hq4 5
    have f6 := fz8 hq4 6
    have f7 := fz8 hq4 7
    clear hq4
    go_wp2
    obtain ⟨g8, h8, hb8⟩ := HQ4.out.res hG HR4.out
    try dsimp only at g8 h8 hb8
    clear d0 d1 d2 d3 d4 d5 d6 d7 f0 f1 f2 f3 f4 f5 f6 f7
    generalize ((((((((w4.setCell _ _).setCell _ _).setCell _ _).setCell _ _).setCell _ _).setCell _ _).setCell _ _).setCell _ _) = w8 at *
    obtain ⟨d0, d1, d2, d3, d4, d5, d6, d7⟩ := blk8 g8
    refine bodyPost_ret (v := .tuple #[.agg #[.int .i64 e, .int .i64 gd, .slice a.a a.n a.c, .slice (some ⟨q2, p2, none⟩)  bn  bk, .slice (some ⟨r2, p3, none⟩)  cn  ck, .slice x.a x.n x.c, .slice y.a y.n y.c, .slice z.a z.n z.c], .int .i64 8]) (by simp [results, Tryd.results41, go_sem, d0, d1, d2, d3, d4, d5, d6, d7]) rfl ?_
    rw [HE.out.1, HE.out.2]
    exact ⟨_, rfl, a, ⟨some ⟨q2, p2, none⟩, bn, bk⟩, ⟨some ⟨r2, p3, none⟩, cn, ck⟩, x, y, z, rfl, h8, hb8⟩
  | false =>
    have HP := Hid.mk' (rplace_x HR4.out q)
    cases hk : isIn q s.L with
    | true =>
      have HE := Hid.mk' (un_2 HT.out.2.2.2.2 HLS.out.1 hk)
      rw [plc_isIn hk] at HP
      generalize fidx q (nms s.L) = k at *
      clear hk
      go_wp2_with (first
        | (go_at_call 49; refine HP.out.mono ?_; rintro o w5 ⟨rfl, hw5⟩; subst hw5)
        | (go_at_call 70; refine (rend_x q HR4.out HG4.out hl hm).mono ?_; rintro o w5 ⟨x', y', z', rfl, h5, hb5⟩; have HQ5 := Hid.mk' (HQ4.out.call hb5); have hq4 : w5.heap[w.heap.size + 1]? = some (.cells #[.int .i64 0, .int .i64 0, .slice none 0 0, .slice none 0 0, .slice none 0 0, .slice none 0 0, .slice none 0 0, .slice none 0 0] 33 (0, 0)) := HQ5.out.g4; obtain ⟨d0, d1, d2, d3, d4, d5, d6, d7⟩ := blk8 hq4; have f0 := fz8 hq4 0; have f1 := fz8 hq4 1; have f2 := fz8 hq4 2; have f3 := fz8 hq4 3; have f4 := fz8 hq4 4; have f5 := fz8 hq4 5; have f6 := fz8 hq4 6; have f7 := fz8 hq4 7; clear hq4))
      have HR5 := Hid.mk' (h5.nqc HQ4.out.sz hb5.size)
      obtain ⟨g8, h8, hb8⟩ := HQ5.out.res hG HR5.out
      try dsimp only at g8 h8 hb8
      clear d0 d1 d2 d3 d4 d5 d6 d7 f0 f1 f2 f3 f4 f5 f6 f7
      generalize ((((((((w5.setCell _ _).setCell _ _).setCell _ _).setCell _ _).setCell _ _).setCell _ _).setCell _ _).setCell _ _) = w8 at *
      obtain ⟨d0, d1, d2, d3, d4, d5, d6, d7⟩ := blk8 g8
      refine bodyPost_ret (v := .tuple #[.agg #[.int .i64 e, .int .i64 gd, .slice a.a a.n a.c, .slice (some ⟨q2, p2, none⟩)  bn  bk, .slice (some ⟨r2, p3, none⟩)  cn  ck, .slice x'.a x'.n x'.c, .slice y'.a y'.n y'.c, .slice z'.a z'.n z'.c], .int .i64 0]) (by simp [results, Tryd.results41, go_sem, d0, d1, d2, d3, d4, d5, d6, d7]) rfl ?_
      rw [HE.out.1, HE.out.2]
      exact ⟨_, rfl, a, ⟨some ⟨q2, p2, none⟩, bn, bk⟩, ⟨some ⟨r2, p3, none⟩, cn, ck⟩, x', y', z', rfl, h8, hb8⟩
    | false =>
      rw [isIn_plc.2 hk] at HP
      have HN := Hid.mk' (St.rnext_any t 1 w4)
      cases hd : St.did t 1 with
      | false =>
        have HE := Hid.mk' (un_3 HT.out.2.2.2.2 HLS.out.1 hk (by rw [HLS.out.2]; exact hd))
        rw [hd] at HN
        clear hk hd
        have hq4 : w4.heap[w.heap.size + 1]? = some (.cells #[.int .i64 0, .int .i64 0, .slice none 0 0, .slice none 0 0, .slice none 0 0, .slice none 0 0, .slice none 0 0, .slice none 0 0] 33 (0, 0)) := HQ4.out.g4
        obtain ⟨d0, d1, d2, d3, d4, d5, d6, d7⟩ := blk8 hq4
        have f0 := fz8 hq4 0
        have f1 := fz8 hq4 1
        have f2 := fz8 hq4 2
        have f3 := fz8 hq4 3
        have f4 := fz8 hq4 4
        have f5 := fz8 hq4 5
        have f6 := fz8 hq4 6
        have f7 := fz8 hq4 7
        clear hq4
        go_wp2_with (first
          | (go_at_call 49; refine HP.out.mono ?_; rintro o w5 ⟨rfl, hw5⟩; subst hw5)
          | (go_at_call 69; refine HN.out.mono ?_; rintro o w5 ⟨rfl, hw5⟩; subst hw5))
        obtain ⟨g8, h8, hb8⟩ := HQ4.out.res hG HR4.out
        try dsimp only at g8 h8 hb8
        clear d0 d1 d2 d3 d4 d5 d6 d7 f0 f1 f2 f3 f4 f5 f6 f7
        generalize ((((((((w5.setCell _ _).setCell _ _).setCell _ _).setCell _ _).setCell _ _).setCell _ _).setCell _ _).setCell _ _) = w8 at *
        obtain ⟨d0, d1, d2, d3, d4, d5, d6, d7⟩ := blk8 g8
        refine bodyPost_ret (v := .tuple #[.agg #[.int .i64 e, .int .i64 gd, .slice a.a a.n a.c, .slice (some ⟨q2, p2, none⟩)  bn  bk, .slice (some ⟨r2, p3, none⟩)  cn  ck, .slice x.a x.n x.c, .slice y.a y.n y.c, .slice z.a z.n z.c], .int .i64 8]) (by simp [results, Tryd.results41, go_sem, d0, d1, d2, d3, d4, d5, d6, d7]) rfl ?_
        rw [HE.out.1, HE.out.2]
        exact ⟨_, rfl, a, ⟨some ⟨q2, p2, none⟩, bn, bk⟩, ⟨some ⟨r2, p3, none⟩, cn, ck⟩, x, y, z, rfl, h8, hb8⟩
      | true =>
        have HE := Hid.mk' (un_4 HT.out.2.2.2.2 HLS.out.1 hk (by rw [HLS.out.2]; exact hd))
        rw [hd] at HN
        rw [HLS.out.2, ← HT.out.2.2.1] at HE
        generalize St.nx t 1 = u at *
        clear hk hd
        go_wp2_with (first
          | (go_at_call 49; refine HP.out.mono ?_; rintro o w5 ⟨rfl, hw5⟩; subst hw5)
          | (go_at_call 69; refine HN.out.mono ?_; rintro o w5 ⟨rfl, hw5⟩; subst hw5)
          | (go_at_call 71; refine (rput_f HR4.out HG4.out i HT.out.2.2.2.1 hlen u false).mono ?_; rintro o w6 ⟨b', c', rfl, h6, hb6⟩)
          | (go_at_call 70; refine (rend_x q (h6.nqc HQ4.out.sz hb6.size) (fun _ hk => nq_lt hG (HQ4.out.call hb6).hb.size hk) hl hm).mono ?_; rintro o w7 ⟨x', y', z', rfl, h7, hb7⟩; have HQ7 := Hid.mk' ((HQ4.out.call hb6).call hb7); have hq4 : w7.heap[w.heap.size + 1]? = some (.cells #[.int .i64 0, .int .i64 0, .slice none 0 0, .slice none 0 0, .slice none 0 0, .slice none 0 0, .slice none 0 0, .slice none 0 0] 33 (0, 0)) := HQ7.out.g4; obtain ⟨d0, d1, d2, d3, d4, d5, d6, d7⟩ := blk8 hq4; have f0 := fz8 hq4 0; have f1 := fz8 hq4 1; have f2 := fz8 hq4 2; have f3 := fz8 hq4 3; have f4 := fz8 hq4 4; have f5 := fz8 hq4 5; have f6 := fz8 hq4 6; have f7 := fz8 hq4 7; clear hq4))
        have HR7 := Hid.mk' (h7.nqc (HQ4.out.call hb6).sz hb7.size)
        obtain ⟨g8, h8, hb8⟩ := HQ7.out.res hG HR7.out
        try dsimp only at g8 h8 hb8
        clear d0 d1 d2 d3 d4 d5 d6 d7 f0 f1 f2 f3 f4 f5 f6 f7
        generalize ((((((((w7.setCell _ _).setCell _ _).setCell _ _).setCell _ _).setCell _ _).setCell _ _).setCell _ _).setCell _ _) = w8 at *
        obtain ⟨d0, d1, d2, d3, d4, d5, d6, d7⟩ := blk8 g8
        refine bodyPost_ret (v := .tuple #[.agg #[.int .i64 e, .int .i64 gd, .slice a.a a.n a.c, .slice b'.a b'.n b'.c, .slice c'.a c'.n c'.c, .slice x'.a x'.n x'.c, .slice y'.a y'.n y'.c, .slice z'.a z'.n z'.c], .int .i64 0]) (by simp [results, Tryd.results41, go_sem, d0, d1, d2, d3, d4, d5, d6, d7]) rfl ?_
        rw [HE.out.1, HE.out.2]
        exact ⟨_, rfl, a, b', c', x', y', z', rfl, h8, hb8⟩
theorem rundrain_f {w : World} {A : Nat → Prop} {e gd : Int} {a b c x y z : Sl} {s : Fl} (q : ByteArray) (h : RL6 w A a b c x y z s) (hG : ∀ k, A k → k < w.heap.size) (hq : q.size ≤ maxLen) (hlen : s.H.length ≤ 4000) (hl : s.L.length ≤ 3500) (hm : s.M.length ≤ 3500) :
    Calls Tryd.prog 41 #[.agg #[.int .i64 e, .int .i64 gd, .slice a.a a.n a.c, .slice b.a b.n b.c, .slice c.a c.n c.c, .slice x.a x.n x.c, .slice y.a y.n y.c, .slice z.a z.n z.c], .string q] w fun o w' => ∃ v, o = .returned (.tuple #[v, .int .i64 (unE q s)]) ∧ RP w w' A e gd (unS q s) v := by
  by_cases hE : errF q s.H = 0
  · exact rundrain_o q h hG hq hE hlen hl hm
  · have e1 : unE q s = errF q s.H := by unfold unE; exact if_neg hE
    have e2 : unS q s = s := by unfold unS; rw [e1]; exact if_neg hE
    rw [e1, e2]
    exact rundrain_e q h hG hq hE
end Go.Proofs.YtmlkpfkeeifgeaaDoor
namespace Go.Proofs.YtmlkpfkeeifgeaaDoor
open Go.ChangeShapes Go.WideShapes Go.ChangeAt Go.RowKit Go.Joins Go.Deep

set_option maxHeartbeats 4000000 in
set_option maxRecDepth 100000 in
theorem rforce_e {w : World} {A : Nat → Prop} {e gd : Int} {a b c x y z : Sl} {s : Fl} (q : ByteArray) (d : Int) (h : RL6 w A a b c x y z s) (hG : ∀ k, A k → k < w.heap.size) (hq : q.size ≤ maxLen) (hE : ¬ errF q s.H = 0) :
    Calls Tryd.prog 42 #[.agg #[.int .i64 e, .int .i64 gd, .slice a.a a.n a.c, .slice b.a b.n b.c, .slice c.a c.n c.c, .slice x.a x.n x.c, .slice y.a y.n y.c, .slice z.a z.n z.c], .string q, .int .i64 d] w fun o w' => ∃ v, o = .returned (.tuple #[v, .int .i64 (errF q s.H)]) ∧ RP w w' A e gd s v := by
  have hE' : (errF q s.H != 0) = true := by simp [hE]
  obtain ⟨w1, hw1⟩ : ∃ w1, w1 = (w.alloc (.cells #[.int .i64 e, .int .i64 gd, .slice a.a a.n a.c, .slice b.a b.n b.c, .slice c.a c.n c.c, .slice x.a x.n x.c, .slice y.a y.n y.c, .slice z.a z.n z.c] 33)).alloc (.cells #[.int .i64 0, .int .i64 0, .slice none 0 0, .slice none 0 0, .slice none 0 0, .slice none 0 0, .slice none 0 0, .slice none 0 0] 33) := ⟨_, rfl⟩
  have HQ : Hid (Bo w w1 e gd a b c x y z) := by rw [hw1]; exact Bo.start w e gd a b c x y z
  have HR : Hid (RL6 w1 (nq A (w.heap.size + 2) w1) a b c x y z s) := h.nq1 HQ.out.hb
  have hsz := HQ.out.sz
  have HK := Hid.mk' (rknown_x e gd HR.out q hq)
  generalize errF q s.H = E at *
  have hq2 : w1.heap[w.heap.size]? = some (.cells #[.int .i64 e, .int .i64 gd, .slice a.a a.n a.c, .slice b.a b.n b.c, .slice c.a c.n c.c, .slice x.a x.n x.c, .slice y.a y.n y.c, .slice z.a z.n z.c] 33 (0, 0)) := HQ.out.g2
  obtain ⟨c0, c1, c2, c3, c4, c5, c6, c7⟩ := blk8 hq2
  clear hq2
  clear h
  go_enter Tryd.func42, Tryd.ntmps42
  go_upto_region 1 with fail
  rw [← hw1]
  clear hw1
  go_upto_region 2 with (go_at_call 72; refine HK.out.mono ?_; rintro o w3 ⟨rfl, hb3⟩)
  have HQ3 : Hid (Bo w w3 e gd a b c x y z) := HQ.out.call hb3
  have HR3 := Hid.mk' (HR.out.nqb hb3)
  clear c0 c1 c2 c3 c4 c5 c6 c7
  have hq2 : w3.heap[w.heap.size]? = some (.cells #[.int .i64 e, .int .i64 gd, .slice a.a a.n a.c, .slice b.a b.n b.c, .slice c.a c.n c.c, .slice x.a x.n x.c, .slice y.a y.n y.c, .slice z.a z.n z.c] 33 (0, 0)) := HQ3.out.g2
  obtain ⟨c0, c1, c2, c3, c4, c5, c6, c7⟩ := blk8 hq2
  clear hq2
  have hq4 : w3.heap[w.heap.size + 1]? = some (.cells #[.int .i64 0, .int .i64 0, .slice none 0 0, .slice none 0 0, .slice none 0 0, .slice none 0 0, .slice none 0 0, .slice none 0 0] 33 (0, 0)) := HQ3.out.g4
  obtain ⟨d0, d1, d2, d3, d4, d5, d6, d7⟩ := blk8 hq4
  have f0 := fz8 hq4 0
  have f1 := fz8 hq4 1
  have f2 := fz8 hq4 2
  have f3 := fz8 hq4 3
  have f4 := fz8 hq4 4
  have f5 := fz8 hq4 5
  have f6 := fz8 hq4 6
  have f7 := fz8 hq4 7
  clear hq4
  go_wp2
  obtain ⟨g8, h8, hb8⟩ := HQ3.out.res hG HR3.out
  try dsimp only at g8 h8 hb8
  clear d0 d1 d2 d3 d4 d5 d6 d7 f0 f1 f2 f3 f4 f5 f6 f7
  generalize ((((((((w3.setCell _ _).setCell _ _).setCell _ _).setCell _ _).setCell _ _).setCell _ _).setCell _ _).setCell _ _) = w8 at *
  obtain ⟨d0, d1, d2, d3, d4, d5, d6, d7⟩ := blk8 g8
  refine bodyPost_ret (v := .tuple #[.agg #[.int .i64 e, .int .i64 gd, .slice a.a a.n a.c, .slice b.a b.n b.c, .slice c.a c.n c.c, .slice x.a x.n x.c, .slice y.a y.n y.c, .slice z.a z.n z.c], .int .i64 E]) (by simp [results, Tryd.results42, go_sem, d0, d1, d2, d3, d4, d5, d6, d7]) rfl ?_
  exact ⟨_, rfl, a, b, c, x, y, z, rfl, h8, hb8⟩
theorem fo_1 {q : ByteArray} {d : Int} {s : Fl} (hE : errF q s.H = 0) (hv : (ofN q s.H).st = 3) : foE q s = 8 ∧ foS q d s = s := by
  have e1 : foE q s = 8 := by unfold foE; rw [if_pos hE, if_pos hv]
  exact ⟨e1, by unfold foS; rw [e1]; rfl⟩
theorem fo_2 {q : ByteArray} {d : Int} {s : Fl} (hE : errF q s.H = 0) (hv : ¬ (ofN q s.H).st = 3) : foE q s = 0 ∧ foS q d s = ⟨putH s.H (plN q s.H) (St.nx (ofN q s.H).st 0) (ofN q s.H).lv, begL q (wo q s.L) (wo q s.M), begM q d (wo q s.M)⟩ := by
  have e1 : foE q s = 0 := by unfold foE; rw [if_pos hE, if_neg hv]
  exact ⟨e1, by unfold foS; rw [e1]; rfl⟩
set_option maxHeartbeats 4000000 in
set_option maxRecDepth 100000 in
theorem rforce_o {w : World} {A : Nat → Prop} {e gd : Int} {a b c x y z : Sl} {s : Fl} (q : ByteArray) (d : Int) (h : RL6 w A a b c x y z s) (hG : ∀ k, A k → k < w.heap.size) (hq : q.size ≤ maxLen) (hE : errF q s.H = 0) (hlen : s.H.length ≤ 4000) (hl : s.L.length ≤ 3500) (hm : s.M.length ≤ 3500) :
    Calls Tryd.prog 42 #[.agg #[.int .i64 e, .int .i64 gd, .slice a.a a.n a.c, .slice b.a b.n b.c, .slice c.a c.n c.c, .slice x.a x.n x.c, .slice y.a y.n y.c, .slice z.a z.n z.c], .string q, .int .i64 d] w fun o w' => ∃ v, o = .returned (.tuple #[v, .int .i64 (foE q s)]) ∧ RP w w' A e gd (foS q d s) v := by
  have hok := errF_ok hE
  have hpl := pl_yes hok.2
  obtain ⟨i, hi0⟩ : ∃ i, i = plN q s.H := ⟨_, rfl⟩
  rw [← hi0] at hpl
  have hi := hpl.2
  obtain ⟨ba, bn, bk⟩ := b
  obtain ⟨ca, cn, ck⟩ := c
  obtain ⟨-, q2, p2, e2, -⟩ := h.sti hi
  obtain ⟨-, r2, p3, e3, -⟩ := h.lvi hi
  obtain rfl : ba = some ⟨q2, p2, none⟩ := e2
  obtain rfl : ca = some ⟨r2, p3, none⟩ := e3
  dsimp only
  obtain ⟨t, ht⟩ : ∃ t, t = (atH s.H i).st := ⟨_, rfl⟩
  obtain ⟨v, hv⟩ : ∃ v, v = (atH s.H i).lv := ⟨_, rfl⟩
  have HT : Hid (t = (atH s.H i).st ∧ v = (atH s.H i).lv ∧ i = plN q s.H ∧ i < s.H.length ∧ errF q s.H = 0) := ⟨ht, hv, hi0, hi, hE⟩
  clear ht hv
  obtain ⟨w1, hw1⟩ : ∃ w1, w1 = (w.alloc (.cells #[.int .i64 e, .int .i64 gd, .slice a.a a.n a.c, .slice (some ⟨q2, p2, none⟩)  bn  bk, .slice (some ⟨r2, p3, none⟩)  cn  ck, .slice x.a x.n x.c, .slice y.a y.n y.c, .slice z.a z.n z.c] 33)).alloc (.cells #[.int .i64 0, .int .i64 0, .slice none 0 0, .slice none 0 0, .slice none 0 0, .slice none 0 0, .slice none 0 0, .slice none 0 0] 33) := ⟨_, rfl⟩
  have HQ : Hid (Bo w w1 e gd a ⟨some ⟨q2, p2, none⟩, bn, bk⟩ ⟨some ⟨r2, p3, none⟩, cn, ck⟩ x y z) := by rw [hw1]; exact Bo.start w e gd a ⟨some ⟨q2, p2, none⟩, bn, bk⟩ ⟨some ⟨r2, p3, none⟩, cn, ck⟩ x y z
  have HR : Hid (RL6 w1 (nq A (w.heap.size + 2) w1) a ⟨some ⟨q2, p2, none⟩, bn, bk⟩ ⟨some ⟨r2, p3, none⟩, cn, ck⟩ x y z s) := h.nq1 HQ.out.hb
  have hsz := HQ.out.sz
  have HK := Hid.mk' (rknown_x e gd HR.out q hq)
  rw [hE] at HK
  have hq2 : w1.heap[w.heap.size]? = some (.cells #[.int .i64 e, .int .i64 gd, .slice a.a a.n a.c, .slice (some ⟨q2, p2, none⟩)  bn  bk, .slice (some ⟨r2, p3, none⟩)  cn  ck, .slice x.a x.n x.c, .slice y.a y.n y.c, .slice z.a z.n z.c] 33 (0, 0)) := HQ.out.g2
  obtain ⟨c0, c1, c2, c3, c4, c5, c6, c7⟩ := blk8 hq2
  clear hq2
  clear h
  go_enter Tryd.func42, Tryd.ntmps42
  go_upto_region 1 with fail
  rw [← hw1]
  clear hw1
  go_upto_region 4 with (go_at_call 72; refine HK.out.mono ?_; rintro o w3 ⟨rfl, hb3⟩)
  have HQ3 : Hid (Bo w w3 e gd a ⟨some ⟨q2, p2, none⟩, bn, bk⟩ ⟨some ⟨r2, p3, none⟩, cn, ck⟩ x y z) := HQ.out.call hb3
  have HR3 := Hid.mk' (HR.out.nqb hb3)
  clear c0 c1 c2 c3 c4 c5 c6 c7
  have hq2 : w3.heap[w.heap.size]? = some (.cells #[.int .i64 e, .int .i64 gd, .slice a.a a.n a.c, .slice (some ⟨q2, p2, none⟩)  bn  bk, .slice (some ⟨r2, p3, none⟩)  cn  ck, .slice x.a x.n x.c, .slice y.a y.n y.c, .slice z.a z.n z.c] 33 (0, 0)) := HQ3.out.g2
  obtain ⟨c0, c1, c2, c3, c4, c5, c6, c7⟩ := blk8 hq2
  clear hq2
  have HAT := Hid.mk' (rat_x e gd HR3.out q)
  rw [hpl.1] at HAT
  clear hpl hok hE hi0
  go_upto_region 5 with (go_at_call 50; refine HAT.out.mono ?_; rintro o w4 ⟨rfl, hb4⟩)
  have HQ4 : Hid (Bo w w4 e gd a ⟨some ⟨q2, p2, none⟩, bn, bk⟩ ⟨some ⟨r2, p3, none⟩, cn, ck⟩ x y z) := HQ3.out.call hb4
  have HR4 := Hid.mk' (HR3.out.nqb hb4)
  clear c0 c1 c2 c3 c4 c5 c6 c7
  have hq2 : w4.heap[w.heap.size]? = some (.cells #[.int .i64 e, .int .i64 gd, .slice a.a a.n a.c, .slice (some ⟨q2, p2, none⟩)  bn  bk, .slice (some ⟨r2, p3, none⟩)  cn  ck, .slice x.a x.n x.c, .slice y.a y.n y.c, .slice z.a z.n z.c] 33 (0, 0)) := HQ4.out.g2
  obtain ⟨c0, c1, c2, c3, c4, c5, c6, c7⟩ := blk8 hq2
  clear hq2
  obtain ⟨x2, hin2, hib2⟩ := HR4.out.stk HT.out.2.2.2.1
  obtain ⟨x3, hin3, hib3⟩ := HR4.out.lvk HT.out.2.2.2.1
  rw [← HT.out.1] at x2
  rw [← HT.out.2.1] at x3
  have HG4 : Hid (∀ k, nq A (w.heap.size + 2) w4 k → k < w4.heap.size) := fun _ hk => nq_lt hG HQ4.out.hb.size hk
  have hlv : (ofN q s.H).lv = v := by show (atH s.H (plN q s.H)).lv = v; rw [← HT.out.2.2.1]; exact HT.out.2.1.symm
  have hst : (ofN q s.H).st = t := by show (atH s.H (plN q s.H)).st = t; rw [← HT.out.2.2.1]; exact HT.out.1.symm
  have HLS : Hid ((ofN q s.H).lv = v ∧ (ofN q s.H).st = t) := ⟨hlv, hst⟩
  clear hlv hst
  by_cases h3 : t = 3
  · have HE := Hid.mk' (fo_1 (d := d) HT.out.2.2.2.2 (HLS.out.2.trans h3))
    subst h3
    have hq4 : w4.heap[w.heap.size + 1]? = some (.cells #[.int .i64 0, .int .i64 0, .slice none 0 0, .slice none 0 0, .slice none 0 0, .slice none 0 0, .slice none 0 0, .slice none 0 0] 33 (0, 0)) := HQ4.out.g4
    obtain ⟨d0, d1, d2, d3, d4, d5, d6, d7⟩ := blk8 hq4
    have f0 := fz8 hq4 0
    have f1 := fz8 hq4 1
    have f2 := fz8 hq4 2
    have f3 := fz8 hq4 3
    have f4 := fz8 hq4 4
    have f5 := fz8 hq4 5
    have f6 := fz8 hq4 6
    have f7 := fz8 hq4 7
    clear hq4
    go_wp2
    obtain ⟨g8, h8, hb8⟩ := HQ4.out.res hG HR4.out
    try dsimp only at g8 h8 hb8
    clear d0 d1 d2 d3 d4 d5 d6 d7 f0 f1 f2 f3 f4 f5 f6 f7
    generalize ((((((((w4.setCell _ _).setCell _ _).setCell _ _).setCell _ _).setCell _ _).setCell _ _).setCell _ _).setCell _ _) = w8 at *
    obtain ⟨d0, d1, d2, d3, d4, d5, d6, d7⟩ := blk8 g8
    refine bodyPost_ret (v := .tuple #[.agg #[.int .i64 e, .int .i64 gd, .slice a.a a.n a.c, .slice (some ⟨q2, p2, none⟩)  bn  bk, .slice (some ⟨r2, p3, none⟩)  cn  ck, .slice x.a x.n x.c, .slice y.a y.n y.c, .slice z.a z.n z.c], .int .i64 8]) (by simp [results, Tryd.results42, go_sem, d0, d1, d2, d3, d4, d5, d6, d7]) rfl ?_
    rw [HE.out.1, HE.out.2]
    exact ⟨_, rfl, a, ⟨some ⟨q2, p2, none⟩, bn, bk⟩, ⟨some ⟨r2, p3, none⟩, cn, ck⟩, x, y, z, rfl, h8, hb8⟩
  · have HE := Hid.mk' (fo_2 (d := d) HT.out.2.2.2.2 (by rw [HLS.out.2]; exact h3))
    rw [HLS.out.2, HLS.out.1, ← HT.out.2.2.1] at HE
    have k3 : (t == 3) = false := by simp [h3]
    have HN := Hid.mk' (St.rnext_any t 0 w4)
    generalize St.nx t 0 = u at *
    generalize St.did t 0 = g at *
    clear h3
    go_upto_region 8 with (go_at_call 69; refine HN.out.mono ?_; rintro o w5 ⟨rfl, hw5⟩; have hw5 := hw5.symm; subst hw5)
    have hbd : Below w4.heap.size w4 w4.drew := below_drewN (Below.refl _ w4) 1
    have HQd := Hid.mk' (HQ4.out.call hbd)
    have HRd := Hid.mk' (HR4.out.nqb hbd)
    have HGd : Hid (∀ k, nq A (w.heap.size + 2) w4.drew k → k < w4.drew.heap.size) := fun _ hk => nq_lt hG HQd.out.hb.size hk
    clear hbd
    go_region_with ((go_at_call 71; refine (rput_f HRd.out HGd.out i HT.out.2.2.2.1 hlen u v).mono ?_; rintro o w6 ⟨b', c', rfl, h6, hb6⟩; have HQ6 := Hid.mk' (HQd.out.call hb6); have hq2 : w6.heap[w.heap.size]? = some (.cells #[.int .i64 e, .int .i64 gd, .slice a.a a.n a.c, .slice (some ⟨q2, p2, none⟩)  bn  bk, .slice (some ⟨r2, p3, none⟩)  cn  ck, .slice x.a x.n x.c, .slice y.a y.n y.c, .slice z.a z.n z.c] 33 (0, 0)) := HQ6.out.g2; obtain ⟨c0, c1, c2, c3, c4, c5, c6, c7⟩ := blk8 hq2; have z0 := fz8 hq2 0; have z1 := fz8 hq2 1; have z2 := fz8 hq2 2; have z3 := fz8 hq2 3; have z4 := fz8 hq2 4; have z5 := fz8 hq2 5; have z6 := fz8 hq2 6; have z7 := fz8 hq2 7; clear hq2))
    all_goals (
      have HR6 := Hid.mk' (h6.nqc HQd.out.sz hb6.size)
      have HQ7 : Hid (Bo w ((((((((w6.setCell ⟨w.heap.size, 0, none⟩ (.int .i64 e)).setCell ⟨w.heap.size, 1, none⟩ (.int .i64 gd)).setCell ⟨w.heap.size, 2, none⟩ (.slice a.a a.n a.c)).setCell ⟨w.heap.size, 3, none⟩ (.slice b'.a b'.n b'.c)).setCell ⟨w.heap.size, 4, none⟩ (.slice c'.a c'.n c'.c)).setCell ⟨w.heap.size, 5, none⟩ (.slice x.a x.n x.c)).setCell ⟨w.heap.size, 6, none⟩ (.slice y.a y.n y.c)).setCell ⟨w.heap.size, 7, none⟩ (.slice z.a z.n z.c)) e gd a b' c' x y z) := HQ6.out.store a b' c' x y z
      have HR7 : Hid (RL6 ((((((((w6.setCell ⟨w.heap.size, 0, none⟩ (.int .i64 e)).setCell ⟨w.heap.size, 1, none⟩ (.int .i64 gd)).setCell ⟨w.heap.size, 2, none⟩ (.slice a.a a.n a.c)).setCell ⟨w.heap.size, 3, none⟩ (.slice b'.a b'.n b'.c)).setCell ⟨w.heap.size, 4, none⟩ (.slice c'.a c'.n c'.c)).setCell ⟨w.heap.size, 5, none⟩ (.slice x.a x.n x.c)).setCell ⟨w.heap.size, 6, none⟩ (.slice y.a y.n y.c)).setCell ⟨w.heap.size, 7, none⟩ (.slice z.a z.n z.c)) (nq A (w.heap.size + 2) ((((((((w6.setCell ⟨w.heap.size, 0, none⟩ (.int .i64 e)).setCell ⟨w.heap.size, 1, none⟩ (.int .i64 gd)).setCell ⟨w.heap.size, 2, none⟩ (.slice a.a a.n a.c)).setCell ⟨w.heap.size, 3, none⟩ (.slice b'.a b'.n b'.c)).setCell ⟨w.heap.size, 4, none⟩ (.slice c'.a c'.n c'.c)).setCell ⟨w.heap.size, 5, none⟩ (.slice x.a x.n x.c)).setCell ⟨w.heap.size, 6, none⟩ (.slice y.a y.n y.c)).setCell ⟨w.heap.size, 7, none⟩ (.slice z.a z.n z.c))) a b' c' x y z ⟨putH s.H i u v, s.L, s.M⟩) := HR6.out.st8 hG
      clear c0 c1 c2 c3 c4 c5 c6 c7 z0 z1 z2 z3 z4 z5 z6 z7 x2 x3 h6
      generalize ((((((((w6.setCell ⟨w.heap.size, 0, none⟩ (.int .i64 e)).setCell ⟨w.heap.size, 1, none⟩ (.int .i64 gd)).setCell ⟨w.heap.size, 2, none⟩ (.slice a.a a.n a.c)).setCell ⟨w.heap.size, 3, none⟩ (.slice b'.a b'.n b'.c)).setCell ⟨w.heap.size, 4, none⟩ (.slice c'.a c'.n c'.c)).setCell ⟨w.heap.size, 5, none⟩ (.slice x.a x.n x.c)).setCell ⟨w.heap.size, 6, none⟩ (.slice y.a y.n y.c)).setCell ⟨w.heap.size, 7, none⟩ (.slice z.a z.n z.c)) = w7 at *
      have hq2 : w7.heap[w.heap.size]? = some (.cells #[.int .i64 e, .int .i64 gd, .slice a.a a.n a.c, .slice b'.a b'.n b'.c, .slice c'.a c'.n c'.c, .slice x.a x.n x.c, .slice y.a y.n y.c, .slice z.a z.n z.c] 33 (0, 0)) := HQ7.out.g2
      obtain ⟨c0, c1, c2, c3, c4, c5, c6, c7⟩ := blk8 hq2
      clear hq2
      go_wp2_with (first
        | (go_at_call 70; refine (rend_x q HR7.out (fun _ hk => nq_lt hG HQ7.out.hb.size hk) hl hm).mono ?_; rintro o w8 ⟨x', y', z', rfl, h8, hb8⟩; have HQ8 := Hid.mk' (HQ7.out.call hb8); have HR8 := Hid.mk' (h8.nqc HQ7.out.sz hb8.size))
        | (go_at_call 74; refine (rbeg_x q d hq HR8.out (fun _ hk => nq_lt hG HQ8.out.hb.size hk) (Nat.le_trans (wo_len _ _) hl) (Nat.le_trans (wo_len _ _) hm)).mono ?_; rintro o w9 ⟨x'', y'', z'', rfl, h9, hb9⟩; have HQ9 := Hid.mk' (HQ8.out.call hb9); have hq4 : w9.heap[w.heap.size + 1]? = some (.cells #[.int .i64 0, .int .i64 0, .slice none 0 0, .slice none 0 0, .slice none 0 0, .slice none 0 0, .slice none 0 0, .slice none 0 0] 33 (0, 0)) := HQ9.out.g4; obtain ⟨d0, d1, d2, d3, d4, d5, d6, d7⟩ := blk8 hq4; have f0 := fz8 hq4 0; have f1 := fz8 hq4 1; have f2 := fz8 hq4 2; have f3 := fz8 hq4 3; have f4 := fz8 hq4 4; have f5 := fz8 hq4 5; have f6 := fz8 hq4 6; have f7 := fz8 hq4 7; clear hq4))
      have HR9 := Hid.mk' (h9.nqc HQ8.out.sz hb9.size)
      obtain ⟨g8, g9, hb8⟩ := HQ9.out.res hG HR9.out
      try dsimp only at g8 g9 hb8
      clear d0 d1 d2 d3 d4 d5 d6 d7 f0 f1 f2 f3 f4 f5 f6 f7
      generalize ((((((((w9.setCell _ _).setCell _ _).setCell _ _).setCell _ _).setCell _ _).setCell _ _).setCell _ _).setCell _ _) = w8 at *
      obtain ⟨d0, d1, d2, d3, d4, d5, d6, d7⟩ := blk8 g8
      refine bodyPost_ret (v := .tuple #[.agg #[.int .i64 e, .int .i64 gd, .slice a.a a.n a.c, .slice b'.a b'.n b'.c, .slice c'.a c'.n c'.c, .slice x''.a x''.n x''.c, .slice y''.a y''.n y''.c, .slice z''.a z''.n z''.c], .int .i64 0]) (by simp [results, Tryd.results42, go_sem, d0, d1, d2, d3, d4, d5, d6, d7]) rfl ?_
      rw [HE.out.1, HE.out.2]
      exact ⟨_, rfl, a, b', c', x'', y'', z'', rfl, g9, hb8⟩)
theorem rforce_f {w : World} {A : Nat → Prop} {e gd : Int} {a b c x y z : Sl} {s : Fl} (q : ByteArray) (d : Int) (h : RL6 w A a b c x y z s) (hG : ∀ k, A k → k < w.heap.size) (hq : q.size ≤ maxLen) (hlen : s.H.length ≤ 4000) (hl : s.L.length ≤ 3500) (hm : s.M.length ≤ 3500) :
    Calls Tryd.prog 42 #[.agg #[.int .i64 e, .int .i64 gd, .slice a.a a.n a.c, .slice b.a b.n b.c, .slice c.a c.n c.c, .slice x.a x.n x.c, .slice y.a y.n y.c, .slice z.a z.n z.c], .string q, .int .i64 d] w fun o w' => ∃ v, o = .returned (.tuple #[v, .int .i64 (foE q s)]) ∧ RP w w' A e gd (foS q d s) v := by
  by_cases hE : errF q s.H = 0
  · exact rforce_o q d h hG hq hE hlen hl hm
  · have e1 : foE q s = errF q s.H := by unfold foE; exact if_neg hE
    have e2 : foS q d s = s := by unfold foS; rw [e1]; exact if_neg hE
    rw [e1, e2]
    exact rforce_e q d h hG hq hE
end Go.Proofs.YtmlkpfkeeifgeaaDoor
namespace Go.Proofs.YtmlkpfkeeifgeaaDoor
open Go.ChangeShapes Go.WideShapes Go.ChangeAt Go.RowKit Go.Joins Go.Deep

set_option maxHeartbeats 4000000 in
set_option maxRecDepth 100000 in
theorem reject_e {w : World} {A : Nat → Prop} {e gd : Int} {a b c x y z : Sl} {s : Fl} (q : ByteArray) (h : RL6 w A a b c x y z s) (hG : ∀ k, A k → k < w.heap.size) (hq : q.size ≤ maxLen) (hE : ¬ errF q s.H = 0) :
    Calls Tryd.prog 43 #[.agg #[.int .i64 e, .int .i64 gd, .slice a.a a.n a.c, .slice b.a b.n b.c, .slice c.a c.n c.c, .slice x.a x.n x.c, .slice y.a y.n y.c, .slice z.a z.n z.c], .string q] w fun o w' => ∃ v, o = .returned (.tuple #[v, .int .i64 (errF q s.H)]) ∧ RP w w' A e gd s v := by
  have hE' : (errF q s.H != 0) = true := by simp [hE]
  obtain ⟨w1, hw1⟩ : ∃ w1, w1 = (w.alloc (.cells #[.int .i64 e, .int .i64 gd, .slice a.a a.n a.c, .slice b.a b.n b.c, .slice c.a c.n c.c, .slice x.a x.n x.c, .slice y.a y.n y.c, .slice z.a z.n z.c] 33)).alloc (.cells #[.int .i64 0, .int .i64 0, .slice none 0 0, .slice none 0 0, .slice none 0 0, .slice none 0 0, .slice none 0 0, .slice none 0 0] 33) := ⟨_, rfl⟩
  have HQ : Hid (Bo w w1 e gd a b c x y z) := by rw [hw1]; exact Bo.start w e gd a b c x y z
  have HR : Hid (RL6 w1 (nq A (w.heap.size + 2) w1) a b c x y z s) := h.nq1 HQ.out.hb
  have hsz := HQ.out.sz
  have HK := Hid.mk' (rknown_x e gd HR.out q hq)
  generalize errF q s.H = E at *
  have hq2 : w1.heap[w.heap.size]? = some (.cells #[.int .i64 e, .int .i64 gd, .slice a.a a.n a.c, .slice b.a b.n b.c, .slice c.a c.n c.c, .slice x.a x.n x.c, .slice y.a y.n y.c, .slice z.a z.n z.c] 33 (0, 0)) := HQ.out.g2
  obtain ⟨c0, c1, c2, c3, c4, c5, c6, c7⟩ := blk8 hq2
  clear hq2
  clear h
  go_enter Tryd.func43, Tryd.ntmps43
  go_upto_region 1 with fail
  rw [← hw1]
  clear hw1
  go_upto_region 2 with (go_at_call 72; refine HK.out.mono ?_; rintro o w3 ⟨rfl, hb3⟩)
  have HQ3 : Hid (Bo w w3 e gd a b c x y z) := HQ.out.call hb3
  have HR3 := Hid.mk' (HR.out.nqb hb3)
  clear c0 c1 c2 c3 c4 c5 c6 c7
  have hq2 : w3.heap[w.heap.size]? = some (.cells #[.int .i64 e, .int .i64 gd, .slice a.a a.n a.c, .slice b.a b.n b.c, .slice c.a c.n c.c, .slice x.a x.n x.c, .slice y.a y.n y.c, .slice z.a z.n z.c] 33 (0, 0)) := HQ3.out.g2
  obtain ⟨c0, c1, c2, c3, c4, c5, c6, c7⟩ := blk8 hq2
  clear hq2
  have hq4 : w3.heap[w.heap.size + 1]? = some (.cells #[.int .i64 0, .int .i64 0, .slice none 0 0, .slice none 0 0, .slice none 0 0, .slice none 0 0, .slice none 0 0, .slice none 0 0] 33 (0, 0)) := HQ3.out.g4
  obtain ⟨d0, d1, d2, d3, d4, d5, d6, d7⟩ := blk8 hq4
  have f0 := fz8 hq4 0
  have f1 := fz8 hq4 1
  have f2 := fz8 hq4 2
  have f3 := fz8 hq4 3
  have f4 := fz8 hq4 4
  have f5 := fz8 hq4 5
  have f6 := fz8 hq4 6
  have f7 := fz8 hq4 7
  clear hq4
  go_wp2
  obtain ⟨g8, h8, hb8⟩ := HQ3.out.res hG HR3.out
  try dsimp only at g8 h8 hb8
  clear d0 d1 d2 d3 d4 d5 d6 d7 f0 f1 f2 f3 f4 f5 f6 f7
  generalize ((((((((w3.setCell _ _).setCell _ _).setCell _ _).setCell _ _).setCell _ _).setCell _ _).setCell _ _).setCell _ _) = w8 at *
  obtain ⟨d0, d1, d2, d3, d4, d5, d6, d7⟩ := blk8 g8
  refine bodyPost_ret (v := .tuple #[.agg #[.int .i64 e, .int .i64 gd, .slice a.a a.n a.c, .slice b.a b.n b.c, .slice c.a c.n c.c, .slice x.a x.n x.c, .slice y.a y.n y.c, .slice z.a z.n z.c], .int .i64 E]) (by simp [results, Tryd.results43, go_sem, d0, d1, d2, d3, d4, d5, d6, d7]) rfl ?_
  exact ⟨_, rfl, a, b, c, x, y, z, rfl, h8, hb8⟩
theorem ej_1 {q : ByteArray} {e gd : Int} {s : Fl} (hE : errF q s.H = 0) (hv : ¬ (ofN q s.H).st = 0) : ejE q e gd s = 8 ∧ ejS q e gd s = s := by
  have e1 : ejE q e gd s = 8 := by unfold ejE; rw [if_pos hE, if_neg hv]
  exact ⟨e1, by unfold ejS; rw [e1]; rfl⟩
theorem ej_2 {q : ByteArray} {e gd : Int} {s : Fl} (hE : errF q s.H = 0) (hv : (ofN q s.H).st = 0) (hm : mayF q s.H e gd = false) : ejE q e gd s = 9 ∧ ejS q e gd s = s := by
  have e1 : ejE q e gd s = 9 := by unfold ejE; rw [if_pos hE, if_pos hv, hm]; rfl
  exact ⟨e1, by unfold ejS; rw [e1]; rfl⟩
theorem ej_3 {q : ByteArray} {e gd : Int} {s : Fl} (hE : errF q s.H = 0) (hv : (ofN q s.H).st = 0) (hm : mayF q s.H e gd = true) : ejE q e gd s = 0 ∧ ejS q e gd s = ⟨putH s.H (plN q s.H) 2 (ofN q s.H).lv, s.L, s.M⟩ := by
  have e1 : ejE q e gd s = 0 := by unfold ejE; rw [if_pos hE, if_pos hv, hm]; rfl
  refine ⟨e1, ?_⟩
  unfold ejS
  rw [e1, if_pos rfl]
  have e2 : (atH s.H (plN q s.H)).st = 0 := hv
  unfold tnH
  rw [e2]
  rfl
theorem pr_1 {q : ByteArray} {s : Fl} (hW : W s) (hv : ¬ (ofN q s.H).st = 2) : prB q s = false ∧ prS q s = s := by
  have e1 : prB q s = false := by
    cases h1 : isH q s.H with
    | false => unfold prB; rw [h1]; rfl
    | true =>
      cases h2 : St.did (ofN q s.H).st 3 with
      | false => unfold prB; rw [h2]; simp
      | true => exact absurd (did3_cases (hW.st (pl_yes h1).2) h2).1 hv
  exact ⟨e1, by unfold prS; rw [e1]; rfl⟩
theorem pr_0 {q : ByteArray} {s : Fl} (h1 : isH q s.H = false) : prB q s = false ∧ prS q s = s := by
  have e1 : prB q s = false := by unfold prB; rw [h1]; rfl
  exact ⟨e1, by unfold prS; rw [e1]; rfl⟩
theorem pr_2 {q : ByteArray} {s : Fl} (h1 : isH q s.H = true) (hv : (ofN q s.H).st = 2) : prB q s = true ∧ prS q s = ⟨putH s.H (plN q s.H) 0 (ofN q s.H).lv, s.L, s.M⟩ := by
  have e1 : prB q s = true := by unfold prB; rw [h1, hv]; rfl
  refine ⟨e1, ?_⟩
  unfold prS
  rw [e1, if_pos rfl]
  have e2 : (atH s.H (plN q s.H)).st = 2 := hv
  unfold tnH
  rw [e2]
  rfl
set_option maxHeartbeats 4000000 in
set_option maxRecDepth 100000 in
theorem reject_o {w : World} {A : Nat → Prop} {e gd : Int} {a b c x y z : Sl} {s : Fl} (q : ByteArray) (h : RL6 w A a b c x y z s) (hG : ∀ k, A k → k < w.heap.size) (hq : q.size ≤ maxLen) (hE : errF q s.H = 0) (hlen : s.H.length ≤ 4000) (he : e ≤ 1000) :
    Calls Tryd.prog 43 #[.agg #[.int .i64 e, .int .i64 gd, .slice a.a a.n a.c, .slice b.a b.n b.c, .slice c.a c.n c.c, .slice x.a x.n x.c, .slice y.a y.n y.c, .slice z.a z.n z.c], .string q] w fun o w' => ∃ v, o = .returned (.tuple #[v, .int .i64 (ejE q e gd s)]) ∧ RP w w' A e gd (ejS q e gd s) v := by
  have hok := errF_ok hE
  have hpl := pl_yes hok.2
  obtain ⟨i, hi0⟩ : ∃ i, i = plN q s.H := ⟨_, rfl⟩
  rw [← hi0] at hpl
  have hi := hpl.2
  obtain ⟨ba, bn, bk⟩ := b
  obtain ⟨ca, cn, ck⟩ := c
  obtain ⟨-, q2, p2, e2, -⟩ := h.sti hi
  obtain ⟨-, r2, p3, e3, -⟩ := h.lvi hi
  obtain rfl : ba = some ⟨q2, p2, none⟩ := e2
  obtain rfl : ca = some ⟨r2, p3, none⟩ := e3
  dsimp only
  obtain ⟨t, ht⟩ : ∃ t, t = (atH s.H i).st := ⟨_, rfl⟩
  obtain ⟨v, hv⟩ : ∃ v, v = (atH s.H i).lv := ⟨_, rfl⟩
  have HT : Hid (t = (atH s.H i).st ∧ v = (atH s.H i).lv ∧ i = plN q s.H ∧ i < s.H.length ∧ errF q s.H = 0) := ⟨ht, hv, hi0, hi, hE⟩
  clear ht hv
  obtain ⟨w1, hw1⟩ : ∃ w1, w1 = (w.alloc (.cells #[.int .i64 e, .int .i64 gd, .slice a.a a.n a.c, .slice (some ⟨q2, p2, none⟩)  bn  bk, .slice (some ⟨r2, p3, none⟩)  cn  ck, .slice x.a x.n x.c, .slice y.a y.n y.c, .slice z.a z.n z.c] 33)).alloc (.cells #[.int .i64 0, .int .i64 0, .slice none 0 0, .slice none 0 0, .slice none 0 0, .slice none 0 0, .slice none 0 0, .slice none 0 0] 33) := ⟨_, rfl⟩
  have HQ : Hid (Bo w w1 e gd a ⟨some ⟨q2, p2, none⟩, bn, bk⟩ ⟨some ⟨r2, p3, none⟩, cn, ck⟩ x y z) := by rw [hw1]; exact Bo.start w e gd a ⟨some ⟨q2, p2, none⟩, bn, bk⟩ ⟨some ⟨r2, p3, none⟩, cn, ck⟩ x y z
  have HR : Hid (RL6 w1 (nq A (w.heap.size + 2) w1) a ⟨some ⟨q2, p2, none⟩, bn, bk⟩ ⟨some ⟨r2, p3, none⟩, cn, ck⟩ x y z s) := h.nq1 HQ.out.hb
  have hsz := HQ.out.sz
  have HK := Hid.mk' (rknown_x e gd HR.out q hq)
  rw [hE] at HK
  have hq2 : w1.heap[w.heap.size]? = some (.cells #[.int .i64 e, .int .i64 gd, .slice a.a a.n a.c, .slice (some ⟨q2, p2, none⟩)  bn  bk, .slice (some ⟨r2, p3, none⟩)  cn  ck, .slice x.a x.n x.c, .slice y.a y.n y.c, .slice z.a z.n z.c] 33 (0, 0)) := HQ.out.g2
  obtain ⟨c0, c1, c2, c3, c4, c5, c6, c7⟩ := blk8 hq2
  clear hq2
  clear h
  go_enter Tryd.func43, Tryd.ntmps43
  go_upto_region 1 with fail
  rw [← hw1]
  clear hw1
  go_upto_region 4 with (go_at_call 72; refine HK.out.mono ?_; rintro o w3 ⟨rfl, hb3⟩)
  have HQ3 : Hid (Bo w w3 e gd a ⟨some ⟨q2, p2, none⟩, bn, bk⟩ ⟨some ⟨r2, p3, none⟩, cn, ck⟩ x y z) := HQ.out.call hb3
  have HR3 := Hid.mk' (HR.out.nqb hb3)
  clear c0 c1 c2 c3 c4 c5 c6 c7
  have hq2 : w3.heap[w.heap.size]? = some (.cells #[.int .i64 e, .int .i64 gd, .slice a.a a.n a.c, .slice (some ⟨q2, p2, none⟩)  bn  bk, .slice (some ⟨r2, p3, none⟩)  cn  ck, .slice x.a x.n x.c, .slice y.a y.n y.c, .slice z.a z.n z.c] 33 (0, 0)) := HQ3.out.g2
  obtain ⟨c0, c1, c2, c3, c4, c5, c6, c7⟩ := blk8 hq2
  clear hq2
  have HAT := Hid.mk' (rat_x e gd HR3.out q)
  rw [hpl.1] at HAT
  clear hpl hok hE hi0
  go_upto_region 5 with (go_at_call 50; refine HAT.out.mono ?_; rintro o w4 ⟨rfl, hb4⟩)
  have HQ4 : Hid (Bo w w4 e gd a ⟨some ⟨q2, p2, none⟩, bn, bk⟩ ⟨some ⟨r2, p3, none⟩, cn, ck⟩ x y z) := HQ3.out.call hb4
  have HR4 := Hid.mk' (HR3.out.nqb hb4)
  clear c0 c1 c2 c3 c4 c5 c6 c7
  have hq2 : w4.heap[w.heap.size]? = some (.cells #[.int .i64 e, .int .i64 gd, .slice a.a a.n a.c, .slice (some ⟨q2, p2, none⟩)  bn  bk, .slice (some ⟨r2, p3, none⟩)  cn  ck, .slice x.a x.n x.c, .slice y.a y.n y.c, .slice z.a z.n z.c] 33 (0, 0)) := HQ4.out.g2
  obtain ⟨c0, c1, c2, c3, c4, c5, c6, c7⟩ := blk8 hq2
  clear hq2
  obtain ⟨x2, hin2, hib2⟩ := HR4.out.stk HT.out.2.2.2.1
  obtain ⟨x3, hin3, hib3⟩ := HR4.out.lvk HT.out.2.2.2.1
  rw [← HT.out.1] at x2
  rw [← HT.out.2.1] at x3
  have hlv : (ofN q s.H).lv = v := by show (atH s.H (plN q s.H)).lv = v; rw [← HT.out.2.2.1]; exact HT.out.2.1.symm
  have hst : (ofN q s.H).st = t := by show (atH s.H (plN q s.H)).st = t; rw [← HT.out.2.2.1]; exact HT.out.1.symm
  have HLS : Hid ((ofN q s.H).lv = v ∧ (ofN q s.H).st = t) := ⟨hlv, hst⟩
  clear hlv hst
  by_cases h3 : t = 0
  · subst h3
    have HM := Hid.mk' (rmay_x (gd := gd) HR4.out he hlen q)
    cases hm : mayF q s.H e gd with
    | false =>
      have HE := Hid.mk' (ej_2 HT.out.2.2.2.2 HLS.out.2 hm)
      rw [hm] at HM
      clear hm
      go_upto_region 8 with (go_at_call 75; refine HM.out.mono ?_; rintro o w5 ⟨rfl, hb5⟩)
      have HQ5 : Hid (Bo w w5 e gd a ⟨some ⟨q2, p2, none⟩, bn, bk⟩ ⟨some ⟨r2, p3, none⟩, cn, ck⟩ x y z) := HQ4.out.call hb5
      have HR5 := Hid.mk' (HR4.out.nqb hb5)
      clear c0 c1 c2 c3 c4 c5 c6 c7
      have hq2 : w5.heap[w.heap.size]? = some (.cells #[.int .i64 e, .int .i64 gd, .slice a.a a.n a.c, .slice (some ⟨q2, p2, none⟩)  bn  bk, .slice (some ⟨r2, p3, none⟩)  cn  ck, .slice x.a x.n x.c, .slice y.a y.n y.c, .slice z.a z.n z.c] 33 (0, 0)) := HQ5.out.g2
      obtain ⟨c0, c1, c2, c3, c4, c5, c6, c7⟩ := blk8 hq2
      clear hq2
      have hq4 : w5.heap[w.heap.size + 1]? = some (.cells #[.int .i64 0, .int .i64 0, .slice none 0 0, .slice none 0 0, .slice none 0 0, .slice none 0 0, .slice none 0 0, .slice none 0 0] 33 (0, 0)) := HQ5.out.g4
      obtain ⟨d0, d1, d2, d3, d4, d5, d6, d7⟩ := blk8 hq4
      have f0 := fz8 hq4 0
      have f1 := fz8 hq4 1
      have f2 := fz8 hq4 2
      have f3 := fz8 hq4 3
      have f4 := fz8 hq4 4
      have f5 := fz8 hq4 5
      have f6 := fz8 hq4 6
      have f7 := fz8 hq4 7
      clear hq4
      go_wp2
      obtain ⟨g8, h8, hb8⟩ := HQ5.out.res hG HR5.out
      try dsimp only at g8 h8 hb8
      clear d0 d1 d2 d3 d4 d5 d6 d7 f0 f1 f2 f3 f4 f5 f6 f7
      generalize ((((((((w5.setCell _ _).setCell _ _).setCell _ _).setCell _ _).setCell _ _).setCell _ _).setCell _ _).setCell _ _) = w8 at *
      obtain ⟨d0, d1, d2, d3, d4, d5, d6, d7⟩ := blk8 g8
      refine bodyPost_ret (v := .tuple #[.agg #[.int .i64 e, .int .i64 gd, .slice a.a a.n a.c, .slice (some ⟨q2, p2, none⟩)  bn  bk, .slice (some ⟨r2, p3, none⟩)  cn  ck, .slice x.a x.n x.c, .slice y.a y.n y.c, .slice z.a z.n z.c], .int .i64 9]) (by simp [results, Tryd.results43, go_sem, d0, d1, d2, d3, d4, d5, d6, d7]) rfl ?_
      rw [HE.out.1, HE.out.2]
      exact ⟨_, rfl, a, ⟨some ⟨q2, p2, none⟩, bn, bk⟩, ⟨some ⟨r2, p3, none⟩, cn, ck⟩, x, y, z, rfl, h8, hb8⟩
    | true =>
      have HE := Hid.mk' (ej_3 HT.out.2.2.2.2 HLS.out.2 hm)
      rw [HLS.out.1, ← HT.out.2.2.1] at HE
      rw [hm] at HM
      clear hm
      go_upto_region 10 with (go_at_call 75; refine HM.out.mono ?_; rintro o w5 ⟨rfl, hb5⟩)
      have HQ5 : Hid (Bo w w5 e gd a ⟨some ⟨q2, p2, none⟩, bn, bk⟩ ⟨some ⟨r2, p3, none⟩, cn, ck⟩ x y z) := HQ4.out.call hb5
      have HR5 := Hid.mk' (HR4.out.nqb hb5)
      clear c0 c1 c2 c3 c4 c5 c6 c7
      have hq2 : w5.heap[w.heap.size]? = some (.cells #[.int .i64 e, .int .i64 gd, .slice a.a a.n a.c, .slice (some ⟨q2, p2, none⟩)  bn  bk, .slice (some ⟨r2, p3, none⟩)  cn  ck, .slice x.a x.n x.c, .slice y.a y.n y.c, .slice z.a z.n z.c] 33 (0, 0)) := HQ5.out.g2
      obtain ⟨c0, c1, c2, c3, c4, c5, c6, c7⟩ := blk8 hq2
      clear hq2
      clear x2 x3 hin2 hib2 hin3 hib3
      obtain ⟨x2, hin2, hib2⟩ := HR5.out.stk HT.out.2.2.2.1
      obtain ⟨x3, hin3, hib3⟩ := HR5.out.lvk HT.out.2.2.2.1
      rw [← HT.out.1] at x2
      rw [← HT.out.2.1] at x3
      have hbd : Below w5.heap.size w5 w5.drew := below_drewN (Below.refl _ w5) 1
      have HQd := Hid.mk' (HQ5.out.call hbd)
      have HRd := Hid.mk' (HR5.out.nqb hbd)
      have HGd : Hid (∀ k, nq A (w.heap.size + 2) w5.drew k → k < w5.drew.heap.size) := fun _ hk => nq_lt hG HQd.out.hb.size hk
      clear hbd
      go_region_with ((go_at_call 71; refine (rput_f HRd.out HGd.out i HT.out.2.2.2.1 hlen 2 v).mono ?_; rintro o w6 ⟨b', c', rfl, h6, hb6⟩; have HQ6 := Hid.mk' (HQd.out.call hb6); have hq4 : w6.heap[w.heap.size + 1]? = some (.cells #[.int .i64 0, .int .i64 0, .slice none 0 0, .slice none 0 0, .slice none 0 0, .slice none 0 0, .slice none 0 0, .slice none 0 0] 33 (0, 0)) := HQ6.out.g4; obtain ⟨d0, d1, d2, d3, d4, d5, d6, d7⟩ := blk8 hq4; have f0 := fz8 hq4 0; have f1 := fz8 hq4 1; have f2 := fz8 hq4 2; have f3 := fz8 hq4 3; have f4 := fz8 hq4 4; have f5 := fz8 hq4 5; have f6 := fz8 hq4 6; have f7 := fz8 hq4 7; clear hq4))
      all_goals (
        have HR6 := Hid.mk' (h6.nqc HQd.out.sz hb6.size)
        go_wp2
        obtain ⟨g8, h8, hb8⟩ := HQ6.out.res hG HR6.out
        try dsimp only at g8 h8 hb8
        clear d0 d1 d2 d3 d4 d5 d6 d7 f0 f1 f2 f3 f4 f5 f6 f7 x2 x3 h6
        generalize ((((((((w6.setCell _ _).setCell _ _).setCell _ _).setCell _ _).setCell _ _).setCell _ _).setCell _ _).setCell _ _) = w8 at *
        obtain ⟨d0, d1, d2, d3, d4, d5, d6, d7⟩ := blk8 g8
        refine bodyPost_ret (v := .tuple #[.agg #[.int .i64 e, .int .i64 gd, .slice a.a a.n a.c, .slice b'.a b'.n b'.c, .slice c'.a c'.n c'.c, .slice x.a x.n x.c, .slice y.a y.n y.c, .slice z.a z.n z.c], .int .i64 0]) (by simp [results, Tryd.results43, go_sem, d0, d1, d2, d3, d4, d5, d6, d7]) rfl ?_
        rw [HE.out.1, HE.out.2]
        exact ⟨_, rfl, a, b', c', x, y, z, rfl, h8, hb8⟩)
  · have HE := Hid.mk' (ej_1 (e := e) (gd := gd) HT.out.2.2.2.2 (by rw [HLS.out.2]; exact h3))
    have k3 : (t != 0) = true := by simp [h3]
    clear h3
    have hq4 : w4.heap[w.heap.size + 1]? = some (.cells #[.int .i64 0, .int .i64 0, .slice none 0 0, .slice none 0 0, .slice none 0 0, .slice none 0 0, .slice none 0 0, .slice none 0 0] 33 (0, 0)) := HQ4.out.g4
    obtain ⟨d0, d1, d2, d3, d4, d5, d6, d7⟩ := blk8 hq4
    have f0 := fz8 hq4 0
    have f1 := fz8 hq4 1
    have f2 := fz8 hq4 2
    have f3 := fz8 hq4 3
    have f4 := fz8 hq4 4
    have f5 := fz8 hq4 5
    have f6 := fz8 hq4 6
    have f7 := fz8 hq4 7
    clear hq4
    go_wp2
    obtain ⟨g8, h8, hb8⟩ := HQ4.out.res hG HR4.out
    try dsimp only at g8 h8 hb8
    clear d0 d1 d2 d3 d4 d5 d6 d7 f0 f1 f2 f3 f4 f5 f6 f7
    generalize ((((((((w4.setCell _ _).setCell _ _).setCell _ _).setCell _ _).setCell _ _).setCell _ _).setCell _ _).setCell _ _) = w8 at *
    obtain ⟨d0, d1, d2, d3, d4, d5, d6, d7⟩ := blk8 g8
    refine bodyPost_ret (v := .tuple #[.agg #[.int .i64 e, .int .i64 gd, .slice a.a a.n a.c, .slice (some ⟨q2, p2, none⟩)  bn  bk, .slice (some ⟨r2, p3, none⟩)  cn  ck, .slice x.a x.n x.c, .slice y.a y.n y.c, .slice z.a z.n z.c], .int .i64 8]) (by simp [results, Tryd.results43, go_sem, d0, d1, d2, d3, d4, d5, d6, d7]) rfl ?_
    rw [HE.out.1, HE.out.2]
    exact ⟨_, rfl, a, ⟨some ⟨q2, p2, none⟩, bn, bk⟩, ⟨some ⟨r2, p3, none⟩, cn, ck⟩, x, y, z, rfl, h8, hb8⟩
theorem reject_f {w : World} {A : Nat → Prop} {e gd : Int} {a b c x y z : Sl} {s : Fl} (q : ByteArray) (h : RL6 w A a b c x y z s) (hG : ∀ k, A k → k < w.heap.size) (hq : q.size ≤ maxLen) (hlen : s.H.length ≤ 4000) (he : e ≤ 1000) :
    Calls Tryd.prog 43 #[.agg #[.int .i64 e, .int .i64 gd, .slice a.a a.n a.c, .slice b.a b.n b.c, .slice c.a c.n c.c, .slice x.a x.n x.c, .slice y.a y.n y.c, .slice z.a z.n z.c], .string q] w fun o w' => ∃ v, o = .returned (.tuple #[v, .int .i64 (ejE q e gd s)]) ∧ RP w w' A e gd (ejS q e gd s) v := by
  by_cases hE : errF q s.H = 0
  · exact reject_o q h hG hq hE hlen he
  · have e1 : ejE q e gd s = errF q s.H := by unfold ejE; exact if_neg hE
    have e2 : ejS q e gd s = s := by unfold ejS; rw [e1]; exact if_neg hE
    rw [e1, e2]
    exact reject_e q h hG hq hE
set_option maxHeartbeats 4000000 in
set_option maxRecDepth 100000 in
theorem rprobe_n {w : World} {A : Nat → Prop} {e gd : Int} {a b c x y z : Sl} {s : Fl} (q : ByteArray) (h : RL6 w A a b c x y z s) (hG : ∀ k, A k → k < w.heap.size) (hisH : isH q s.H = false) :
    Calls Tryd.prog 45 #[.agg #[.int .i64 e, .int .i64 gd, .slice a.a a.n a.c, .slice b.a b.n b.c, .slice c.a c.n c.c, .slice x.a x.n x.c, .slice y.a y.n y.c, .slice z.a z.n z.c], .string q] w fun o w' => ∃ v, o = .returned (.tuple #[v, .bool (prB q s)]) ∧ RP w w' A e gd (prS q s) v := by
  obtain ⟨w1, hw1⟩ : ∃ w1, w1 = (w.alloc (.cells #[.int .i64 e, .int .i64 gd, .slice a.a a.n a.c, .slice b.a b.n b.c, .slice c.a c.n c.c, .slice x.a x.n x.c, .slice y.a y.n y.c, .slice z.a z.n z.c] 33)).alloc (.cells #[.int .i64 0, .int .i64 0, .slice none 0 0, .slice none 0 0, .slice none 0 0, .slice none 0 0, .slice none 0 0, .slice none 0 0] 33) := ⟨_, rfl⟩
  have HQ : Hid (Bo w w1 e gd a b c x y z) := by rw [hw1]; exact Bo.start w e gd a b c x y z
  have HR : Hid (RL6 w1 (nq A (w.heap.size + 2) w1) a b c x y z s) := h.nq1 HQ.out.hb
  have hsz := HQ.out.sz
  have HAT := Hid.mk' (rat_x e gd HR.out q)
  rw [pl_no hisH] at HAT
  have hq2 : w1.heap[w.heap.size]? = some (.cells #[.int .i64 e, .int .i64 gd, .slice a.a a.n a.c, .slice b.a b.n b.c, .slice c.a c.n c.c, .slice x.a x.n x.c, .slice y.a y.n y.c, .slice z.a z.n z.c] 33 (0, 0)) := HQ.out.g2
  obtain ⟨c0, c1, c2, c3, c4, c5, c6, c7⟩ := blk8 hq2
  clear hq2
  clear h
  go_enter Tryd.func45, Tryd.ntmps45
  go_upto_region 1 with fail
  rw [← hw1]
  clear hw1
  go_upto_region 2 with (go_at_call 50; refine HAT.out.mono ?_; rintro o w4 ⟨rfl, hb4⟩)
  have HQ4 : Hid (Bo w w4 e gd a b c x y z) := HQ.out.call hb4
  have HR4 := Hid.mk' (HR.out.nqb hb4)
  clear c0 c1 c2 c3 c4 c5 c6 c7
  have hq2 : w4.heap[w.heap.size]? = some (.cells #[.int .i64 e, .int .i64 gd, .slice a.a a.n a.c, .slice b.a b.n b.c, .slice c.a c.n c.c, .slice x.a x.n x.c, .slice y.a y.n y.c, .slice z.a z.n z.c] 33 (0, 0)) := HQ4.out.g2
  obtain ⟨c0, c1, c2, c3, c4, c5, c6, c7⟩ := blk8 hq2
  clear hq2
  have HE := Hid.mk' (pr_0 hisH)
  have hq4 : w4.heap[w.heap.size + 1]? = some (.cells #[.int .i64 0, .int .i64 0, .slice none 0 0, .slice none 0 0, .slice none 0 0, .slice none 0 0, .slice none 0 0, .slice none 0 0] 33 (0, 0)) := HQ4.out.g4
  obtain ⟨d0, d1, d2, d3, d4, d5, d6, d7⟩ := blk8 hq4
  have f0 := fz8 hq4 0
  have f1 := fz8 hq4 1
  have f2 := fz8 hq4 2
  have f3 := fz8 hq4 3
  have f4 := fz8 hq4 4
  have f5 := fz8 hq4 5
  have f6 := fz8 hq4 6
  have f7 := fz8 hq4 7
  clear hq4
  go_wp2
  obtain ⟨g8, h8, hb8⟩ := HQ4.out.res hG HR4.out
  try dsimp only at g8 h8 hb8
  clear d0 d1 d2 d3 d4 d5 d6 d7 f0 f1 f2 f3 f4 f5 f6 f7
  generalize ((((((((w4.setCell _ _).setCell _ _).setCell _ _).setCell _ _).setCell _ _).setCell _ _).setCell _ _).setCell _ _) = w8 at *
  obtain ⟨d0, d1, d2, d3, d4, d5, d6, d7⟩ := blk8 g8
  refine bodyPost_ret (v := .tuple #[.agg #[.int .i64 e, .int .i64 gd, .slice a.a a.n a.c, .slice b.a b.n b.c, .slice c.a c.n c.c, .slice x.a x.n x.c, .slice y.a y.n y.c, .slice z.a z.n z.c], .bool false]) (by simp [results, Tryd.results45, go_sem, d0, d1, d2, d3, d4, d5, d6, d7]) rfl ?_
  rw [HE.out.1, HE.out.2]
  exact ⟨_, rfl, a, b, c, x, y, z, rfl, h8, hb8⟩
set_option maxHeartbeats 4000000 in
set_option maxRecDepth 100000 in
theorem rprobe_y {w : World} {A : Nat → Prop} {e gd : Int} {a b c x y z : Sl} {s : Fl} (q : ByteArray) (h : RL6 w A a b c x y z s) (hG : ∀ k, A k → k < w.heap.size) (hisH : isH q s.H = true) (hW : W s) (hlen : s.H.length ≤ 4000) :
    Calls Tryd.prog 45 #[.agg #[.int .i64 e, .int .i64 gd, .slice a.a a.n a.c, .slice b.a b.n b.c, .slice c.a c.n c.c, .slice x.a x.n x.c, .slice y.a y.n y.c, .slice z.a z.n z.c], .string q] w fun o w' => ∃ v, o = .returned (.tuple #[v, .bool (prB q s)]) ∧ RP w w' A e gd (prS q s) v := by
  have hpl := pl_yes hisH
  obtain ⟨i, hi0⟩ : ∃ i, i = plN q s.H := ⟨_, rfl⟩
  rw [← hi0] at hpl
  have hi := hpl.2
  obtain ⟨ba, bn, bk⟩ := b
  obtain ⟨ca, cn, ck⟩ := c
  obtain ⟨-, q2, p2, e2, -⟩ := h.sti hi
  obtain ⟨-, r2, p3, e3, -⟩ := h.lvi hi
  obtain rfl : ba = some ⟨q2, p2, none⟩ := e2
  obtain rfl : ca = some ⟨r2, p3, none⟩ := e3
  dsimp only
  obtain ⟨t, ht⟩ : ∃ t, t = (atH s.H i).st := ⟨_, rfl⟩
  obtain ⟨v, hv⟩ : ∃ v, v = (atH s.H i).lv := ⟨_, rfl⟩
  have HT : Hid (t = (atH s.H i).st ∧ v = (atH s.H i).lv ∧ i = plN q s.H ∧ i < s.H.length ∧ isH q s.H = true) := ⟨ht, hv, hi0, hi, hisH⟩
  clear ht hv
  obtain ⟨w1, hw1⟩ : ∃ w1, w1 = (w.alloc (.cells #[.int .i64 e, .int .i64 gd, .slice a.a a.n a.c, .slice (some ⟨q2, p2, none⟩)  bn  bk, .slice (some ⟨r2, p3, none⟩)  cn  ck, .slice x.a x.n x.c, .slice y.a y.n y.c, .slice z.a z.n z.c] 33)).alloc (.cells #[.int .i64 0, .int .i64 0, .slice none 0 0, .slice none 0 0, .slice none 0 0, .slice none 0 0, .slice none 0 0, .slice none 0 0] 33) := ⟨_, rfl⟩
  have HQ : Hid (Bo w w1 e gd a ⟨some ⟨q2, p2, none⟩, bn, bk⟩ ⟨some ⟨r2, p3, none⟩, cn, ck⟩ x y z) := by rw [hw1]; exact Bo.start w e gd a ⟨some ⟨q2, p2, none⟩, bn, bk⟩ ⟨some ⟨r2, p3, none⟩, cn, ck⟩ x y z
  have HR : Hid (RL6 w1 (nq A (w.heap.size + 2) w1) a ⟨some ⟨q2, p2, none⟩, bn, bk⟩ ⟨some ⟨r2, p3, none⟩, cn, ck⟩ x y z s) := h.nq1 HQ.out.hb
  have hsz := HQ.out.sz
  have HAT := Hid.mk' (rat_x e gd HR.out q)
  rw [hpl.1] at HAT
  have hq2 : w1.heap[w.heap.size]? = some (.cells #[.int .i64 e, .int .i64 gd, .slice a.a a.n a.c, .slice (some ⟨q2, p2, none⟩)  bn  bk, .slice (some ⟨r2, p3, none⟩)  cn  ck, .slice x.a x.n x.c, .slice y.a y.n y.c, .slice z.a z.n z.c] 33 (0, 0)) := HQ.out.g2
  obtain ⟨c0, c1, c2, c3, c4, c5, c6, c7⟩ := blk8 hq2
  clear hq2
  clear h
  go_enter Tryd.func45, Tryd.ntmps45
  go_upto_region 1 with fail
  rw [← hw1]
  clear hw1
  clear hpl hi0 hisH
  go_upto_region 2 with (go_at_call 50; refine HAT.out.mono ?_; rintro o w4 ⟨rfl, hb4⟩)
  have HQ4 : Hid (Bo w w4 e gd a ⟨some ⟨q2, p2, none⟩, bn, bk⟩ ⟨some ⟨r2, p3, none⟩, cn, ck⟩ x y z) := HQ.out.call hb4
  have HR4 := Hid.mk' (HR.out.nqb hb4)
  clear c0 c1 c2 c3 c4 c5 c6 c7
  have hq2 : w4.heap[w.heap.size]? = some (.cells #[.int .i64 e, .int .i64 gd, .slice a.a a.n a.c, .slice (some ⟨q2, p2, none⟩)  bn  bk, .slice (some ⟨r2, p3, none⟩)  cn  ck, .slice x.a x.n x.c, .slice y.a y.n y.c, .slice z.a z.n z.c] 33 (0, 0)) := HQ4.out.g2
  obtain ⟨c0, c1, c2, c3, c4, c5, c6, c7⟩ := blk8 hq2
  clear hq2
  obtain ⟨x2, hin2, hib2⟩ := HR4.out.stk HT.out.2.2.2.1
  obtain ⟨x3, hin3, hib3⟩ := HR4.out.lvk HT.out.2.2.2.1
  rw [← HT.out.1] at x2
  rw [← HT.out.2.1] at x3
  have hlv : (ofN q s.H).lv = v := by show (atH s.H (plN q s.H)).lv = v; rw [← HT.out.2.2.1]; exact HT.out.2.1.symm
  have hst : (ofN q s.H).st = t := by show (atH s.H (plN q s.H)).st = t; rw [← HT.out.2.2.1]; exact HT.out.1.symm
  have HLS : Hid ((ofN q s.H).lv = v ∧ (ofN q s.H).st = t) := ⟨hlv, hst⟩
  clear hlv hst
  by_cases h3 : t = 2
  · have HE := Hid.mk' (pr_2 HT.out.2.2.2.2 (HLS.out.2.trans h3))
    rw [HLS.out.1, ← HT.out.2.2.1] at HE
    subst h3
    go_upto_region 4 with fail
    have hbd : Below w4.heap.size w4 w4.drew := below_drewN (Below.refl _ w4) 1
    have HQd := Hid.mk' (HQ4.out.call hbd)
    have HRd := Hid.mk' (HR4.out.nqb hbd)
    have HGd : Hid (∀ k, nq A (w.heap.size + 2) w4.drew k → k < w4.drew.heap.size) := fun _ hk => nq_lt hG HQd.out.hb.size hk
    clear hbd
    go_region_with ((go_at_call 71; refine (rput_f HRd.out HGd.out i HT.out.2.2.2.1 hlen 0 v).mono ?_; rintro o w6 ⟨b', c', rfl, h6, hb6⟩; have HQ6 := Hid.mk' (HQd.out.call hb6); have hq4 : w6.heap[w.heap.size + 1]? = some (.cells #[.int .i64 0, .int .i64 0, .slice none 0 0, .slice none 0 0, .slice none 0 0, .slice none 0 0, .slice none 0 0, .slice none 0 0] 33 (0, 0)) := HQ6.out.g4; obtain ⟨d0, d1, d2, d3, d4, d5, d6, d7⟩ := blk8 hq4; have f0 := fz8 hq4 0; have f1 := fz8 hq4 1; have f2 := fz8 hq4 2; have f3 := fz8 hq4 3; have f4 := fz8 hq4 4; have f5 := fz8 hq4 5; have f6 := fz8 hq4 6; have f7 := fz8 hq4 7; clear hq4))
    all_goals (
      have HR6 := Hid.mk' (h6.nqc HQd.out.sz hb6.size)
      go_wp2
      obtain ⟨g8, h8, hb8⟩ := HQ6.out.res hG HR6.out
      try dsimp only at g8 h8 hb8
      clear d0 d1 d2 d3 d4 d5 d6 d7 f0 f1 f2 f3 f4 f5 f6 f7 x2 x3 h6
      generalize ((((((((w6.setCell _ _).setCell _ _).setCell _ _).setCell _ _).setCell _ _).setCell _ _).setCell _ _).setCell _ _) = w8 at *
      obtain ⟨d0, d1, d2, d3, d4, d5, d6, d7⟩ := blk8 g8
      refine bodyPost_ret (v := .tuple #[.agg #[.int .i64 e, .int .i64 gd, .slice a.a a.n a.c, .slice b'.a b'.n b'.c, .slice c'.a c'.n c'.c, .slice x.a x.n x.c, .slice y.a y.n y.c, .slice z.a z.n z.c], .bool true]) (by simp [results, Tryd.results45, go_sem, d0, d1, d2, d3, d4, d5, d6, d7]) rfl ?_
      rw [HE.out.1, HE.out.2]
      exact ⟨_, rfl, a, b', c', x, y, z, rfl, h8, hb8⟩)
  · have HE := Hid.mk' (pr_1 (q := q) hW (by rw [HLS.out.2]; exact h3))
    have k3 : (t != 2) = true := by simp [h3]
    clear h3
    have hq4 : w4.heap[w.heap.size + 1]? = some (.cells #[.int .i64 0, .int .i64 0, .slice none 0 0, .slice none 0 0, .slice none 0 0, .slice none 0 0, .slice none 0 0, .slice none 0 0] 33 (0, 0)) := HQ4.out.g4
    obtain ⟨d0, d1, d2, d3, d4, d5, d6, d7⟩ := blk8 hq4
    have f0 := fz8 hq4 0
    have f1 := fz8 hq4 1
    have f2 := fz8 hq4 2
    have f3 := fz8 hq4 3
    have f4 := fz8 hq4 4
    have f5 := fz8 hq4 5
    have f6 := fz8 hq4 6
    have f7 := fz8 hq4 7
    clear hq4
    go_wp2
    obtain ⟨g8, h8, hb8⟩ := HQ4.out.res hG HR4.out
    try dsimp only at g8 h8 hb8
    clear d0 d1 d2 d3 d4 d5 d6 d7 f0 f1 f2 f3 f4 f5 f6 f7
    generalize ((((((((w4.setCell _ _).setCell _ _).setCell _ _).setCell _ _).setCell _ _).setCell _ _).setCell _ _).setCell _ _) = w8 at *
    obtain ⟨d0, d1, d2, d3, d4, d5, d6, d7⟩ := blk8 g8
    refine bodyPost_ret (v := .tuple #[.agg #[.int .i64 e, .int .i64 gd, .slice a.a a.n a.c, .slice (some ⟨q2, p2, none⟩)  bn  bk, .slice (some ⟨r2, p3, none⟩)  cn  ck, .slice x.a x.n x.c, .slice y.a y.n y.c, .slice z.a z.n z.c], .bool false]) (by simp [results, Tryd.results45, go_sem, d0, d1, d2, d3, d4, d5, d6, d7]) rfl ?_
    rw [HE.out.1, HE.out.2]
    exact ⟨_, rfl, a, ⟨some ⟨q2, p2, none⟩, bn, bk⟩, ⟨some ⟨r2, p3, none⟩, cn, ck⟩, x, y, z, rfl, h8, hb8⟩
theorem rprobe_f {w : World} {A : Nat → Prop} {e gd : Int} {a b c x y z : Sl} {s : Fl} (q : ByteArray) (h : RL6 w A a b c x y z s) (hG : ∀ k, A k → k < w.heap.size) (hW : W s) (hlen : s.H.length ≤ 4000) :
    Calls Tryd.prog 45 #[.agg #[.int .i64 e, .int .i64 gd, .slice a.a a.n a.c, .slice b.a b.n b.c, .slice c.a c.n c.c, .slice x.a x.n x.c, .slice y.a y.n y.c, .slice z.a z.n z.c], .string q] w fun o w' => ∃ v, o = .returned (.tuple #[v, .bool (prB q s)]) ∧ RP w w' A e gd (prS q s) v := by
  cases hh : isH q s.H with
  | false => exact rprobe_n q h hG hh
  | true => exact rprobe_y q h hG hh hW hlen
end Go.Proofs.YtmlkpfkeeifgeaaDoor
