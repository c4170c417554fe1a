/-
  What Give of the document's pool does: another pool, its lists in rows. Conditions: the rows lie where they are said to lie; at most 100 connections.
-/
import Derived.Test.YtedbiaopbfejfaaRefM
namespace Go.Proofs.Ytedbiaopbfejfaa
open Go.ChangeShapes Go.WideShapes Go.ChangeAt Go.RowKit

section
variable {w : World} {v0 v1 v2 : Value} {s : St}
set_option maxHeartbeats 1000000 in
set_option maxRecDepth 100000 in
theorem rgive_any (S x : Int) (h : Rv w v0 v1 v2 s) (hl : s.ids.length ≤ 100) :
    Calls Try.prog 19 #[.agg #[.int .i64 S, v0, v1, v2], .int .i64 x] w fun e w' => ∃ u0 u1 u2, e = .returned (.tuple #[.agg #[.int .i64 S, u0, u1, u2], .bool (decide (x ∈ s.B))]) ∧ Rv w' u0 u1 u2 (giveS s x) ∧ Below w.heap.size w w' := by
  have hbx := bx_new w S v0 v1 v2
  have hrv := h.below hbx.bel
  have h3 : s.M.length ≤ 100 ∧ s.I.length ≤ 100 ∧ s.B.length ≤ 100 := by simp [St.ids] at hl; omega
  obtain ⟨l0, l1, l2⟩ := h3
  obtain ⟨n0, hn0⟩ : ∃ n, s.M.length = n := ⟨_, rfl⟩
  obtain ⟨n1, hn1⟩ : ∃ n, s.I.length = n := ⟨_, rfl⟩
  obtain ⟨n2, hn2⟩ : ∃ n, s.B.length = n := ⟨_, rfl⟩
  obtain ⟨a0, c0, rfl, hi0, hz0⟩ := hrv.m.openN n0 hn0
  obtain ⟨a1, c1, rfl, hi1, hz1⟩ := hrv.i.openN n1 hn1
  obtain ⟨a2, c2, rfl, hi2, hz2⟩ := hrv.b.openN n2 hn2
  have HRV := Hid.mk' hrv
  have HBX := Hid.mk' hbx
  obtain ⟨p0, p1, p2, p3, plt⟩ := blk4 hbx.p
  unfold giveS
  by_cases hx : x ∈ s.B
  · rw [if_pos hx, decide_eq_true hx]
    have hhas := has_any _ a2 n2 c2 s.B x hi2 true (decide_eq_true hx)
    obtain ⟨yl, hyl⟩ : ∃ yl, less s.B x = yl := ⟨_, rfl⟩
    obtain ⟨nl, hnl⟩ : ∃ nl, yl.length = nl := ⟨_, rfl⟩
    obtain ⟨ym, hym⟩ : ∃ ym, s.I ++ [x] = ym := ⟨_, rfl⟩
    obtain ⟨nm, hnm⟩ : ∃ nm, ym.length = nm := ⟨_, rfl⟩
    have hls := less_o _ a2 n2 c2 s.B x hi2 (by omega) yl hyl nl hnl
    have HM : Hid (∀ wX, Own wX (.slice a1 n1 c1) s.I → Calls Try.prog 37 #[.slice a1 n1 c1, .int .i64 x] wX fun e w' => ∃ a c, e = .returned (.slice a nm c) ∧ Own w' (.slice a nm c) ym ∧ Below wX.heap.size wX w') := fun wX ho => by
      obtain ⟨a, c, e, q1, q2⟩ := ho.openN n1 hn1
      cases e
      exact more_o wX a1 n1 c1 s.I x q1 q2 (by omega) ym hym nm hnm
    have HR : Hid (gv s x = ⟨s.M, ym, yl⟩) := Hid.mk' (by rw [← hyl, ← hym]; rfl)
    clear h hl hx hi0 hi1 hi2 hrv hbx hyl hym hnl hnm hn0 hn1 hn2
    generalize hwq : (w.alloc (.cells #[.int .i64 S, .slice a0 n0 c0, .slice a1 n1 c1, .slice a2 n2 c2] 28)).alloc (.cells #[.int .i64 0, .slice none 0 0, .slice none 0 0, .slice none 0 0] 28) = wq at *
    go_enter Try.func19, Try.ntmps19
    go_upto_region 4 with (first
      | (go_at_call 35; refine hhas.mono ?_; rintro e w' ⟨rfl, hw'⟩; subst w'))
    clear p0 p1 p2 p3 hhas
    obtain ⟨p0, p1, p2, p3, -⟩ := blk4 HBX.out.p
    go_upto_region 5 with (first
      | (go_at_call 36; refine hls.mono ?_; rintro e w5 ⟨a5, c5, rfl, ho5, hb5⟩; have hbx5 := HBX.out.below hb5; have k1 := (blk4 hbx5.p).2.2.2.1; have f1 := fz4 hbx5.p 3))
    have hbx6 := hbx5.set3 (.slice a5 nl c5)
    have ho6 := hbx5.ownP ho5 3 (.slice a5 nl c5)
    have hi6 := hbx5.ownP (HRV.out.i.below hb5) 3 (.slice a5 nl c5)
    have hj6 := hbx5.ownP (HRV.out.m.below hb5) 3 (.slice a5 nl c5)
    clear hls hbx5 ho5 hb5 k1 f1 p0 p1 p2 p3
    generalize w5.setCell ⟨w.heap.size, 3, none⟩ (.slice a5 nl c5) = w6 at *
    have hmo := HM.out w6 hi6
    obtain ⟨p0, p1, p2, p3, -⟩ := blk4 hbx6.p
    have HBX6 := Hid.mk' hbx6
    have HO6 : Hid (Own w6 (.slice a5 nl c5) yl ∧ Own w6 (.slice a0 n0 c0) s.M) := ⟨ho6, hj6⟩
    clear hbx6 ho6 hi6 hj6
    go_upto_region 6 with (first
      | (go_at_call 37; refine hmo.mono ?_; rintro e w7 ⟨a7, c7, rfl, ho7, hb7⟩; have hbx7 := HBX6.out.below hb7; have k2 := (blk4 hbx7.p).2.2.1; have f2 := fz4 hbx7.p 2))
    have hbx8 := hbx7.set2 (.slice a7 nm c7)
    have ho8 := hbx7.ownP ho7 2 (.slice a7 nm c7)
    have hl8 := hbx7.ownP (HO6.out.1.below hb7) 2 (.slice a7 nm c7)
    have hj8 := hbx7.ownP (HO6.out.2.below hb7) 2 (.slice a7 nm c7)
    clear hmo hbx7 ho7 hb7 k2 f2 p0 p1 p2 p3
    generalize w7.setCell ⟨w.heap.size, 2, none⟩ (.slice a7 nm c7) = w8 at *
    have HO8 : Hid (Rv (put4 w8 (w.heap.size + 1) (.int .i64 S) (.slice a0 n0 c0) (.slice a7 nm c7) (.slice a5 nl c5)) (.slice a0 n0 c0) (.slice a7 nm c7) (.slice a5 nl c5) ⟨s.M, ym, yl⟩) := ⟨hbx8.ownF hj8, hbx8.ownF ho8, hbx8.ownF hl8⟩
    have HF := Hid.mk' hbx8.fin
    obtain ⟨p0, p1, p2, p3, -⟩ := blk4 hbx8.p
    obtain ⟨d0, d1, d2, d3, -⟩ := blk4 hbx8.q
    have g0 := fz4 hbx8.q 0
    have g1 := fz4 hbx8.q 1
    have g2 := fz4 hbx8.q 2
    have g3 := fz4 hbx8.q 3
    clear hbx8 ho8 hl8 hj8
    go_wp2
    obtain ⟨z0, z1, z2, z3, -⟩ := blk4 HF.out.1
    unfold put4 at z0 z1 z2 z3
    refine bodyPost_ret (v := .tuple #[.agg #[.int .i64 S, .slice a0 n0 c0, .slice a7 nm c7, .slice a5 nl c5], .bool true]) (by simp [results, Try.results19, go_sem, z0, z1, z2, z3]) rfl ?_
    refine ⟨_, _, _, rfl, ?_, HF.out.2.1⟩
    rw [HR.out]
    exact HO8.out
  · rw [if_neg hx, decide_eq_false hx]
    have hhas := has_any _ a2 n2 c2 s.B x hi2 false (decide_eq_false hx)
    clear h hl hx hi0 hi1 hi2 hn0 hn1 hn2
    have HO8 : Hid (Rv (put4 ((w.alloc (.cells #[.int .i64 S, .slice a0 n0 c0, .slice a1 n1 c1, .slice a2 n2 c2] 28)).alloc (.cells #[.int .i64 0, .slice none 0 0, .slice none 0 0, .slice none 0 0] 28)) (w.heap.size + 1) (.int .i64 S) (.slice a0 n0 c0) (.slice a1 n1 c1) (.slice a2 n2 c2)) (.slice a0 n0 c0) (.slice a1 n1 c1) (.slice a2 n2 c2) s) := ⟨hbx.ownF hrv.m, hbx.ownF hrv.i, hbx.ownF hrv.b⟩
    have HF := Hid.mk' hbx.fin
    obtain ⟨d0, d1, d2, d3, -⟩ := blk4 hbx.q
    have g0 := fz4 hbx.q 0
    have g1 := fz4 hbx.q 1
    have g2 := fz4 hbx.q 2
    have g3 := fz4 hbx.q 3
    clear hbx hrv HBX HRV
    generalize hwq : (w.alloc (.cells #[.int .i64 S, .slice a0 n0 c0, .slice a1 n1 c1, .slice a2 n2 c2] 28)).alloc (.cells #[.int .i64 0, .slice none 0 0, .slice none 0 0, .slice none 0 0] 28) = wq at *
    go_enter Try.func19, Try.ntmps19
    go_wp2_with (first
      | (go_at_call 35; refine hhas.mono ?_; rintro e w' ⟨rfl, hw'⟩; subst w'))
    obtain ⟨z0, z1, z2, z3, -⟩ := blk4 HF.out.1
    unfold put4 at z0 z1 z2 z3
    refine bodyPost_ret (v := .tuple #[.agg #[.int .i64 S, .slice a0 n0 c0, .slice a1 n1 c1, .slice a2 n2 c2], .bool false]) (by simp [results, Try.results19, go_sem, z0, z1, z2, z3]) rfl ?_
    exact ⟨_, _, _, rfl, HO8.out, HF.out.2.1⟩
end

end Go.Proofs.Ytedbiaopbfejfaa
