/-
  What Drop of the document's pool does: another pool, its lists in rows. Conditions: the rows lie where they are said to lie; at most 100 connections.
-/
import Derived.Test.YtedbiaopbfejfaaRefM
namespace Go.Proofs.Ytedbiaopbfejfaa
open Go.ChangeShapes Go.WideShapes Go.ChangeAt Go.RowKit

section
variable {w : World} {v0 v1 v2 : Value} {s : St}
set_option maxHeartbeats 1000000 in
set_option maxRecDepth 100000 in
theorem rdrop_any (S x : Int) (h : Rv w v0 v1 v2 s) (hl : s.ids.length ≤ 100) (bx : Bool) (hbx0 : decide (x ∈ s.ids) = bx) :
    Calls Try.prog 21 #[.agg #[.int .i64 S, v0, v1, v2], .int .i64 x] w fun e w' => ∃ u0 u1 u2, e = .returned (.tuple #[.agg #[.int .i64 S, u0, u1, u2], .bool bx]) ∧ Rv w' u0 u1 u2 (dr s x) ∧ Below w.heap.size w w' := by
  have hbx := bx_new w S v0 v1 v2
  have hrv := h.below hbx.bel
  have h3 : s.M.length ≤ 100 ∧ s.I.length ≤ 100 ∧ s.B.length ≤ 100 := by simp [St.ids] at hl; omega
  obtain ⟨l0, l1, l2⟩ := h3
  have his := ris_any S x hrv bx hbx0
  obtain ⟨n0, hn0⟩ : ∃ n, s.M.length = n := ⟨_, rfl⟩
  obtain ⟨n1, hn1⟩ : ∃ n, s.I.length = n := ⟨_, rfl⟩
  obtain ⟨n2, hn2⟩ : ∃ n, s.B.length = n := ⟨_, rfl⟩
  obtain ⟨a0, c0, rfl, hi0, hz0⟩ := hrv.m.openN n0 hn0
  obtain ⟨a1, c1, rfl, hi1, hz1⟩ := hrv.i.openN n1 hn1
  obtain ⟨a2, c2, rfl, hi2, hz2⟩ := hrv.b.openN n2 hn2
  have HRV := Hid.mk' hrv
  have HBX := Hid.mk' hbx
  obtain ⟨p0, p1, p2, p3, plt⟩ := blk4 hbx.p
  obtain ⟨yl, hyl⟩ : ∃ yl, less s.M x = yl := ⟨_, rfl⟩
  obtain ⟨nl, hnl⟩ : ∃ nl, yl.length = nl := ⟨_, rfl⟩
  obtain ⟨ym, hym⟩ : ∃ ym, less s.I x = ym := ⟨_, rfl⟩
  obtain ⟨nm, hnm⟩ : ∃ nm, ym.length = nm := ⟨_, rfl⟩
  obtain ⟨yk, hyk⟩ : ∃ yk, less s.B x = yk := ⟨_, rfl⟩
  obtain ⟨nk, hnk⟩ : ∃ nk, yk.length = nk := ⟨_, rfl⟩
  have H0 : Hid (∀ wX, Own wX (.slice a0 n0 c0) s.M → Calls Try.prog 36 #[.slice a0 n0 c0, .int .i64 x] wX fun e w' => ∃ a c, e = .returned (.slice a nl c) ∧ Own w' (.slice a nl c) yl ∧ Below wX.heap.size wX w') := fun wX ho => by
    obtain ⟨a, c, e, q1, _⟩ := ho.openN n0 hn0
    cases e
    exact less_o wX a0 n0 c0 s.M x q1 (by omega) yl hyl nl hnl
  have H1 : Hid (∀ wX, Own wX (.slice a1 n1 c1) s.I → Calls Try.prog 36 #[.slice a1 n1 c1, .int .i64 x] wX fun e w' => ∃ a c, e = .returned (.slice a nm c) ∧ Own w' (.slice a nm c) ym ∧ Below wX.heap.size wX w') := fun wX ho => by
    obtain ⟨a, c, e, q1, _⟩ := ho.openN n1 hn1
    cases e
    exact less_o wX a1 n1 c1 s.I x q1 (by omega) ym hym nm hnm
  have H2 : Hid (∀ wX, Own wX (.slice a2 n2 c2) s.B → Calls Try.prog 36 #[.slice a2 n2 c2, .int .i64 x] wX fun e w' => ∃ a c, e = .returned (.slice a nk c) ∧ Own w' (.slice a nk c) yk ∧ Below wX.heap.size wX w') := fun wX ho => by
    obtain ⟨a, c, e, q1, _⟩ := ho.openN n2 hn2
    cases e
    exact less_o wX a2 n2 c2 s.B x q1 (by omega) yk hyk nk hnk
  have HR : Hid (dr s x = ⟨yl, ym, yk⟩) := Hid.mk' (by rw [← hyl, ← hym, ← hyk]; rfl)
  clear h hl hbx0 hi0 hi1 hi2 hrv hbx hyl hym hyk hnl hnm hnk hn0 hn1 hn2
  generalize hwq : (w.alloc (.cells #[.int .i64 S, .slice a0 n0 c0, .slice a1 n1 c1, .slice a2 n2 c2] 28)).alloc (.cells #[.int .i64 0, .slice none 0 0, .slice none 0 0, .slice none 0 0] 28) = wq at *
  go_enter Try.func21, Try.ntmps21
  go_upto_region 2 with (first | (go_at_call 27; refine his.mono ?_; rintro e w4 ⟨rfl, hb4⟩))
  have HBX4 := Hid.mk' (HBX.out.below hb4)
  have HRV4 := Hid.mk' (HRV.out.below hb4)
  have hls := H0.out w4 HRV4.out.m
  clear his hb4 p0 p1 p2 p3 HBX HRV
  obtain ⟨p0, p1, p2, p3, -⟩ := blk4 HBX4.out.p
  go_upto_region 3 with (first
    | (go_at_call 36; refine hls.mono ?_; rintro e w5 ⟨a5, c5, rfl, ho5, hb5⟩; have hbx5 := HBX4.out.below hb5; have k1 := (blk4 hbx5.p).2.1; have f1 := fz4 hbx5.p 1))
  have hbx6 := hbx5.set1 (.slice a5 nl c5)
  have ho6 := hbx5.ownP ho5 1 (.slice a5 nl c5)
  have hi6 := hbx5.ownP (HRV4.out.i.below hb5) 1 (.slice a5 nl c5)
  have hj6 := hbx5.ownP (HRV4.out.b.below hb5) 1 (.slice a5 nl c5)
  clear hls hbx5 ho5 hb5 k1 f1 p0 p1 p2 p3
  generalize w5.setCell ⟨w.heap.size, 1, none⟩ (.slice a5 nl c5) = w6 at *
  have hmo := H1.out w6 hi6
  obtain ⟨p0, p1, p2, p3, -⟩ := blk4 hbx6.p
  have HBX6 := Hid.mk' hbx6
  have HO6 : Hid (Own w6 (.slice a5 nl c5) yl ∧ Own w6 (.slice a2 n2 c2) s.B) := ⟨ho6, hj6⟩
  clear hbx6 ho6 hi6 hj6
  go_upto_region 4 with (first
    | (go_at_call 36; refine hmo.mono ?_; rintro e w7 ⟨a7, c7, rfl, ho7, hb7⟩; have hbx7 := HBX6.out.below hb7; have k2 := (blk4 hbx7.p).2.2.1; have f2 := fz4 hbx7.p 2))
  have hbx8 := hbx7.set2 (.slice a7 nm c7)
  have ho8 := hbx7.ownP ho7 2 (.slice a7 nm c7)
  have hl8 := hbx7.ownP (HO6.out.1.below hb7) 2 (.slice a7 nm c7)
  have hj8 := hbx7.ownP (HO6.out.2.below hb7) 2 (.slice a7 nm c7)
  clear hmo hbx7 ho7 hb7 k2 f2 p0 p1 p2 p3
  generalize w7.setCell ⟨w.heap.size, 2, none⟩ (.slice a7 nm c7) = w8 at *
  have hno := H2.out w8 hj8
  obtain ⟨p0, p1, p2, p3, -⟩ := blk4 hbx8.p
  have HBX8 := Hid.mk' hbx8
  have HO8 : Hid (Own w8 (.slice a5 nl c5) yl ∧ Own w8 (.slice a7 nm c7) ym) := ⟨hl8, ho8⟩
  clear hbx8 ho8 hl8 hj8
  go_upto_region 5 with (first
    | (go_at_call 36; refine hno.mono ?_; rintro e w9 ⟨a9, c9, rfl, ho9, hb9⟩; have hbx9 := HBX8.out.below hb9; have k3 := (blk4 hbx9.p).2.2.2.1; have f3 := fz4 hbx9.p 3))
  have hbxA := hbx9.set3 (.slice a9 nk c9)
  have hoA := hbx9.ownP ho9 3 (.slice a9 nk c9)
  have hlA := hbx9.ownP (HO8.out.1.below hb9) 3 (.slice a9 nk c9)
  have hjA := hbx9.ownP (HO8.out.2.below hb9) 3 (.slice a9 nk c9)
  clear hno hbx9 ho9 hb9 k3 f3 p0 p1 p2 p3
  generalize w9.setCell ⟨w.heap.size, 3, none⟩ (.slice a9 nk c9) = wA at *
  have HOA : Hid (Rv (put4 wA (w.heap.size + 1) (.int .i64 S) (.slice a5 nl c5) (.slice a7 nm c7) (.slice a9 nk c9)) (.slice a5 nl c5) (.slice a7 nm c7) (.slice a9 nk c9) ⟨yl, ym, yk⟩) := ⟨hbxA.ownF hlA, hbxA.ownF hjA, hbxA.ownF hoA⟩
  have HF := Hid.mk' hbxA.fin
  obtain ⟨p0, p1, p2, p3, -⟩ := blk4 hbxA.p
  obtain ⟨d0, d1, d2, d3, -⟩ := blk4 hbxA.q
  have g0 := fz4 hbxA.q 0
  have g1 := fz4 hbxA.q 1
  have g2 := fz4 hbxA.q 2
  have g3 := fz4 hbxA.q 3
  clear hbxA hoA hlA hjA
  go_wp2
  obtain ⟨z0, z1, z2, z3, -⟩ := blk4 HF.out.1
  unfold put4 at z0 z1 z2 z3
  refine bodyPost_ret (v := .tuple #[.agg #[.int .i64 S, .slice a5 nl c5, .slice a7 nm c7, .slice a9 nk c9], .bool bx]) (by simp [results, Try.results21, go_sem, z0, z1, z2, z3]) rfl ?_
  refine ⟨_, _, _, rfl, ?_, HF.out.2.1⟩
  rw [HR.out]
  exact HOA.out
end

end Go.Proofs.Ytedbiaopbfejfaa
