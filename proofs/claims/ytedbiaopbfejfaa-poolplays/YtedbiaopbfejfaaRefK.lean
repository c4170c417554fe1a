/-
  What Make of the document's pool does: another pool, its lists in rows. Conditions: the rows lie where they are said to lie; at most 100 connections.
-/
import Derived.Test.YtedbiaopbfejfaaRefM
namespace Go.Proofs.Ytedbiaopbfejfaa
open Go.ChangeShapes Go.WideShapes Go.ChangeAt Go.RowKit

/-- What is held while the length is asked. -/
def LK (w : World) (P : Nat) (S : Int) (v0 v1 v2 : Value) (s : St) (w' : World) : Prop := Bx w w' P (.int .i64 S) v0 v1 v2 (.int .i64 0) (.slice none 0 0) (.slice none 0 0) (.slice none 0 0) ∧ Rv w' v0 v1 v2 s
/-- And the four cells. -/
def LC (P : Nat) (S : Int) (v0 v1 v2 : Value) (w' : World) : Prop := w'.cell? ⟨P, 0, none⟩ = some (.int .i64 S) ∧ w'.cell? ⟨P, 1, none⟩ = some v0 ∧ w'.cell? ⟨P, 2, none⟩ = some v1 ∧ w'.cell? ⟨P, 3, none⟩ = some v2
theorem lk_step {w w' w'' : World} {P : Nat} {S : Int} {v0 v1 v2 : Value} {s : St} (h : LK w P S v0 v1 v2 s w') (hb : Below w'.heap.size w' w'') :
    w''.cell? ⟨P, 0, none⟩ = some (.int .i64 S) ∧ w''.cell? ⟨P, 1, none⟩ = some v0 ∧ w''.cell? ⟨P, 2, none⟩ = some v1 ∧ w''.cell? ⟨P, 3, none⟩ = some v2 ∧ LK w P S v0 v1 v2 s w'' := by
  have h1 := h.1.below hb
  obtain ⟨p0, p1, p2, p3, _⟩ := blk4 h1.p
  exact ⟨p0, p1, p2, p3, h1, h.2.below hb⟩
theorem lk_of {w w' : World} {P : Nat} {S : Int} {v0 v1 v2 : Value} {s : St} (h : w'.cell? ⟨P, 0, none⟩ = some (.int .i64 S) ∧ w'.cell? ⟨P, 1, none⟩ = some v0 ∧ w'.cell? ⟨P, 2, none⟩ = some v1 ∧ w'.cell? ⟨P, 3, none⟩ = some v2 ∧ LK w P S v0 v1 v2 s w') : LK w P S v0 v1 v2 s w' := h.2.2.2.2

section
variable {w : World} {v0 v1 v2 : Value} {s : St}
set_option maxHeartbeats 1000000 in
set_option maxRecDepth 100000 in
theorem rmake_any (R : Nat) (x : Int) (h : Rv w v0 v1 v2 s) (hl : s.ids.length ≤ 100) :
    Calls Try.prog 13 #[.agg #[.int .i64 (R : Int), v0, v1, v2], .int .i64 x] w fun e w' => ∃ u0 u1 u2, e = .returned (.tuple #[.agg #[.int .i64 (R : Int), u0, u1, u2], .int .i64 (makeE R s x)]) ∧ Rv w' u0 u1 u2 (makeS R s x) ∧ Below w.heap.size w w' := by
  have hbx := bx_new w R v0 v1 v2
  have hrv := h.below hbx.bel
  have h3 : s.M.length ≤ 100 ∧ s.I.length ≤ 100 ∧ s.B.length ≤ 100 := by simp [St.ids] at hl; omega
  obtain ⟨l0, l1, l2⟩ := h3
  obtain ⟨n0, hn0⟩ : ∃ n, s.M.length = n := ⟨_, rfl⟩
  obtain ⟨n1, hn1⟩ : ∃ n, s.I.length = n := ⟨_, rfl⟩
  obtain ⟨n2, hn2⟩ : ∃ n, s.B.length = n := ⟨_, rfl⟩
  obtain ⟨nn, hnn⟩ : ∃ nn, s.ids.length = nn := ⟨_, rfl⟩
  obtain ⟨a0, c0, rfl, hi0, hz0⟩ := hrv.m.openN n0 hn0
  obtain ⟨a1, c1, rfl, hi1, hz1⟩ := hrv.i.openN n1 hn1
  obtain ⟨a2, c2, rfl, hi2, hz2⟩ := hrv.b.openN n2 hn2
  have HL : Hid (∀ wX, Rv wX (.slice a0 n0 c0) (.slice a1 n1 c1) (.slice a2 n2 c2) s → Calls Try.prog 24 #[.agg #[.int .i64 (R : Int), .slice a0 n0 c0, .slice a1 n1 c1, .slice a2 n2 c2]] wX fun e w' => e = .returned (.int .i64 nn) ∧ Below wX.heap.size wX w') := fun wX hX => rlen_any R hX hl nn hnn
  have HRV := Hid.mk' hrv
  have HBX := Hid.mk' hbx
  obtain ⟨p0, p1, p2, p3, plt⟩ := blk4 hbx.p
  unfold makeE makeS
  rw [hnn]
  by_cases hx : x ∈ s.ids
  · rw [if_pos hx, if_pos hx]
    have his := ris_any (R : Int) x hrv true (decide_eq_true hx)
    clear h hl hx hi0 hi1 hi2 hn0 hn1 hn2 hnn hbx hrv HL
    generalize hwq : (w.alloc (.cells #[.int .i64 (R : Int), .slice a0 n0 c0, .slice a1 n1 c1, .slice a2 n2 c2] 28)).alloc (.cells #[.int .i64 0, .slice none 0 0, .slice none 0 0, .slice none 0 0] 28) = wq at *
    go_enter Try.func13, Try.ntmps13
    go_upto_region 3 with (first | (go_at_call 27; refine his.mono ?_; rintro e w4 ⟨rfl, hb4⟩))
    have hbx4 := HBX.out.below hb4
    have hrv4 := HRV.out.below hb4
    have HO : Hid (Rv (put4 w4 (w.heap.size + 1) (.int .i64 (R : Int)) (.slice a0 n0 c0) (.slice a1 n1 c1) (.slice a2 n2 c2)) (.slice a0 n0 c0) (.slice a1 n1 c1) (.slice a2 n2 c2) s) := ⟨hbx4.ownF hrv4.m, hbx4.ownF hrv4.i, hbx4.ownF hrv4.b⟩
    have HF := Hid.mk' hbx4.fin
    clear p0 p1 p2 p3
    obtain ⟨p0, p1, p2, p3, -⟩ := blk4 hbx4.p
    obtain ⟨d0, d1, d2, d3, -⟩ := blk4 hbx4.q
    have g0 := fz4 hbx4.q 0
    have g1 := fz4 hbx4.q 1
    have g2 := fz4 hbx4.q 2
    have g3 := fz4 hbx4.q 3
    clear his hb4 hbx4 hrv4
    go_wp2
    obtain ⟨z0, z1, z2, z3, -⟩ := blk4 HF.out.1
    unfold put4 at z0 z1 z2 z3
    refine bodyPost_ret (v := .tuple #[.agg #[.int .i64 (R : Int), .slice a0 n0 c0, .slice a1 n1 c1, .slice a2 n2 c2], .int .i64 6]) (by simp [results, Try.results13, go_sem, z0, z1, z2, z3]) rfl ?_
    exact ⟨_, _, _, rfl, HO.out, HF.out.2.1⟩
  · rw [if_neg hx, if_neg hx]
    obtain ⟨E, hE⟩ : ∃ E, (if R ≤ nn then (7 : Int) else 0) = E := ⟨_, rfl⟩
    obtain ⟨T, hT⟩ : ∃ T, (if R ≤ nn then s else mkS s x) = T := ⟨_, rfl⟩
    have HE : Hid ((R ≤ nn → E = 7 ∧ T = s) ∧ (¬ R ≤ nn → E = 0 ∧ T = mkS s x)) := ⟨fun h => ⟨by rw [← hE, if_pos h], by rw [← hT, if_pos h]⟩, fun h => ⟨by rw [← hE, if_neg h], by rw [← hT, if_neg h]⟩⟩
    rw [hE, hT]
    clear hE hT
    have his := ris_any (R : Int) x hrv false (decide_eq_false hx)
    obtain ⟨ym, hym⟩ : ∃ ym, s.M ++ [x] = ym := ⟨_, rfl⟩
    obtain ⟨nm, hnm⟩ : ∃ nm, ym.length = nm := ⟨_, rfl⟩
    have HM : Hid (∀ wX, Own wX (.slice a0 n0 c0) s.M → Calls Try.prog 37 #[.slice a0 n0 c0, .int .i64 x] wX fun e w' => ∃ a c, e = .returned (.slice a nm c) ∧ Own w' (.slice a nm c) ym ∧ Below wX.heap.size wX w') := fun wX ho => by
      obtain ⟨a, c, e, q1, q2⟩ := ho.openN n0 hn0
      cases e
      exact more_o wX a0 n0 c0 s.M x q1 q2 (by omega) ym hym nm hnm
    have HR : Hid (mkS s x = ⟨ym, s.I, s.B⟩) := Hid.mk' (by rw [← hym]; rfl)
    clear h hl hx hi0 hi1 hi2 hn0 hn1 hn2 hnn hbx hrv hym hnm
    generalize hwq : (w.alloc (.cells #[.int .i64 (R : Int), .slice a0 n0 c0, .slice a1 n1 c1, .slice a2 n2 c2] 28)).alloc (.cells #[.int .i64 0, .slice none 0 0, .slice none 0 0, .slice none 0 0] 28) = wq at *
    go_enter Try.func13, Try.ntmps13
    go_upto_region 4 with (first | (go_at_call 27; refine his.mono ?_; rintro e w4 ⟨rfl, hb4⟩))
    have hlk : LK w w.heap.size (R : Int) (.slice a0 n0 c0) (.slice a1 n1 c1) (.slice a2 n2 c2) s w4 := ⟨HBX.out.below hb4, HRV.out.below hb4⟩
    have hS := lk_step hlk (Below.refl _ _).drew
    clear his hb4 hlk p0 p1 p2 p3
    go_region_held (fun w' => w'.cell? ⟨w.heap.size, 0, none⟩ = some (.int .i64 (R : Int)) ∧ w'.cell? ⟨w.heap.size, 1, none⟩ = some (.slice a0 n0 c0) ∧ w'.cell? ⟨w.heap.size, 2, none⟩ = some (.slice a1 n1 c1) ∧ w'.cell? ⟨w.heap.size, 3, none⟩ = some (.slice a2 n2 c2) ∧ LK w w.heap.size (R : Int) (.slice a0 n0 c0) (.slice a1 n1 c1) (.slice a2 n2 c2) s w')
      (first | assumption | exact lk_step (lk_of (by assumption)) hbx | go_keep)
      (first | (go_at_call 24; refine (HL.out _ ?_).mono ?_; (refine (lk_of (w := w) (P := w.heap.size) (S := (R : Int)) ?_).2; assumption); rintro e w5 ⟨rfl, hbx⟩))
    have hk5 : LK w w.heap.size (R : Int) (.slice a0 n0 c0) (.slice a1 n1 c1) (.slice a2 n2 c2) s w5 := lk_of (by assumption)
    have hbx5 := hk5.1
    have hrv5 := hk5.2
    clear hk5 hS hbx HL
    obtain ⟨p0, p1, p2, p3, -⟩ := blk4 hbx5.p
    by_cases hf : R ≤ nn
    · have HEE := Hid.mk' (HE.out.1 hf)
      have HO : Hid (Rv (put4 w5 (w.heap.size + 1) (.int .i64 (R : Int)) (.slice a0 n0 c0) (.slice a1 n1 c1) (.slice a2 n2 c2)) (.slice a0 n0 c0) (.slice a1 n1 c1) (.slice a2 n2 c2) s) := ⟨hbx5.ownF hrv5.m, hbx5.ownF hrv5.i, hbx5.ownF hrv5.b⟩
      have HF := Hid.mk' hbx5.fin
      obtain ⟨d0, d1, d2, d3, -⟩ := blk4 hbx5.q
      have g0 := fz4 hbx5.q 0
      have g1 := fz4 hbx5.q 1
      have g2 := fz4 hbx5.q 2
      have g3 := fz4 hbx5.q 3
      clear hbx5 hrv5
      go_wp2
      obtain ⟨z0, z1, z2, z3, -⟩ := blk4 HF.out.1
      unfold put4 at z0 z1 z2 z3
      refine bodyPost_ret (v := .tuple #[.agg #[.int .i64 (R : Int), .slice a0 n0 c0, .slice a1 n1 c1, .slice a2 n2 c2], .int .i64 7]) (by simp [results, Try.results13, go_sem, z0, z1, z2, z3]) rfl ?_
      refine ⟨_, _, _, by rw [HEE.out.1], ?_, HF.out.2.1⟩
      rw [HEE.out.2]
      exact HO.out
    · have HEE := Hid.mk' (HE.out.2 hf)
      have hmo := HM.out w5 hrv5.m
      have HBX5 := Hid.mk' hbx5
      have HRV5 := Hid.mk' hrv5
      clear hbx5 hrv5
      go_upto_region 7 with (first
        | (go_at_call 37; refine hmo.mono ?_; rintro e w7 ⟨a7, c7, rfl, ho7, hb7⟩; have hbx7 := HBX5.out.below hb7; have k1 := (blk4 hbx7.p).2.1; have f1 := fz4 hbx7.p 1))
      have hbx8 := hbx7.set1 (.slice a7 nm c7)
      have ho8 := hbx7.ownP ho7 1 (.slice a7 nm c7)
      have hi8 := hbx7.ownP (HRV5.out.i.below hb7) 1 (.slice a7 nm c7)
      have hj8 := hbx7.ownP (HRV5.out.b.below hb7) 1 (.slice a7 nm c7)
      clear hmo hbx7 ho7 hb7 k1 f1 p0 p1 p2 p3
      generalize w7.setCell ⟨w.heap.size, 1, none⟩ (.slice a7 nm c7) = w8 at *
      have HO : Hid (Rv (put4 w8 (w.heap.size + 1) (.int .i64 (R : Int)) (.slice a7 nm c7) (.slice a1 n1 c1) (.slice a2 n2 c2)) (.slice a7 nm c7) (.slice a1 n1 c1) (.slice a2 n2 c2) ⟨ym, s.I, s.B⟩) := ⟨hbx8.ownF ho8, hbx8.ownF hi8, hbx8.ownF hj8⟩
      have HF := Hid.mk' hbx8.fin
      obtain ⟨p0, p1, p2, p3, -⟩ := blk4 hbx8.p
      obtain ⟨d0, d1, d2, d3, -⟩ := blk4 hbx8.q
      have g0 := fz4 hbx8.q 0
      have g1 := fz4 hbx8.q 1
      have g2 := fz4 hbx8.q 2
      have g3 := fz4 hbx8.q 3
      clear hbx8 ho8 hi8 hj8
      go_wp2
      obtain ⟨z0, z1, z2, z3, -⟩ := blk4 HF.out.1
      unfold put4 at z0 z1 z2 z3
      refine bodyPost_ret (v := .tuple #[.agg #[.int .i64 (R : Int), .slice a7 nm c7, .slice a1 n1 c1, .slice a2 n2 c2], .int .i64 0]) (by simp [results, Try.results13, go_sem, z0, z1, z2, z3]) rfl ?_
      refine ⟨_, _, _, by rw [HEE.out.1], ?_, HF.out.2.1⟩
      rw [HEE.out.2, HR.out]
      exact HO.out
end

end Go.Proofs.Ytedbiaopbfejfaa
