/-
  PoolPlays's walk: what a pool answers, and has, in whatever row of steps, is what the document's pool says. Conditions: the steps lie where they are said to lie.
-/
import Derived.Test.YtedbiaopbfejfaaPlaysP
import Derived.Deep.CutRange
import Derived.Deep.CutBlock
import Derived.Deep.RegionHeld3
namespace Go.Proofs.Ytedbiaopbfejfaa
open Go.ChangeShapes Go.WideShapes Go.ChangeAt Go.RowKit

theorem Rv.slices {w : World} {u0 u1 u2 : Value} {s : St} (h : Rv w u0 u1 u2 s) :
    ∃ a0 n0 c0 a1 n1 c1 a2 n2 c2, u0 = .slice a0 n0 c0 ∧ u1 = .slice a1 n1 c1 ∧ u2 = .slice a2 n2 c2 ∧ s.M.length = n0 ∧ s.I.length = n1 ∧ s.B.length = n2 := by
  obtain ⟨a0, c0, e0, _⟩ := h.m.open
  obtain ⟨a1, c1, e1, _⟩ := h.i.open
  obtain ⟨a2, c2, e2, _⟩ := h.b.open
  exact ⟨a0, _, c0, a1, _, c1, a2, _, c2, e0, e1, e2, rfl, rfl, rfl⟩

section
variable {w1 wx w' w4 w5 : World} {g b R K : Nat} {s s2 : St} {v0 v1 v2 u0 u1 u2 : Value} {a0 a1 a2 : Option Addr} {n0 c0 n1 c1 n2 c2 : Nat}
theorem PS.next (h : PS w1 w4 g b R s s K v0 v1 v2) (hb : Below w4.heap.size w4 w5) (hv : Rv w5 u0 u1 u2 s2) :
    (w5.alloc (.cells #[.int .i64 (R : Int), u0, u1, u2] 28)).heap[w5.heap.size]? = some (.cells #[.int .i64 (R : Int), u0, u1, u2] 28 (0, 0)) ∧
    (w5.alloc (.cells #[.int .i64 (R : Int), u0, u1, u2] 28)).heap[b]? = some (.cells #[.int .i64 (R : Int), v0, v1, v2] 28 (0, 0)) ∧
    PS w1 (((((w5.alloc (.cells #[.int .i64 (R : Int), u0, u1, u2] 28)).setCell ⟨b, 0, none⟩ (.int .i64 (R : Int))).setCell ⟨b, 1, none⟩ u0).setCell ⟨b, 2, none⟩ u1).setCell ⟨b, 3, none⟩ u2) g b R s s2 K u0 u1 u2 := by
  have hb6 : Below w5.heap.size w5 (w5.alloc (.cells #[.int .i64 (R : Int), u0, u1, u2] 28)) := (Below.refl _ w5).alloc (Nat.le_refl _) _
  have h6 := (h.same hb).same hb6
  exact ⟨heap_alloc_new _ _, h6.blk, h6.put (hv.below hb6)⟩

theorem LP.sortM (h : LP w1 wx g b R s K (.slice a0 n0 c0) v1 v2 w') (hn : s.M.length = n0) (h8 : n0 ≤ 100) : Calls Try.prog 30 #[.slice a0 n0 c0] w' fun e w'' => ∃ a c, e = .returned (.slice a n0 c) ∧ IntsAt w'' a n0 c (srt s.M) ∧ Below w'.heap.size w' w'' := sorted_n w' a0 n0 c0 s.M (Own.ints h.ps.rv.m hn) h8
theorem LP.sortB (h : LP w1 wx g b R s K v0 v1 (.slice a2 n2 c2) w') (hn : s.B.length = n2) (h8 : n2 ≤ 100) : Calls Try.prog 30 #[.slice a2 n2 c2] w' fun e w'' => ∃ a c, e = .returned (.slice a n2 c) ∧ IntsAt w'' a n2 c (srt s.B) ∧ Below w'.heap.size w' w'' := sorted_n w' a2 n2 c2 s.B (Own.ints h.ps.rv.b hn) h8
theorem LP.sameI (h : LP w1 wx g b R s K v0 (.slice a1 n1 c1) v2 w') (hn : s.I.length = n1) {a : Option Addr} {c : Nat} (hi : IntsAt w' a n1 c s.I) : Calls Try.prog 28 #[.slice a n1 c, .slice a1 n1 c1] w' fun e w'' => e = .returned (.bool true) ∧ Below w'.heap.size w' w'' := same_b a a1 n1 c c1 s.I w' hi (Own.ints h.ps.rv.i hn)
end

set_option maxHeartbeats 8000000 in
set_option maxRecDepth 100000 in
theorem plays_walk (rm : Int) (a1 : Option Addr) (l1 c1 : Nat) (ss : List Stp) (w : World) (hz : StepsAt w a1 l1 c1 ss) :
    Calls Try.prog 3 #[.int .i64 rm, .slice a1 l1 c1] w fun e w' => e = .returned (.bool true) ∧ Below w.heap.size w w' := by
  have q1 := hz.hle
  have q2 := hz.hcap
  obtain ⟨n, hn⟩ : ∃ n, min l1 100 = n := ⟨_, rfl⟩
  have hear := early_any a1 l1 c1 n q1 hn
  unfold maxLen at q2
  go_enter Try.func3, Try.ntmps3
  go_wp2_with fail
  refine (lives_any _).mono ?_
  rintro e w1 ⟨rfl, hb1⟩
  have hnew := new_any rm w1
  have hrn := rnew_any rm
  have hR8 := roomN_le rm
  generalize roomN rm = R at hnew hrn hR8
  go_wp2_with fail
  refine hnew.mono ?_
  rintro e w2 ⟨rfl, hq2, hb2⟩
  go_wp2_with fail
  refine (hrn _).mono ?_
  rintro e w3 ⟨rfl, hb3⟩
  have hear4 := hear (w3.alloc (.cells #[.int .i64 (R : Int), .slice none 0 0, .slice none 0 0, .slice none 0 0] 28))
  go_wp2_with fail
  refine hear4.mono ?_
  rintro e w4 ⟨rfl, hw4⟩
  have HZ : Hid (StepsAt w1 a1 l1 c1 ss) := hz.below hb1
  have HB : Hid (Below w.heap.size w w1) := hb1
  have hps : PS w1 w4 (w1.heap.size + 2) w3.heap.size R St.none St.none 0 (.slice none 0 0) (.slice none 0 0) (.slice none 0 0) := by
    subst hw4
    have hb4 : Below w3.heap.size w3 (w3.alloc (.cells #[.int .i64 (R : Int), .slice none 0 0, .slice none 0 0, .slice none 0 0] 28)) := (Below.refl _ w3).alloc (Nat.le_refl _) _
    have z2 := hb2.size
    have z3 := hb3.size
    exact ⟨⟨_, (hq2.belowS hb3).belowS hb4, fun k hk => hk⟩, heap_alloc_new _ _, ⟨Own.nil _, Own.nil _, Own.nil _⟩, by omega, ((keep_below hb2).trans ((keep_below hb3).mono (fun k _ hk => by omega))).trans ((keep_below hb4).mono (fun k _ hk => by omega))⟩
  clear hear hear4 hz hb1 hb2 hb3 hq2 hw4 hnew hrn
  generalize w1.heap.size + 2 = g at *
  generalize w3.heap.size = b at *
  go_wp2
  go_loopw [7] (fun v7 wr => ∃ (i : Nat) (s : St) (K : Nat) (v0 v1 v2 : Value), v7 = .int .i64 i ∧ i ≤ n ∧ K ≤ i ∧ PS w1 wr g b R s s K v0 v1 v2) (fun v7 _ => n + 1 - (intOf v7).toNat)
  case atStart => exact ⟨0, _, _, _, _, _, rfl, Nat.zero_le _, Nat.le_refl _, hps⟩
  case round =>
    clear hps
    obtain ⟨i, s, K, v0, v1, v2, rfl, hi, hKi, hps⟩ := hrel
    by_cases hc : i < n
    · obtain ⟨bs, off, rfl, hlt, hs0, hs1, hwf⟩ := HZ.out.rd i (by omega)
      have x0 := hps.keep.cell hs0 hlt
      have x1 := hps.keep.cell hs1 hlt
      generalize ss.getD i s0 = st at x0 x1 hwf
      clear hs0 hs1
      have hkd := kindI_of st.kd
      have hkk := kind_step st.kd st.id
      generalize kindI st.kd = kd at hkd hkk
      have HPS0 : Hid (PS w1 wr g b R s s K v0 v1 v2) := hps
      have hK6 : K ≤ 1000 := by omega
      clear hps
      go_upto_block 2 with (first
        | (go_at_call 12; refine (hkk _).mono ?_; rintro e w4 ⟨rfl, hb4⟩))
      have hps := HPS0.out.same hb4
      clear x0 x1 hb4 hkk HPS0
      generalize st.id = x at *
      go_cut [9, 10, 11, 12, 13, 14, 15, 16, 17, 18, 19, 20, 21, 22] from 47 to 125 (fun s9 _ _ _ _ _ _ _ _ _ _ _ _ _ wx => s9 = .bool true ∧ ∃ (s2 : St) (K2 : Nat) (u0 u1 u2 : Value), K2 ≤ K + 1 ∧ PS w1 wx g b R s2 s2 K2 u0 u1 u2)
      case first =>
        obtain ⟨a0, n0, c0, a1', n1, c1', a2, n2, c2, rfl, rfl, rfl, -⟩ := hps.rv.slices
        have hl8 : s.ids.length ≤ 100 := by
          obtain ⟨_, hq, _⟩ := hps.q
          have := hq.le
          omega
        obtain ⟨p0, p1, p2, p3, -⟩ := blk4 hps.blk
        have HPS := Hid.mk' hps
        clear hps
        rcases hkd with hkd | rfl | rfl | rfl | rfl
        · obtain ⟨E, hE⟩ : ∃ E, makeE R s x = E := ⟨_, rfl⟩
          have HE := Hid.mk' hE
          clear hE
          rcases hkd with rfl | rfl
          all_goals (
            have hrs := rmake_any R x HPS.out.rv hl8
            rw [HE.out] at hrs
            go_wp2_with fail
            refine hrs.mono ?_
            rintro e w5 ⟨u0, u1, u2, rfl, hv5, hb5⟩
            obtain ⟨d0, m0, e0, d1, m1, e1, d2, m2, e2, rfl, rfl, rfl, -⟩ := hv5.slices
            obtain ⟨z6, b6, h7⟩ := HPS.out.next hb5 hv5
            have H7 := Hid.mk' h7
            clear hrs p0 p1 p2 p3 hb5 hv5 h7
            go_upto_region 14 with fail
            generalize w5.alloc (.cells #[.int .i64 (R : Int), .slice d0 m0 e0, .slice d1 m1 e1, .slice d2 m2 e2] 28) = w6 at *
            obtain ⟨z0, z1, z2, z3, -⟩ := blk4 z6
            obtain ⟨y0, y1, y2, y3, -⟩ := blk4 b6
            have f0 := fz4 b6 0
            have f1 := fz4 b6 1
            have f2 := fz4 b6 2
            have f3 := fz4 b6 3
            clear z6 b6
            go_upto_region 15 with fail
            generalize (((w6.setCell ⟨b, 0, none⟩ (.int .i64 (R : Int))).setCell ⟨b, 1, none⟩ (.slice d0 m0 e0)).setCell ⟨b, 2, none⟩ (.slice d1 m1 e1)).setCell ⟨b, 3, none⟩ (.slice d2 m2 e2) = w7 at *
            obtain ⟨A, hqA, -, hup⟩ := H7.out.upg
            have hsw := make_w hqA hwf
            rw [HE.out] at hsw
            have HUP := Hid.mk' hup
            clear z0 z1 z2 z3 y0 y1 y2 y3 f0 f1 f2 f3 hup hqA H7
            go_wp2_with fail
            refine hsw.mono ?_
            rintro e w8 ⟨rfl, hq8, hk8⟩
            have H8 := Hid.mk' (HUP.out _ _ _ hq8 hk8)
            clear hsw hq8 hk8 HUP
            go_wp2_with fail
            go_meet
            exact ⟨by simp, makeS R s x, K, _, _, _, by omega, H8.out⟩)
        · obtain ⟨bM, hbM⟩ : ∃ bM, decide (x ∈ s.M) = bM := ⟨_, rfl⟩
          have HE := Hid.mk' hbM
          clear hbM
          have hrs := rready_any (R : Int) x HPS.out.rv hl8
          rw [HE.out] at hrs
          go_wp2_with fail
          refine hrs.mono ?_
          rintro e w5 ⟨u0, u1, u2, rfl, hv5, hb5⟩
          obtain ⟨d0, m0, e0, d1, m1, e1, d2, m2, e2, rfl, rfl, rfl, -⟩ := hv5.slices
          obtain ⟨z6, b6, h7⟩ := HPS.out.next hb5 hv5
          have H7 := Hid.mk' h7
          clear hrs p0 p1 p2 p3 hb5 hv5 h7
          go_upto_region 18 with fail
          generalize w5.alloc (.cells #[.int .i64 (R : Int), .slice d0 m0 e0, .slice d1 m1 e1, .slice d2 m2 e2] 28) = w6 at *
          obtain ⟨z0, z1, z2, z3, -⟩ := blk4 z6
          obtain ⟨y0, y1, y2, y3, -⟩ := blk4 b6
          have f0 := fz4 b6 0
          have f1 := fz4 b6 1
          have f2 := fz4 b6 2
          have f3 := fz4 b6 3
          clear z6 b6
          go_upto_region 19 with fail
          generalize (((w6.setCell ⟨b, 0, none⟩ (.int .i64 (R : Int))).setCell ⟨b, 1, none⟩ (.slice d0 m0 e0)).setCell ⟨b, 2, none⟩ (.slice d1 m1 e1)).setCell ⟨b, 3, none⟩ (.slice d2 m2 e2) = w7 at *
          obtain ⟨A, hqA, -, hup⟩ := H7.out.upg
          have hsw := ready_w hqA (by omega) hwf
          rw [HE.out] at hsw
          have HUP := Hid.mk' hup
          clear z0 z1 z2 z3 y0 y1 y2 y3 f0 f1 f2 f3 hup hqA H7
          go_wp2_with fail
          refine hsw.mono ?_
          rintro e w8 ⟨rfl, hq8, hk8⟩
          have H8 := Hid.mk' (HUP.out _ _ _ hq8 hk8)
          clear hsw hq8 hk8 HUP
          go_wp2_with fail
          go_meet
          exact ⟨by simp, readyS s x, K + 1, _, _, _, by omega, H8.out⟩
        · obtain ⟨t, ht⟩ : ∃ t, tkI s = t := ⟨_, rfl⟩
          obtain ⟨bt, hbt⟩ : ∃ bt, decide (0 < s.I.length) = bt := ⟨_, rfl⟩
          have HE := Hid.mk' (And.intro ht hbt)
          clear ht hbt
          have hrs := rtake_any (R : Int) HPS.out.rv hl8
          rw [HE.out.1, HE.out.2] at hrs
          go_wp2_with fail
          refine hrs.mono ?_
          rintro e w5 ⟨u0, u1, u2, rfl, hv5, hb5⟩
          obtain ⟨d0, m0, e0, d1, m1, e1, d2, m2, e2, rfl, rfl, rfl, -⟩ := hv5.slices
          obtain ⟨z6, b6, h7⟩ := HPS.out.next hb5 hv5
          have H7 := Hid.mk' h7
          clear hrs p0 p1 p2 p3 hb5 hv5 h7
          go_upto_region 22 with fail
          generalize w5.alloc (.cells #[.int .i64 (R : Int), .slice d0 m0 e0, .slice d1 m1 e1, .slice d2 m2 e2] 28) = w6 at *
          obtain ⟨z0, z1, z2, z3, -⟩ := blk4 z6
          obtain ⟨y0, y1, y2, y3, -⟩ := blk4 b6
          have f0 := fz4 b6 0
          have f1 := fz4 b6 1
          have f2 := fz4 b6 2
          have f3 := fz4 b6 3
          clear z6 b6
          go_upto_region 23 with fail
          generalize (((w6.setCell ⟨b, 0, none⟩ (.int .i64 (R : Int))).setCell ⟨b, 1, none⟩ (.slice d0 m0 e0)).setCell ⟨b, 2, none⟩ (.slice d1 m1 e1)).setCell ⟨b, 3, none⟩ (.slice d2 m2 e2) = w7 at *
          obtain ⟨A, hqA, -, hup⟩ := H7.out.upg
          have hsw := take_w hqA
          rw [HE.out.1, HE.out.2] at hsw
          have HUP := Hid.mk' hup
          clear z0 z1 z2 z3 y0 y1 y2 y3 f0 f1 f2 f3 hup hqA H7
          go_wp2_with fail
          refine hsw.mono ?_
          rintro e w8 ⟨rfl, hq8, hk8⟩
          have H8 := Hid.mk' (HUP.out _ _ _ hq8 hk8)
          clear hsw hq8 hk8 HUP
          go_wp2_with fail
          go_meet
          exact ⟨by simp, takeS s, K, _, _, _, by omega, H8.out⟩
        · obtain ⟨bM, hbM⟩ : ∃ bM, decide (x ∈ s.B) = bM := ⟨_, rfl⟩
          have HE := Hid.mk' hbM
          clear hbM
          have hrs := rgive_any (R : Int) x HPS.out.rv hl8
          rw [HE.out] at hrs
          go_wp2_with fail
          refine hrs.mono ?_
          rintro e w5 ⟨u0, u1, u2, rfl, hv5, hb5⟩
          obtain ⟨d0, m0, e0, d1, m1, e1, d2, m2, e2, rfl, rfl, rfl, -⟩ := hv5.slices
          obtain ⟨z6, b6, h7⟩ := HPS.out.next hb5 hv5
          have H7 := Hid.mk' h7
          clear hrs p0 p1 p2 p3 hb5 hv5 h7
          go_upto_region 27 with fail
          generalize w5.alloc (.cells #[.int .i64 (R : Int), .slice d0 m0 e0, .slice d1 m1 e1, .slice d2 m2 e2] 28) = w6 at *
          obtain ⟨z0, z1, z2, z3, -⟩ := blk4 z6
          obtain ⟨y0, y1, y2, y3, -⟩ := blk4 b6
          have f0 := fz4 b6 0
          have f1 := fz4 b6 1
          have f2 := fz4 b6 2
          have f3 := fz4 b6 3
          clear z6 b6
          go_upto_region 28 with fail
          generalize (((w6.setCell ⟨b, 0, none⟩ (.int .i64 (R : Int))).setCell ⟨b, 1, none⟩ (.slice d0 m0 e0)).setCell ⟨b, 2, none⟩ (.slice d1 m1 e1)).setCell ⟨b, 3, none⟩ (.slice d2 m2 e2) = w7 at *
          obtain ⟨A, hqA, -, hup⟩ := H7.out.upg
          have hsw := give_w hqA (by omega) hwf
          rw [HE.out] at hsw
          have HUP := Hid.mk' hup
          clear z0 z1 z2 z3 y0 y1 y2 y3 f0 f1 f2 f3 hup hqA H7
          go_wp2_with fail
          refine hsw.mono ?_
          rintro e w8 ⟨rfl, hq8, hk8⟩
          have H8 := Hid.mk' (HUP.out _ _ _ hq8 hk8)
          clear hsw hq8 hk8 HUP
          go_wp2_with fail
          go_meet
          exact ⟨by simp, giveS s x, K + 1, _, _, _, by omega, H8.out⟩
        · obtain ⟨bM, hbM⟩ : ∃ bM, decide (x ∈ s.ids) = bM := ⟨_, rfl⟩
          have HE := Hid.mk' hbM
          clear hbM
          have hrs := rdrop_any (R : Int) x HPS.out.rv hl8 bM HE.out
          go_wp2_with fail
          refine hrs.mono ?_
          rintro e w5 ⟨u0, u1, u2, rfl, hv5, hb5⟩
          obtain ⟨d0, m0, e0, d1, m1, e1, d2, m2, e2, rfl, rfl, rfl, -⟩ := hv5.slices
          obtain ⟨z6, b6, h7⟩ := HPS.out.next hb5 hv5
          have H7 := Hid.mk' h7
          clear hrs p0 p1 p2 p3 hb5 hv5 h7
          go_upto_region 31 with fail
          generalize w5.alloc (.cells #[.int .i64 (R : Int), .slice d0 m0 e0, .slice d1 m1 e1, .slice d2 m2 e2] 28) = w6 at *
          obtain ⟨z0, z1, z2, z3, -⟩ := blk4 z6
          obtain ⟨y0, y1, y2, y3, -⟩ := blk4 b6
          have f0 := fz4 b6 0
          have f1 := fz4 b6 1
          have f2 := fz4 b6 2
          have f3 := fz4 b6 3
          clear z6 b6
          go_upto_region 32 with fail
          generalize (((w6.setCell ⟨b, 0, none⟩ (.int .i64 (R : Int))).setCell ⟨b, 1, none⟩ (.slice d0 m0 e0)).setCell ⟨b, 2, none⟩ (.slice d1 m1 e1)).setCell ⟨b, 3, none⟩ (.slice d2 m2 e2) = w7 at *
          obtain ⟨A, hqA, -, hup⟩ := H7.out.upg
          have hsw := drop_b hqA hwf bM HE.out
          have HUP := Hid.mk' hup
          clear z0 z1 z2 z3 y0 y1 y2 y3 f0 f1 f2 f3 hup hqA H7
          go_wp2_with fail
          refine hsw.mono ?_
          rintro e w8 ⟨rfl, hq8, hk8⟩
          have H8 := Hid.mk' (HUP.out _ _ _ hq8 hk8)
          clear hsw hq8 hk8 HUP
          go_wp2_with fail
          go_meet
          exact ⟨by simp, dr s x, K, _, _, _, by omega, H8.out⟩
      case rest =>
        clear hps
        obtain ⟨rfl, s2, K2, v0, v1, v2, hK2, hps⟩ := hcut
        obtain ⟨a0, n0, c0, a1', n1, c1', a2, n2, c2, rfl, rfl, rfl, hn0, hn1, hn2⟩ := hps.rv.slices
        have hle : s2.ids.length ≤ R := by
          obtain ⟨_, hq, _⟩ := hps.q
          exact hq.le
        have h3 : s2.ids.length = n0 + n1 + n2 := by simp [St.ids]; omega
        obtain ⟨nA, hA⟩ : ∃ nA, s2.ids.length = nA := ⟨_, rfl⟩
        obtain ⟨d, hd⟩ : ∃ d, R - s2.ids.length = d := ⟨_, rfl⟩
        have hdi : (R : Int) - (nA : Int) = (d : Int) := by omega
        have h8 : nA ≤ 8 := by omega
        have hd8 : d ≤ 8 := by omega
        have hwd : IntKind.i64.wrap (d : Int) = d := by
          simp [IntKind.wrap, IntKind.signed, IntKind.bits]
          omega
        have j0 : n0 ≤ 100 := by omega
        have j2 : n2 ≤ 100 := by omega
        obtain ⟨bA, hbA⟩ : ∃ bA, decide (x ∈ s2.ids) = bA := ⟨_, rfl⟩
        have hbA := Hid.mk' hbA
        have hlp : LP w1 wc g b R s2 K2 (.slice a0 n0 c0) (.slice a1' n1 c1') (.slice a2 n2 c2) wc := ⟨hps, Below.refl _ _⟩
        have hS := lp_step hlp (Below.refl _ _).drew
        clear hle h3 hps hlp
        go_upto_region 33 with fail
        go_region_held3 (fun w' => w'.cell? ⟨b, 0, none⟩ = some (.int .i64 (R : Int)) ∧ w'.cell? ⟨b, 1, none⟩ = some (.slice a0 n0 c0) ∧ w'.cell? ⟨b, 2, none⟩ = some (.slice a1' n1 c1') ∧ w'.cell? ⟨b, 3, none⟩ = some (.slice a2 n2 c2) ∧ LP w1 wc g b R s2 K2 (.slice a0 n0 c0) (.slice a1' n1 c1') (.slice a2 n2 c2) w')
          (first | assumption | exact lp_step (lp_of (by assumption)) hbx | go_keep)
          (first
            | (go_at_call 23; refine (LP.len (w1 := w1) (wx := wc) (g := g) (b := b) (R := R) (K := K2) (s := s2) (v0 := .slice a0 n0 c0) (v1 := .slice a1' n1 c1') (v2 := .slice a2 n2 c2) ?_ nA hA).mono ?_; (refine lp_of ?_; assumption); rintro e w23 ⟨rfl, rfl⟩)
            | (go_at_call 24; refine (LP.rlen (w1 := w1) (wx := wc) (g := g) (b := b) (R := R) (K := K2) (s := s2) (v0 := .slice a0 n0 c0) (v1 := .slice a1' n1 c1') (v2 := .slice a2 n2 c2) ?_ nA hA h8).mono ?_; (refine lp_of ?_; assumption); rintro e w24 ⟨rfl, hbx⟩)
            | (go_at_call 25; refine (LP.room (w1 := w1) (wx := wc) (g := g) (b := b) (R := R) (K := K2) (s := s2) (v0 := .slice a0 n0 c0) (v1 := .slice a1' n1 c1') (v2 := .slice a2 n2 c2) ?_ d hd).mono ?_; (refine lp_of ?_; assumption); rintro e w25 ⟨rfl, rfl⟩)
            | (go_at_call 26; refine (LP.is (w1 := w1) (wx := wc) (g := g) (b := b) (R := R) (K := K2) (s := s2) (v0 := .slice a0 n0 c0) (v1 := .slice a1' n1 c1') (v2 := .slice a2 n2 c2) ?_ x hwf bA hbA.out).mono ?_; (refine lp_of ?_; assumption); rintro e w26 ⟨rfl, hbx⟩)
            | (go_at_call 27; refine (LP.ris (w1 := w1) (wx := wc) (g := g) (b := b) (R := R) (K := K2) (s := s2) (v0 := .slice a0 n0 c0) (v1 := .slice a1' n1 c1') (v2 := .slice a2 n2 c2) ?_ x bA hbA.out).mono ?_; (refine lp_of ?_; assumption); rintro e w27 ⟨rfl, hbx⟩))
        have hL1 : w27.cell? ⟨b, 0, none⟩ = some (.int .i64 (R : Int)) ∧ w27.cell? ⟨b, 1, none⟩ = some (.slice a0 n0 c0) ∧ w27.cell? ⟨b, 2, none⟩ = some (.slice a1' n1 c1') ∧ w27.cell? ⟨b, 3, none⟩ = some (.slice a2 n2 c2) ∧ LP w1 wc g b R s2 K2 (.slice a0 n0 c0) (.slice a1' n1 c1') (.slice a2 n2 c2) w27 := by assumption
        have hS1 := lp_step (lp_of hL1) (Below.refl _ _).drew
        clear hS hL1 hbx hdi hwd hd hd8
        go_wp2_with fail
        go_region_held3 (fun w' => w'.cell? ⟨b, 0, none⟩ = some (.int .i64 (R : Int)) ∧ w'.cell? ⟨b, 1, none⟩ = some (.slice a0 n0 c0) ∧ w'.cell? ⟨b, 2, none⟩ = some (.slice a1' n1 c1') ∧ w'.cell? ⟨b, 3, none⟩ = some (.slice a2 n2 c2) ∧ LP w1 wc g b R s2 K2 (.slice a0 n0 c0) (.slice a1' n1 c1') (.slice a2 n2 c2) w')
          (first | assumption | exact lp_step (lp_of (by assumption)) hbx | go_keep)
          (first
            | (go_at_call 29; refine (LP.making (w1 := w1) (wx := wc) (g := g) (b := b) (R := R) (K := K2) (s := s2) (v0 := .slice a0 n0 c0) (v1 := .slice a1' n1 c1') (v2 := .slice a2 n2 c2) ?_ n0 hn0).mono ?_; (refine lp_of ?_; assumption); rintro e w29 ⟨a29, c29, rfl, i29, hbx⟩)
            | (go_at_call 30; refine (LP.sortM (n0 := n0) (a0 := a0) (c0 := c0) (w1 := w1) (wx := wc) (g := g) (b := b) (R := R) (K := K2) (s := s2) (v1 := .slice a1' n1 c1') (v2 := .slice a2 n2 c2) ?_ hn0 j0).mono ?_; (refine lp_of ?_; assumption); rintro e w30 ⟨a30, c30, rfl, i30, hbx⟩; have i29 := i29.below hbx; clear j0)
            | (go_at_call 28; refine (same_b a29 a30 n0 c29 c30 (srt s2.M) _ i29 i30).mono ?_; rintro e w28 ⟨rfl, hbx⟩; clear i29 i30)
            | (go_at_call 31; refine (LP.idle (w1 := w1) (wx := wc) (g := g) (b := b) (R := R) (K := K2) (s := s2) (v0 := .slice a0 n0 c0) (v1 := .slice a1' n1 c1') (v2 := .slice a2 n2 c2) ?_ n1 hn1).mono ?_; (refine lp_of ?_; assumption); rintro e w31 ⟨a31, c31, rfl, i31, hbx⟩)
            | (go_at_call 28; refine (LP.sameI (n1 := n1) (a1 := a1') (c1 := c1') (w1 := w1) (wx := wc) (g := g) (b := b) (R := R) (K := K2) (s := s2) (v0 := .slice a0 n0 c0) (v2 := .slice a2 n2 c2) ?_ hn1 i31).mono ?_; (refine lp_of ?_; assumption); rintro e w38 ⟨rfl, hbx⟩; clear i31)
            | (go_at_call 32; refine (LP.busy (w1 := w1) (wx := wc) (g := g) (b := b) (R := R) (K := K2) (s := s2) (v0 := .slice a0 n0 c0) (v1 := .slice a1' n1 c1') (v2 := .slice a2 n2 c2) ?_ n2 hn2).mono ?_; (refine lp_of ?_; assumption); rintro e w32 ⟨a32, c32, rfl, i32, hbx⟩)
            | (go_at_call 30; refine (LP.sortB (n2 := n2) (a2 := a2) (c2 := c2) (w1 := w1) (wx := wc) (g := g) (b := b) (R := R) (K := K2) (s := s2) (v0 := .slice a0 n0 c0) (v1 := .slice a1' n1 c1') ?_ hn2 j2).mono ?_; (refine lp_of ?_; assumption); rintro e w39 ⟨a39, c39, rfl, i39, hbx⟩; have i32 := i32.below hbx)
            | (go_at_call 28; refine (same_b a32 a39 n2 c32 c39 (srt s2.B) _ i32 i39).mono ?_; rintro e w48 ⟨rfl, hbx⟩; clear i32 i39)
            | (go_at_call 33; refine (LP.all (w1 := w1) (wx := wc) (g := g) (b := b) (R := R) (K := K2) (s := s2) (v0 := .slice a0 n0 c0) (v1 := .slice a1' n1 c1') (v2 := .slice a2 n2 c2) ?_ nA hA).mono ?_; (refine lp_of ?_; assumption); rintro e w33 ⟨a33, c33, rfl, i33, hbx⟩)
            | (go_at_call 34; refine (LP.rall (w1 := w1) (wx := wc) (g := g) (b := b) (R := R) (K := K2) (s := s2) (v0 := .slice a0 n0 c0) (v1 := .slice a1' n1 c1') (v2 := .slice a2 n2 c2) ?_ nA hA h8).mono ?_; (refine lp_of ?_; assumption); rintro e w34 ⟨a34, c34, rfl, i34, hbx⟩; have i33 := i33.below hbx)
            | (go_at_call 28; refine (same_b a33 a34 nA c33 c34 (srt s2.ids) _ i33 i34).mono ?_; rintro e w58 ⟨rfl, hbx⟩))
        have hL2 : w58.cell? ⟨b, 0, none⟩ = some (.int .i64 (R : Int)) ∧ w58.cell? ⟨b, 1, none⟩ = some (.slice a0 n0 c0) ∧ w58.cell? ⟨b, 2, none⟩ = some (.slice a1' n1 c1') ∧ w58.cell? ⟨b, 3, none⟩ = some (.slice a2 n2 c2) ∧ LP w1 wc g b R s2 K2 (.slice a0 n0 c0) (.slice a1' n1 c1') (.slice a2 n2 c2) w58 := by assumption
        have H2 : Hid (LP w1 wc g b R s2 K2 (.slice a0 n0 c0) (.slice a1' n1 c1') (.slice a2 n2 c2) w58) := lp_of hL2
        clear hL2 hS1 hbx
        go_wp2_with fail
        exact ⟨⟨i + 1, s2, K2, _, _, _, by simp, by omega, by omega, H2.out.ps⟩, by simp [intOf]; omega⟩
    · have HE : Hid (Below w.heap.size w wr) := below_trans HB.out (hps.keep.below (Nat.le_refl _) (fun _ h => h))
      clear hps
      go_wp2
      go_ret
      exact ⟨rfl, HE.out⟩

end Go.Proofs.Ytedbiaopbfejfaa
