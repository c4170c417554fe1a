/-
  PoolOne's walk: each connection is just one of the three, and never are there more than there is room for: it returns true and turns nothing that was there. Conditions: the steps lie where they are said to lie.
-/
import Derived.Test.YtedbiaopbfejfaaOneP
import Derived.Deep.CutRange
import Derived.Deep.CutBlock
namespace Go.Proofs.Ytedbiaopbfejfaa
open Go.ChangeShapes Go.WideShapes Go.ChangeAt Go.RowKit

set_option maxHeartbeats 4000000 in
set_option maxRecDepth 100000 in
theorem one_walk (rm : Int) (a1 : Option Addr) (l1 c1 : Nat) (ss : List Stp) (w : World) (hz : StepsAt w a1 l1 c1 ss) :
    Calls Try.prog 4 #[.int .i64 rm, .slice a1 l1 c1] w fun e w' => e = .returned (.bool true) ∧ Below w.heap.size w w' := by
  have q1 := hz.hle
  have q2 := hz.hcap
  have hub := um_bd 8 rm (by decide) (by decide)
  obtain ⟨R, hu⟩ : ∃ R : Nat, 1 + wrap64 ((IntKind.u64.wrap rm).tmod 8) = (R : Int) := ⟨(1 + wrap64 ((IntKind.u64.wrap rm).tmod 8)).toNat, by omega⟩
  have hR8 : R ≤ 8 := by omega
  have hR1 : 1 ≤ R := by omega
  obtain ⟨n, hn⟩ : ∃ n, min l1 100 = n := ⟨_, rfl⟩
  have hear := early_any a1 l1 c1 n q1 hn
  unfold maxLen at q2
  go_enter Try.func4, Try.ntmps4
  go_wp2_with fail
  refine (lives_any _).mono ?_
  rintro e w1 ⟨rfl, hb1⟩
  go_wp2_with fail
  refine (new_any (R : Int) w1).mono ?_
  rintro e w2 ⟨rfl, hq2, hb2⟩
  rw [roomN_nat hR1 hR8] at hq2
  have hk12 : Keep (fun k => k < w1.heap.size) w1 w2 := keep_below hb2
  have HZ : Hid (StepsAt w1 a1 l1 c1 ss) := hz.below hb1
  have HB : Hid (Below w.heap.size w w1) := hb1
  clear hz hb1 hb2 hub hu
  generalize hg : w1.heap.size + 2 = g at *
  go_wp2_with fail
  refine (hear _).mono ?_
  rintro e w3 ⟨rfl, hw3⟩
  subst w3
  go_wp2
  go_loopw [6] (fun v6 wr => ∃ (i : Nat) (s : St) (K : Nat), v6 = .int .i64 i ∧ i ≤ n ∧ K ≤ i ∧ PAt wr (fun k => k < w1.heap.size) g R s K ∧ Keep (fun k => k < w1.heap.size) w1 wr) (fun v6 _ => n + 1 - (intOf v6).toNat)
  case atStart => exact ⟨0, St.none, 0, rfl, Nat.zero_le _, Nat.le_refl _, hq2, hk12⟩
  case round =>
    clear hq2 hk12
    obtain ⟨i, s, K, rfl, hi, hKi, hq, hkr⟩ := hrel
    by_cases hc : i < n
    · obtain ⟨b, off, rfl, hlt, hs0, hs1, hwf⟩ := HZ.out.rd i (by omega)
      have x0 := hkr.cell hs0 hlt
      have x1 := hkr.cell hs1 hlt
      generalize ss.getD i s0 = st at x0 x1 hwf
      clear hs0 hs1
      have hkd := kindI_of st.kd
      have hkk := kind_step st.kd st.id
      generalize kindI st.kd = kd at hkd hkk
      have HQ0 : Hid (PAt wr (fun k => k < w1.heap.size) g R s K) := hq
      have HK0 : Hid (Keep (fun k => k < w1.heap.size) w1 wr) := hkr
      have hK6 : K ≤ 1000 := by omega
      clear hq hkr
      go_upto_block 2 with (first
        | (go_at_call 12; refine (hkk _).mono ?_; rintro e w4 ⟨rfl, hb4⟩))
      have HQ : Hid (PAt w4 (fun k => k < w1.heap.size) g R s K) := HQ0.out.belowS hb4
      have HK : Hid (Keep (fun k => k < w1.heap.size) w1 w4) := HK0.out.trans (keep_below hb4)
      clear x0 x1 hb4 hkk HQ0 HK0
      generalize st.id = x at *
      go_cut [8, 9, 10] from 42 to 91 (fun _ _ _ wx => ∃ (s2 : St) (K2 : Nat), K2 ≤ K + 1 ∧ PAt wx (fun k => k < w1.heap.size) g R s2 K2 ∧ Keep (fun k => k < w1.heap.size) w1 wx)
      case first =>
        rcases hkd with hkd | rfl | rfl | rfl | rfl
        · have HIS : Hid (∀ w5, w5 = w4 → ∀ b, decide (x ∈ s.ids) = b → Calls Try.prog 26 #[.pointer (some ⟨g, 0, none⟩), .int .i64 x] w5 fun e w' => e = .returned (.bool b) ∧ Below w5.heap.size w5 w') := fun w5 e b hb => e ▸ is_w HQ.out x hwf b hb
          by_cases hx : x ∈ s.ids
          · obtain ⟨m, hm⟩ : ∃ m, R - s.ids.length = m := ⟨_, rfl⟩
            have hr := room_w HQ.out m hm
            have hIs := HIS.out w4 rfl true (decide_eq_true hx)
            have HMK : Hid (∀ w5, Below w4.heap.size w4 w5 → _) := fun w5 hb => make_there (HQ.out.belowS hb) hwf hx
            clear HIS hm
            rcases hkd with rfl | rfl
            all_goals (
              go_wp2_with (first
                | (go_at_call 25; refine hr.mono ?_; rintro e w' ⟨rfl, hw'⟩; subst w')
                | (go_at_call 26; refine hIs.mono ?_; rintro e w5 ⟨rfl, hb5⟩; have hmk := HMK.out w5 hb5)
                | (go_at_call 14; refine hmk.mono ?_; rintro e w6 ⟨rfl, hq6, hk6⟩))
              go_meet
              exact ⟨s, K, by omega, hq6, (HK.out.trans (keep_below hb5)).trans hk6⟩)
          · have hIs := HIS.out w4 rfl false (decide_eq_false hx)
            by_cases hf : R ≤ s.ids.length
            · have hr := room_w HQ.out 0 (by omega)
              have HMK : Hid (∀ w5, Below w4.heap.size w4 w5 → _) := fun w5 hb => make_full (HQ.out.belowS hb) hwf hx hf
              clear HIS
              rcases hkd with rfl | rfl
              all_goals (
                go_wp2_with (first
                  | (go_at_call 25; refine hr.mono ?_; rintro e w' ⟨rfl, hw'⟩; subst w')
                  | (go_at_call 26; refine hIs.mono ?_; rintro e w5 ⟨rfl, hb5⟩; have hmk := HMK.out w5 hb5)
                  | (go_at_call 14; refine hmk.mono ?_; rintro e w6 ⟨rfl, hq6, hk6⟩))
                go_meet
                exact ⟨s, K, by omega, hq6, (HK.out.trans (keep_below hb5)).trans hk6⟩)
            · obtain ⟨m, hm⟩ : ∃ m, R - s.ids.length = m + 1 := ⟨R - s.ids.length - 1, by omega⟩
              have hr := room_w HQ.out (m + 1) hm
              have hmb : (((m + 1 : Nat) : Int) == 0) = false := by rw [beq_eq_false_iff_ne]; omega
              have HMK : Hid (∀ w5, Below w4.heap.size w4 w5 → _) := fun w5 hb => make_ok (HQ.out.belowS hb) hwf hx hf
              clear HIS hm
              rcases hkd with rfl | rfl
              all_goals (
                go_wp2_with (first
                  | (go_at_call 25; refine hr.mono ?_; rintro e w' ⟨rfl, hw'⟩; subst w')
                  | (go_at_call 26; refine hIs.mono ?_; rintro e w5 ⟨rfl, hb5⟩; have hmk := HMK.out w5 hb5)
                  | (go_at_call 14; refine hmk.mono ?_; rintro e w6 ⟨rfl, hq6, hk6⟩))
                go_meet
                exact ⟨mkS s x, K, by omega, hq6, (HK.out.trans (keep_below hb5)).trans hk6⟩)
        · have hm := ready_w HQ.out (by omega) hwf
          go_wp2_with (first | (go_at_call 16; refine hm.mono ?_; rintro e w5 ⟨rfl, hq5, hk5⟩))
          go_meet
          exact ⟨_, K + 1, by omega, hq5, HK.out.trans hk5⟩
        · have hm := take_w HQ.out
          go_wp2_with (first | (go_at_call 18; refine hm.mono ?_; rintro e w5 ⟨rfl, hq5, hk5⟩))
          go_meet
          exact ⟨_, K, by omega, hq5, HK.out.trans hk5⟩
        · have hm := give_w HQ.out (by omega) hwf
          go_wp2_with (first | (go_at_call 20; refine hm.mono ?_; rintro e w5 ⟨rfl, hq5, hk5⟩))
          go_meet
          exact ⟨_, K + 1, by omega, hq5, HK.out.trans hk5⟩
        · by_cases hx : x ∈ s.ids
          · have hd := drop_b HQ.out hwf true (decide_eq_true hx)
            go_wp2_with (first
              | (go_at_call 22; refine hd.mono ?_; rintro e w5 ⟨rfl, hq5, hk5⟩; have hIs := is_w hq5 x hwf false (decide_eq_false (not_there s x)))
              | (go_at_call 26; refine hIs.mono ?_; rintro e w6 ⟨rfl, hb6⟩))
            go_meet
            exact ⟨_, K, by omega, hq5.belowS hb6, (HK.out.trans hk5).trans (keep_below hb6)⟩
          · have hd := drop_b HQ.out hwf false (decide_eq_false hx)
            go_wp2_with (first | (go_at_call 22; refine hd.mono ?_; rintro e w5 ⟨rfl, hq5, hk5⟩))
            go_meet
            exact ⟨_, K, by omega, hq5, HK.out.trans hk5⟩
      case rest =>
        obtain ⟨s2, K2, hK2, hq5, hk5⟩ := hcut
        have hle8 := hq5.le
        obtain ⟨zA, hzA⟩ : ∃ zA, srt s2.ids = zA := ⟨_, rfl⟩
        obtain ⟨nA, hnA⟩ : ∃ nA, zA.length = nA := ⟨_, rfl⟩
        obtain ⟨nM, hnM⟩ : ∃ nM, (srt s2.M).length = nM := ⟨_, rfl⟩
        obtain ⟨nI, hnI⟩ : ∃ nI, s2.I.length = nI := ⟨_, rfl⟩
        obtain ⟨nB, hnB⟩ : ∃ nB, (srt s2.B).length = nB := ⟨_, rfl⟩
        have h3 := three_len s2
        have hid : (srt s2.ids).length = s2.ids.length := srt_length _
        rw [hnM, hnI, hnB] at h3
        rw [hzA, hnA] at h3 hid
        have hRA : R - s2.ids.length = R - nA := by rw [hid]
        have ha := all_n hq5 zA hzA hnA
        have HQ5 := Hid.mk' hq5
        have HK5 := Hid.mk' hk5
        have HNS := Hid.mk' (And.intro hnM (And.intro hnI hnB))
        have HZA := Hid.mk' (And.intro hzA hnA)
        have HRA := Hid.mk' hRA
        have hAR : nA ≤ R := by omega
        clear hq5 hk5 hzA hnA hnM hnI hnB hRA hid hle8
        go_upto_region 27 with (first | (go_at_call 33; refine ha.mono ?_; rintro e wA ⟨aA, cA, rfl, hlA, hbA⟩))
        have hqA := HQ5.out.belowS hbA
        have HKA : Hid (Keep (fun k => k < w1.heap.size) w1 wA) := HK5.out.trans (keep_below hbA)
        have hmk := making_n hqA (srt s2.M) rfl HNS.out.1
        have HQA := Hid.mk' hqA
        have HLA := Hid.mk' hlA
        clear ha hbA HQ5 HK5 hqA hlA
        go_upto_region 28 with (first
          | (go_at_call 29; refine hmk.mono ?_; rintro e w7 ⟨a7, c7, rfl, -, hb7⟩; have hid8 := idle_n (HQA.out.belowS hb7) s2.I rfl HNS.out.2.1)
          | (go_at_call 31; refine hid8.mono ?_; rintro e w8 ⟨a8, c8, rfl, -, hb8⟩; have hbA8 := below_trans hb7 hb8; have hby9 := busy_n (HQA.out.belowS hbA8) (srt s2.B) rfl HNS.out.2.2)
          | (go_at_call 32; refine hby9.mono ?_; rintro e w9 ⟨a9, c9, rfl, -, hb9⟩))
        have hbA9 := below_trans hbA8 hb9
        obtain ⟨r9, hr9e⟩ : ∃ r9, R - nA = r9 := ⟨_, rfl⟩
        have hr9 := room_w (HQA.out.belowS hbA9) r9 (HRA.out.trans hr9e)
        have hsub : ((r9 : Int) != (R : Int) - ((nM : Int) + (nI : Int) + (nB : Int))) = false := by rw [bne_eq_false_iff_eq]; omega
        clear hr9e
        clear hmk hid8 hby9 hb7 hb8 hb9 hbA8
        go_upto_region 30 with (first | (go_at_call 25; refine hr9.mono ?_; rintro e w' ⟨rfl, hw'⟩; subst w'))
        have HBA := Hid.mk' hbA9
        clear hr9 hsub hbA9
        rw [h3] at hAR
        have HZ3 : Hid (zA.length = nM + nI + nB) := Hid.mk' (HZA.out.2.trans h3)
        clear h3 hAR
        generalize nM + nI + nB = nL at *
        go_wp2
        go_loopw [13, 14] (fun v13 _ wr => ∃ j : Nat, v13 = .int .i64 j ∧ j ≤ nL ∧ Below wA.heap.size wA wr) (fun v13 _ _ => nL + 1 - (intOf v13).toNat)
        case atStart => exact ⟨0, rfl, Nat.zero_le _, HBA.out⟩
        case round =>
          clear HBA
          obtain ⟨j, rfl, hj, hbl⟩ := hrel
          have hrd := HLA.out.rdn HZ3.out
          by_cases hjl : j < nL
          · have hle := hrd.hle
            have hcp := hrd.hcap
            unfold maxLen at hcp
            obtain ⟨bA, oA, rfl, hbA, hcA⟩ := hrd.at_ j hjl
            have hc := (hbl.cell (p := ⟨bA, oA + j, none⟩) hbA).trans hcA
            have hmem : zA.getD j 0 ∈ srt s2.ids := by
              rw [HZA.out.1]
              have := HZ3.out
              simp [List.getD, show j < zA.length by omega]
            have hwfy : Wf (zA.getD j 0) := HQA.out.q.inv.choose_spec.wf _ (mem_srt.1 hmem)
            have HIN : Hid (decide (zA.getD j 0 ∈ s2.ids) = true) := Hid.mk' (decide_eq_true (mem_srt.1 hmem))
            have hone := just_one HQA.out hmem
            generalize zA.getD j 0 = y at *
            have HWF := Hid.mk' hwfy
            have HBL := Hid.mk' hbl
            have hS : wr.drew.cell? ⟨bA, oA + j, none⟩ = some (.int .i64 y) ∧ LO wA (fun k => k < w1.heap.size) g R K2 s2 bA (oA + j) y wr.drew := ⟨hc, hc, (HQA.out.belowS hbl).drewN 1, hbl.drew, hbA⟩
            clear hcA hc hmem hwfy hbl hrd hbA
            rcases hone with ⟨hM, hI, hB⟩ | ⟨hM, hI, hB⟩ | ⟨hM, hI, hB⟩
            all_goals (
              have HM := Hid.mk' hM
              have HI := Hid.mk' hI
              have HBB := Hid.mk' hB
              clear hM hI hB
              go_wp2_with fail
              go_region_held (fun w' => w'.cell? ⟨bA, oA + j, none⟩ = some (.int .i64 y) ∧ LO wA (fun k => k < w1.heap.size) g R K2 s2 bA (oA + j) y w')
                (first | assumption | exact lo_step (by assumption) hbx | go_keep)
                (first
                  | (go_at_call 29; refine (making_n (A := fun k => k < w1.heap.size) (R := R) (K := K2) (s := s2) ?_ (srt s2.M) rfl HNS.out.1).mono ?_; (refine lo_pat (wA := wA) (b := bA) (o := oA + j) (y := y) ?_; assumption); rintro e w12 ⟨am, cm, rfl, hlm, hbx⟩)
                  | (go_at_call 35; refine (has_any _ am nM cm (srt s2.M) y (hlm.rdn HNS.out.1) _ HM.out).mono ?_; rintro e w13 ⟨rfl, rfl⟩))
              have hL1 : w13.cell? ⟨bA, oA + j, none⟩ = some (.int .i64 y) ∧ LO wA (fun k => k < w1.heap.size) g R K2 s2 bA (oA + j) y w13 := by assumption
              have hS1 : w13.drew.cell? ⟨bA, oA + j, none⟩ = some (.int .i64 y) ∧ LO wA (fun k => k < w1.heap.size) g R K2 s2 bA (oA + j) y w13.drew := lo_step hL1 (Below.refl _ _).drew
              clear hL1 hlm hbx
              go_wp2_with fail
              go_region_held (fun w' => w'.cell? ⟨bA, oA + j, none⟩ = some (.int .i64 y) ∧ LO wA (fun k => k < w1.heap.size) g R K2 s2 bA (oA + j) y w')
                (first | assumption | exact lo_step (by assumption) hby | go_keep)
                (first
                  | (go_at_call 31; refine (idle_n (A := fun k => k < w1.heap.size) (R := R) (K := K2) (s := s2) ?_ s2.I rfl HNS.out.2.1).mono ?_; (refine lo_pat (wA := wA) (b := bA) (o := oA + j) (y := y) ?_; assumption); rintro e w14 ⟨ai, ci, rfl, hli, hby⟩)
                  | (go_at_call 35; refine (has_any _ ai nI ci s2.I y (hli.rdn HNS.out.2.1) _ HI.out).mono ?_; rintro e w15 ⟨rfl, rfl⟩))
              have hL2 : w15.cell? ⟨bA, oA + j, none⟩ = some (.int .i64 y) ∧ LO wA (fun k => k < w1.heap.size) g R K2 s2 bA (oA + j) y w15 := by assumption
              have hS2 : w15.drew.cell? ⟨bA, oA + j, none⟩ = some (.int .i64 y) ∧ LO wA (fun k => k < w1.heap.size) g R K2 s2 bA (oA + j) y w15.drew := lo_step hL2 (Below.refl _ _).drew
              clear hL2 hli hby
              go_wp2_with fail
              go_region_held (fun w' => w'.cell? ⟨bA, oA + j, none⟩ = some (.int .i64 y) ∧ LO wA (fun k => k < w1.heap.size) g R K2 s2 bA (oA + j) y w')
                (first | assumption | exact lo_step (by assumption) hbz | go_keep)
                (first
                  | (go_at_call 32; refine (busy_n (A := fun k => k < w1.heap.size) (R := R) (K := K2) (s := s2) ?_ (srt s2.B) rfl HNS.out.2.2).mono ?_; (refine lo_pat (wA := wA) (b := bA) (o := oA + j) (y := y) ?_; assumption); rintro e w16 ⟨ab, cb, rfl, hlb, hbz⟩)
                  | (go_at_call 35; refine (has_any _ ab nB cb (srt s2.B) y (hlb.rdn HNS.out.2.2) _ HBB.out).mono ?_; rintro e w17 ⟨rfl, rfl⟩))
              have hL3 : w17.cell? ⟨bA, oA + j, none⟩ = some (.int .i64 y) ∧ LO wA (fun k => k < w1.heap.size) g R K2 s2 bA (oA + j) y w17 := by assumption
              have hc3 := hL3.1
              have hIs := is_w (lo_pat hL3) y HWF.out true HIN.out
              have HB3 : Hid (Below wA.heap.size wA w17) := hL3.2.2.2.1
              clear hL3 hlb hbz
              go_wp2_with (first | (go_at_call 26; refine hIs.mono ?_; rintro e w18 ⟨rfl, hb18⟩))
              exact ⟨⟨j + 1, by simp, by omega, below_trans HB3.out hb18⟩, by simp [intOf]; omega⟩)
          · have HQE : Hid (PAt wr (fun k => k < w1.heap.size) g R s2 K2 ∧ Keep (fun k => k < w1.heap.size) w1 wr) := ⟨HQA.out.belowS hbl, HKA.out.trans (keep_below hbl)⟩
            clear hrd hbl
            go_wp2
            exact ⟨⟨i + 1, s2, K2, by simp, by omega, by omega, HQE.out.1, HQE.out.2⟩, by simp [intOf]; omega⟩
    · have HE : Hid (Below w.heap.size w wr) := below_trans HB.out (hkr.below (Nat.le_refl _) (fun _ h => h))
      clear hq hkr
      go_wp2
      go_ret
      exact ⟨rfl, HE.out⟩

end Go.Proofs.Ytedbiaopbfejfaa
