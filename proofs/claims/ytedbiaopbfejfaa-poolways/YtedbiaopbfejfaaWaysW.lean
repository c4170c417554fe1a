/-
  PoolWays's walk: one that is given back is as it was ahead of being taken; one that is dropped leaves all others in their row: it returns true and turns nothing that was there. Conditions: the steps lie where they are said to lie.
-/
import Derived.Test.YtedbiaopbfejfaaWaysP
import Derived.Deep.CutRange
import Derived.Deep.CutBlock
namespace Go.Proofs.Ytedbiaopbfejfaa
open Go.ChangeShapes Go.WideShapes Go.ChangeAt Go.RowKit

set_option maxHeartbeats 4000000 in
set_option maxRecDepth 100000 in
theorem ways_walk (rm : Int) (a1 : Option Addr) (l1 c1 : Nat) (ss : List Stp) (w : World) (hz : StepsAt w a1 l1 c1 ss) :
    Calls Try.prog 7 #[.int .i64 rm, .slice a1 l1 c1] w fun e w' => e = .returned (.bool true) ∧ Below w.heap.size w w' := by
  have q1 := hz.hle
  have q2 := hz.hcap
  obtain ⟨n, hn⟩ : ∃ n, min l1 100 = n := ⟨_, rfl⟩
  have hear := early_any a1 l1 c1 n q1 hn
  have hR := roomN_le rm
  unfold maxLen at q2
  go_enter Try.func7, Try.ntmps7
  go_wp2_with fail
  refine (lives_any _).mono ?_
  rintro e w1 ⟨rfl, hb1⟩
  go_wp2_with fail
  refine (new_any rm w1).mono ?_
  rintro e w2 ⟨rfl, hq2, hb2⟩
  generalize roomN rm = R at *
  have hk12 : Keep (fun k => k < w1.heap.size) w1 w2 := keep_below hb2
  have HZ : Hid (StepsAt w1 a1 l1 c1 ss) := hz.below hb1
  have HB : Hid (Below w.heap.size w w1) := hb1
  clear hz hb1 hb2
  generalize hg : w1.heap.size + 2 = g at *
  go_wp2_with fail
  refine (hear _).mono ?_
  rintro e w3 ⟨rfl, hw3⟩
  subst w3
  go_wp2
  go_loopw [6] (fun v6 wr => ∃ (i : Nat) (s : St) (K : Nat), v6 = .int .i64 i ∧ i ≤ n ∧ K ≤ i ∧ PAt wr (fun k => k < w1.heap.size) g R s K ∧ Keep (fun k => k < w1.heap.size) w1 wr) (fun v6 _ => n + 1 - (intOf v6).toNat)
  case atStart => exact ⟨0, St.none, 0, rfl, Nat.zero_le _, Nat.le_refl _, hq2, hk12⟩
  case round =>
    clear hq2 hk12
    obtain ⟨i, s, K, rfl, hi, hKi, hq, hkr⟩ := hrel
    by_cases hc : i < n
    · obtain ⟨b, off, rfl, hlt, hs0, hs1, hwf⟩ := HZ.out.rd i (by omega)
      have x0 := hkr.cell hs0 hlt
      have x1 := hkr.cell hs1 hlt
      generalize ss.getD i s0 = st at x0 x1 hwf
      clear hs0 hs1
      have hkd := kindI_of st.kd
      have hkk := kind_step st.kd st.id
      generalize kindI st.kd = kd at hkd hkk
      have HQ0 : Hid (PAt wr (fun k => k < w1.heap.size) g R s K) := hq
      have HK0 : Hid (Keep (fun k => k < w1.heap.size) w1 wr) := hkr
      have hK6 : K ≤ 1000 := by omega
      clear hq hkr
      go_upto_block 1 with fail
      go_cut [7, 8, 9, 10, 11, 12, 13, 14] from 27 to 125 (fun _ _ _ _ _ _ _ _ wx => ∃ (s2 : St) (K2 : Nat), K2 ≤ K + 1 ∧ PAt wx (fun k => k < w1.heap.size) g R s2 K2 ∧ Keep (fun k => k < w1.heap.size) w1 wx)
      case first =>
        go_upto_block 2 with (first
          | (go_at_call 12; refine (hkk _).mono ?_; rintro e w4 ⟨rfl, hb4⟩))
        have HQ : Hid (PAt w4 (fun k => k < w1.heap.size) g R s K) := HQ0.out.belowS hb4
        have HK : Hid (Keep (fun k => k < w1.heap.size) w1 w4) := HK0.out.trans (keep_below hb4)
        clear x0 x1 hb4 hkk HQ0 HK0
        generalize st.id = x at *
        rcases hkd with hkd | rfl | rfl | rfl | rfl
        · have hm := make_w HQ.out hwf
          rcases hkd with rfl | rfl
          all_goals (
            go_wp2_with (first | (go_at_call 14; refine hm.mono ?_; rintro e w5 ⟨rfl, hq5, hk5⟩))
            go_meet
            exact ⟨_, K, by omega, hq5, HK.out.trans hk5⟩)
        · have hm := ready_w HQ.out (by omega) hwf
          go_wp2_with (first | (go_at_call 16; refine hm.mono ?_; rintro e w5 ⟨rfl, hq5, hk5⟩))
          go_meet
          exact ⟨_, K + 1, by omega, hq5, HK.out.trans hk5⟩
        · obtain ⟨zi, hzi⟩ : ∃ zi, s.I = zi := ⟨_, rfl⟩
          obtain ⟨zb, hzb⟩ : ∃ zb, srt s.B = zb := ⟨_, rfl⟩
          obtain ⟨ni, hni⟩ : ∃ ni, zi.length = ni := ⟨_, rfl⟩
          obtain ⟨nb, hnb⟩ : ∃ nb, zb.length = nb := ⟨_, rfl⟩
          have hi5 := idle_n HQ.out zi hzi hni
          have HBZ : Hid (∀ w5, Below w4.heap.size w4 w5 → Calls Try.prog 32 #[.pointer (some ⟨g, 0, none⟩)] w5 fun e w' => ∃ a c, e = .returned (.slice a nb c) ∧ LAt w' w5.heap.size a c zb ∧ Below w5.heap.size w5 w') := fun w5 hb => busy_n (HQ.out.belowS hb) zb hzb hnb
          have HN := Hid.mk' (And.intro hni hnb)
          have HZI := Hid.mk' (And.intro hzi hzb)
          clear hzi hzb hni hnb
          go_upto_region 17 with (first
            | (go_at_call 31; refine hi5.mono ?_; rintro e w5 ⟨a5, c5, rfl, hl5, hb5⟩; have hz6 := HBZ.out w5 hb5)
            | (go_at_call 32; refine hz6.mono ?_; rintro e w6 ⟨a6, c6, rfl, hl6, hb6⟩))
          obtain ⟨A2, hq6, hA2, hls⟩ := two_lists HQ.out hb5 hb6 hl5 hl6
          have HLS := Hid.mk' hls
          have HA2 := Hid.mk' hA2
          have HK6 : Hid (Keep (fun k => k < w1.heap.size) w1 w6) := HK.out.trans (keep_below (below_trans hb5 hb6))
          have hni2 := HN.out.1
          clear hls hA2 hl5 hl6 hb5 hb6 hi5 hz6 HBZ HK
          obtain ⟨M, I, B⟩ := s
          obtain ⟨hzi, hzb⟩ := HZI.out
          replace hzi : I = zi := hzi
          subst hzi
          by_cases h0 : I = []
          · subst h0
            have hn0 : ni = 0 := by rw [← hni2]; rfl
            subst hn0
            have ht := take_empty hq6
            have HQ6 := Hid.mk' hq6
            clear hq6 hni2 hzb
            go_upto_region 20 with (first | (go_at_call 18; refine ht.mono ?_; rintro e w7 ⟨rfl, hq7, hk7⟩))
            have ht8 := take_empty hq7
            clear ht hq7
            go_wp2_with (first | (go_at_call 18; refine ht8.mono ?_; rintro e w8 ⟨rfl, hq8, hk8⟩))
            go_meet
            exact ⟨_, K, by omega, hq8.fewer HA2.out, HK6.out.trans ((hk7.trans hk8).mono fun k _ h => HA2.out k h)⟩
          · obtain ⟨l, y, rfl⟩ := list_end I h0
            have hpos : 0 < ni := by rw [← hni2]; simp
            have ht := take_end hq6
            clear hq6 h0
            go_upto_region 18 with (first | (go_at_call 18; refine ht.mono ?_; rintro e w7 ⟨rfl, hq7, hk7⟩))
            have hgb := give_back hq7 (by omega)
            have HI : Hid (∀ w8, PAt w8 A2 g R ⟨M, l ++ [y], B⟩ (K + 1) → Calls Try.prog 31 #[.pointer (some ⟨g, 0, none⟩)] w8 fun e w' => ∃ a c, e = .returned (.slice a ni c) ∧ LAt w' w8.heap.size a c (l ++ [y]) ∧ Below w8.heap.size w8 w') := fun w8 h => idle_n h _ rfl hni2
            have HBY : Hid (∀ w8, PAt w8 A2 g R ⟨M, l ++ [y], B⟩ (K + 1) → Calls Try.prog 32 #[.pointer (some ⟨g, 0, none⟩)] w8 fun e w' => ∃ a c, e = .returned (.slice a nb c) ∧ LAt w' w8.heap.size a c zb ∧ Below w8.heap.size w8 w') := fun w8 h => busy_n h zb hzb HN.out.2
            have HS1 : Hid (∀ wX a9 c9 B9, LAt wX B9 a9 c9 (l ++ [y]) → Keep A2 w6 wX → Calls Try.prog 28 #[.slice a9 ni c9, .slice a5 ni c5] wX fun e w' => e = .returned (.bool true) ∧ Below wX.heap.size wX w') := fun wX a9 c9 B9 h9 hk => same_b _ _ _ _ _ _ wX (h9.rdn hni2) ((HLS.out wX hk).1.rdn hni2)
            have HS2 : Hid (∀ wX a9 c9 B9, LAt wX B9 a9 c9 zb → Keep A2 w6 wX → Calls Try.prog 28 #[.slice a9 nb c9, .slice a6 nb c6] wX fun e w' => e = .returned (.bool true) ∧ Below wX.heap.size wX w') := fun wX a9 c9 B9 h9 hk => same_b _ _ _ _ _ _ wX (h9.rdn HN.out.2) ((HLS.out wX hk).2.rdn HN.out.2)
            clear ht hq7 hni2 hzb
            go_upto_region 20 with (first
              | (go_at_call 20; refine hgb.mono ?_; rintro e w8 ⟨rfl, hq8, hk8⟩; have hi9 := HI.out w8 hq8; have hk68 := hk7.trans hk8)
              | (go_at_call 31; refine hi9.mono ?_; rintro e w9 ⟨a9, c9, rfl, hl9, hb9⟩; have hs9 := HS1.out w9 a9 c9 _ hl9 (hk68.trans (keep_below hb9)))
              | (go_at_call 28; refine hs9.mono ?_; rintro e w10 ⟨rfl, hb10⟩; clear hs9; have hb810 := below_trans hb9 hb10; have hz11 := HBY.out w10 (hq8.belowS hb810))
              | (go_at_call 32; refine hz11.mono ?_; rintro e w11 ⟨a11, c11, rfl, hl11, hb11⟩; have hb811 := below_trans hb810 hb11; have hs11 := HS2.out w11 a11 c11 _ hl11 (hk68.trans (keep_below hb811)))
              | (go_at_call 28; refine hs11.mono ?_; rintro e w12 ⟨rfl, hb12⟩; have hq12 := hq8.belowS (below_trans hb811 hb12); have hk12 := hk68.trans (keep_below (below_trans hb811 hb12))))
            have ht13 := take_end hq12
            clear hq8 hi9 hz11 hs11 hl9 hl11 hgb hk68 hb9 hb10 hb11 hb12 hb810 hb811
            go_wp2_with (first | (go_at_call 18; refine ht13.mono ?_; rintro e w13 ⟨rfl, hq13, hk13⟩))
            go_meet
            exact ⟨_, K + 1, by omega, hq13.fewer HA2.out, HK6.out.trans ((hk12.trans hk13).mono fun k _ h => HA2.out k h)⟩
        · have hm := give_w HQ.out (by omega) hwf
          go_wp2_with (first | (go_at_call 20; refine hm.mono ?_; rintro e w5 ⟨rfl, hq5, hk5⟩))
          go_meet
          exact ⟨_, K + 1, by omega, hq5, HK.out.trans hk5⟩
        · have hle8 := HQ.out.le
          have hmx8 := HQ.out.max
          obtain ⟨zA, hzA⟩ : ∃ zA, srt s.ids = zA := ⟨_, rfl⟩
          obtain ⟨nA, hnA⟩ : ∃ nA, zA.length = nA := ⟨_, rfl⟩
          obtain ⟨nI, hnI⟩ : ∃ nI, s.I.length = nI := ⟨_, rfl⟩
          obtain ⟨zB, hzB⟩ : ∃ zB, srt (dr s x).ids = zB := ⟨_, rfl⟩
          obtain ⟨nB, hnB⟩ : ∃ nB, zB.length = nB := ⟨_, rfl⟩
          obtain ⟨nJ, hnJ⟩ : ∃ nJ, (less s.I x).length = nJ := ⟨_, rfl⟩
          obtain ⟨bx, hbx⟩ : ∃ bx, decide (x ∈ s.ids) = bx := ⟨_, rfl⟩
          have hA900 : nA ≤ 900 := by rw [← hnA, ← hzA, srt_length]; omega
          have hI900 : nI ≤ 900 := by
            have : s.I.length ≤ s.ids.length := by simp [St.ids]; omega
            omega
          have hlA : less zA x = zB := by rw [← hzA, all_less]; exact hzB
          have hhA : decide (x ∈ zA) = bx := by rw [← hzA, has_all]; exact hbx
          have ha5 := all_n HQ.out zA hzA hnA
          have HIZ : Hid (∀ w5, Below w4.heap.size w4 w5 → Calls Try.prog 31 #[.pointer (some ⟨g, 0, none⟩)] w5 fun e w' => ∃ a c, e = .returned (.slice a nI c) ∧ LAt w' w5.heap.size a c s.I ∧ Below w5.heap.size w5 w') := fun w5 hb => idle_n (HQ.out.belowS hb) s.I rfl hnI
          go_upto_region 25 with (first
            | (go_at_call 33; refine ha5.mono ?_; rintro e w5 ⟨a5, c5, rfl, hl5, hb5⟩; have hz6 := HIZ.out w5 hb5)
            | (go_at_call 31; refine hz6.mono ?_; rintro e w6 ⟨a6, c6, rfl, hl6, hb6⟩))
          obtain ⟨A2, hq6, hA2, hls⟩ := two_lists HQ.out hb5 hb6 hl5 hl6
          have HLS := Hid.mk' hls
          have HA2 := Hid.mk' hA2
          have HK6 : Hid (Keep (fun k => k < w1.heap.size) w1 w6) := HK.out.trans (keep_below (below_trans hb5 hb6))
          have hd := drop_b hq6 hwf bx hbx
          clear hls hA2 hl5 hl6 hb5 hb6 ha5 hz6 HIZ HK hq6
          go_upto_region 26 with (first | (go_at_call 22; refine hd.mono ?_; rintro e w7 ⟨rfl, hq7, hk7⟩))
          have hA8 := all_n hq7 zB hzB hnB
          have HL1 : Hid (∀ wX, Keep A2 w6 wX → Calls Try.prog 36 #[.slice a5 nA c5, .int .i64 x] wX fun e w' => ∃ a c, e = .returned (.slice a nB c) ∧ LAt w' wX.heap.size a c zB ∧ Below wX.heap.size wX w') := fun wX hk => less_n a5 nA c5 zA x ((HLS.out wX hk).1.rdn hnA) hA900 zB hlA hnB
          have HL2 : Hid (∀ wX, Keep A2 w6 wX → Calls Try.prog 36 #[.slice a6 nI c6, .int .i64 x] wX fun e w' => ∃ a c, e = .returned (.slice a nJ c) ∧ LAt w' wX.heap.size a c (less s.I x) ∧ Below wX.heap.size wX w') := fun wX hk => less_n a6 nI c6 s.I x ((HLS.out wX hk).2.rdn hnI) hI900 _ rfl hnJ
          have HI2 : Hid (∀ wX, Below w7.heap.size w7 wX → Calls Try.prog 31 #[.pointer (some ⟨g, 0, none⟩)] wX fun e w' => ∃ a c, e = .returned (.slice a nJ c) ∧ LAt w' wX.heap.size a c (less s.I x) ∧ Below wX.heap.size wX w') := fun wX hb => idle_n (hq7.belowS hb) (less s.I x) rfl hnJ
          have HHA : Hid (∀ wX, Keep A2 w6 wX → Calls Try.prog 35 #[.slice a5 nA c5, .int .i64 x] wX fun e w' => e = .returned (.bool bx) ∧ w' = wX) := fun wX hk => has_any wX a5 nA c5 zA x ((HLS.out wX hk).1.rdn hnA) bx hhA
          have HN := Hid.mk' (And.intro hnB hnJ)
          have HQ7 := Hid.mk' hq7
          clear hd hq7 hzA hnA hnI hzB hnB hnJ hbx hlA hhA hA900 hI900
          go_wp2_with (first
            | (go_at_call 33; refine hA8.mono ?_; rintro e w8 ⟨a8, c8, rfl, hl8, hb8⟩; have hL9 := HL1.out w8 (hk7.trans (keep_below hb8)))
            | (go_at_call 36; refine hL9.mono ?_; rintro e w9 ⟨a9, c9, rfl, hl9, hb9⟩; clear hL9; have hs10 := same_b _ _ _ _ _ _ w9 ((hl8.below hb9).rdn HN.out.1) (hl9.rdn HN.out.1); have hb79 := below_trans hb8 hb9)
            | (go_at_call 28; refine hs10.mono ?_; rintro e w10 ⟨rfl, hb10⟩; clear hs10; have hb710 := below_trans hb79 hb10; have hI11 := HI2.out w10 hb710)
            | (go_at_call 31; refine hI11.mono ?_; rintro e w11 ⟨a11, c11, rfl, hl11, hb11⟩; have hb711 := below_trans hb710 hb11; have hL12 := HL2.out w11 (hk7.trans (keep_below hb711)))
            | (go_at_call 36; refine hL12.mono ?_; rintro e w12 ⟨a12, c12, rfl, hl12, hb12⟩; have hs13 := same_b _ _ _ _ _ _ w12 ((hl11.below hb12).rdn HN.out.2) (hl12.rdn HN.out.2); have hb712 := below_trans hb711 hb12)
            | (go_at_call 28; refine hs13.mono ?_; rintro e w13 ⟨rfl, hb13⟩; have hb713 := below_trans hb712 hb13; have hh := HHA.out w13 (hk7.trans (keep_below hb713)))
            | (go_at_call 35; refine hh.mono ?_; rintro e w' ⟨rfl, hw'⟩; subst w'))
          go_meet
          exact ⟨_, K, by omega, (HQ7.out.belowS hb713).fewer HA2.out, HK6.out.trans ((hk7.trans (keep_below hb713)).mono fun k _ h => HA2.out k h)⟩
      case rest =>
        obtain ⟨s2, K2, hK2, hq5, hk5⟩ := hcut
        go_wp2
        exact ⟨⟨i + 1, s2, K2, by simp, by omega, by omega, hq5, hk5⟩, by simp [intOf]; omega⟩
    · have HE : Hid (Below w.heap.size w wr) := below_trans HB.out (hkr.below (Nat.le_refl _) (fun _ h => h))
      clear hq hkr
      go_wp2
      go_ret
      exact ⟨rfl, HE.out⟩

end Go.Proofs.Ytedbiaopbfejfaa
