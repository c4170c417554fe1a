/-
  FleetGuard's walk: it returns true and turns nothing that was there. Conditions: the steps lie where they are said to lie, and the table of states, too.
-/
import Derived.Test.YtmlkpfkeeifgeaaDoorM3
import Derived.Test.YtmlkpfkeeifgeaaDoorFLives
namespace Go.Proofs.YtmlkpfkeeifgeaaDoor
open Go.ChangeShapes Go.WideShapes Go.ChangeAt Go.RowKit

/-- A step's names lie below. -/
theorem steps_in {w : World} {a : Option Addr} {len cap n : Nat} {ss : List Stp} (h : StepsAt w a len cap ss) (hn : min len 80 = n) : ∀ i, i < n → 0 < ((trs (ss.take n)).getD i s0).ml → ∀ z, ((trs (ss.take n)).getD i s0).ma = some z → z.block < w.heap.size := by
  intro i hi h0 z hz
  have hl := h.hlen
  have e0 : (trs (ss.take n)).getD i s0 = tr (ss.getD i s0) := by
    rw [trs_getD (by rw [List.length_take]; omega)]
    congr 1
    simp [List.getD, List.getElem?_take_of_lt hi]
  rw [e0] at h0 hz
  obtain ⟨b, off, -, -, -, -, h3, -⟩ := h.rd i (by omega)
  have h0' : 0 < min (ss.getD i s0).ml 20 := h0
  have hz' : (ss.getD i s0).ma = some z := hz
  obtain ⟨b2, o2, e2, hlt, -⟩ := h3.at_ 0 (by omega)
  rw [hz'] at e2
  cases e2
  exact hlt

/-- A step of the law's, where the script lies beside the fleet. -/
theorem step_q {w w1 : World} {A : Nat → Prop} {f : Nat} {e gd : Int} {s : Fl} {st : Stp} (hW : W s) (hl : s.H.length ≤ 1900) (hnm : st.nm.size ≤ maxLen) (hs : StrsAt w st.ma st.ml st.mc st.ms) (hms : ∀ x ∈ st.ms, x.size ≤ maxLen) (hA : 0 < st.ml → ∀ z, st.ma = some z → A z.block) (R : Res) (hR : stp e gd (kindI st.kd) st.n st.nm st.ms s = R) (h : FA w1 A f e gd s) (hk : Keep A w w1) :
    Calls Tryd.prog 14 #[.pointer (some ⟨f, 0, none⟩), .agg #[.int .i64 st.kd, .int .i64 st.n, .string st.nm, .slice st.ma st.ml st.mc]] w1 fun r w' => (∃ va vb, r = .returned (.agg #[.bool R.b, .int .i64 R.E, va, vb])) ∧ FA w' A f e gd R.s ∧ Keep A w1 w' := by
  refine (step_w h (hW.few hl) st.kd st.n st.nm st.ma st.ml st.mc st.ms hnm (hs.keep0 hk hA) hms hA _ rfl R hR).mono ?_
  rintro r w' ⟨va, vb, rfl, -, -, hf, hk2⟩
  exact ⟨⟨va, vb, rfl⟩, FIn.fewer hf (fun k hk => .inl (.inl hk)) h.a0, hk2⟩

set_option maxHeartbeats 4000000 in
set_option maxRecDepth 100000 in
theorem guard_walk (x y : Int) (a : Option Addr) (len cap : Nat) (ss : List Stp) (w : World) (ht : St.Tabs w) (hs : StepsAt w a len cap ss) :
    Calls Tryd.prog 4 #[.int .i64 x, .int .i64 y, .slice a len cap] w fun r w' => r = .returned (.bool true) ∧ Below w.heap.size w w' := by
  obtain ⟨n, hn⟩ : ∃ n, min len 80 = n := ⟨_, rfl⟩
  have hn8 : n ≤ 80 := by omega
  have HN := Hid.mk' hn
  have HS0 := Hid.mk' hs
  have HM := Hid.mk' (steps_in hs hn)
  have HT := Hid.mk' ht
  clear hs hn ht
  go_enter Tryd.func4, Tryd.ntmps4
  go_wp2_with fail
  refine (lives_any w HT.out).mono ?_
  rintro e w1 ⟨rfl, hb1⟩
  have hub8 := um_bd 8 x (by decide) (by decide)
  have hub41 := um_bd 41 y (by decide) (by decide)
  generalize hm8 : wrap64 ((IntKind.u64.wrap x).tmod 8) = m8 at *
  generalize hm41 : wrap64 ((IntKind.u64.wrap y).tmod 41) = gd at *
  obtain ⟨E, hE⟩ : ∃ E, 1 + m8 = E := ⟨_, rfl⟩
  have hwE : IntKind.i64.wrap (1 + m8) = E := by rw [hE]; simp [IntKind.wrap, IntKind.signed, IntKind.bits]; omega
  have hE1 : 0 < E ∧ E ≤ 8 := by omega
  have hnew := q_new E gd w1 (HT.out.below hb1)
  go_upto_region 5 with fail
  simp only [hm8, hm41]
  clear hub8 hub41 hE hm8 hm41 hwE
  go_wp2_with fail
  refine hnew.mono ?_
  rintro r w2 ⟨f, rfl, hq2, hb2⟩
  go_wp2_with fail
  refine (early_any a len cap n ss _ ((HS0.out.below hb1).below hb2) HN.out).mono ?_
  rintro e w3 ⟨a3, c3, rfl, hs3, ha3, hb3⟩
  have hl3 := hs3.hle
  have hm3 := hs3.hcap
  unfold maxLen at hm3
  have hq3 := hq2.belowN hb3
  have HB : Hid (Below w.heap.size w w3) := below_trans (below_trans hb1 hb2) hb3
  have HA3 : Hid (∀ x, a3 = some x → x.block < w1.heap.size ∨ (w2.heap.size ≤ x.block ∧ x.block < w3.heap.size)) := fun x hx => .inr (ha3 x hx)
  have HLO : Hid (∀ k, k < w.heap.size → k < w1.heap.size) := fun k hk => Nat.lt_of_lt_of_le hk hb1.size
  have HS := Hid.mk' hs3
  generalize hts : trs (ss.take n) = ts at *
  clear hs3 hb1 hb2 hb3 hq2 ha3 HN HS0 hnew hts
  generalize hA : (fun k => k < w1.heap.size ∨ (w2.heap.size ≤ k ∧ k < w3.heap.size)) = A at *
  have HAA : Hid (∀ k, k < w.heap.size → A k) := fun k hk => by rw [← hA]; exact .inl (HLO.out k hk)
  have HA4 : Hid (∀ x, a3 = some x → A x.block) := fun x hx => by rw [← hA]; exact HA3.out x hx
  have HMM : Hid (∀ i, i < n → 0 < (ts.getD i s0).ml → ∀ z, (ts.getD i s0).ma = some z → A z.block) := fun i hi h0 z hz => HAA.out _ (HM.out i hi h0 z hz)
  clear hA HLO HA3 HM
  have HQ3 := Hid.mk' hq3
  clear hq3
  have HE := Hid.mk' hE1
  clear hE1
  go_wp2
  go_loopw [8] (fun v8 wr => ∃ (i : Nat) (s : Fl), v8 = .int .i64 i ∧ i ≤ n ∧ Hid (FA wr A f E gd s) ∧ Hid (W s) ∧ s.H.length ≤ 16 * i ∧ Hid (Keep A w3 wr)) (fun v8 _ => n + 1 - (intOf v8).toNat)
  case atStart => exact ⟨0, ⟨[], [], []⟩, rfl, Nat.zero_le _, HQ3, W.start, Nat.zero_le _, Keep.refl _ _⟩
  case round =>
    clear HQ3
    obtain ⟨i, s, rfl, hi, HF, HW, hl, HK⟩ := hrel
    by_cases hin : i < n
    · obtain ⟨b, off, rfl, hb, hcc, hnm, hms, hmz⟩ := HS.out.rd i hin
      have hbA := HA4.out _ rfl
      have hA0 := HMM.out i hin
      generalize ts.getD i s0 = st at *
      have HX : Hid (∀ w', Keep A wr w' → w'.cell? ⟨b, off + i * 4, none⟩ = some (.int .i64 st.kd) ∧ w'.cell? ⟨b, off + i * 4 + 1, none⟩ = some (.int .i64 st.n) ∧ w'.cell? ⟨b, off + i * 4 + 2, none⟩ = some (.string st.nm) ∧ w'.cell? ⟨b, off + i * 4 + 3, none⟩ = some (.slice st.ma st.ml st.mc)) := fun w' hk => by
        have hk2 := HK.out.trans hk
        exact ⟨hk2.cell (hcc 0 _ rfl) hbA, hk2.cell (hcc 1 _ rfl) hbA, hk2.cell (hcc 2 _ rfl) hbA, hk2.cell (hcc 3 _ rfl) hbA⟩
      have hE2 := HE.out
      have hms' := hms.keep0 HK.out hA0
      obtain ⟨R, hR⟩ : ∃ R, stp E gd (kindI st.kd) st.n st.nm st.ms s = R := ⟨_, rfl⟩
      have hlen := stp_len E gd (kindI st.kd) st.n st.nm st.ms s
      have hup := up_step (e := E) (gd := gd) HW.out hE2.1 (by omega) (by omega) (kindI st.kd) st.n st.nm st.ms
      have hW2 := HW.out.step E gd (kindI st.kd) st.n st.nm st.ms
      rw [hR] at hlen hup hW2
      have hCE := capF_one (H := s.H) (e := E) (by omega) hE2.1 (by omega)
      have hCE2 := capF_one (H := R.s.H) (e := E) (by omega) hE2.1 (by omega)
      unfold Up at hup
      rw [← hCE, ← hCE2] at hup
      have hr : (capF R.s.H E).tmod E = 0 := by rw [hCE2]; exact Int.mul_tmod_left _ _
      have hCb : 0 ≤ capF R.s.H E ∧ capF R.s.H E ≤ 4000000 := by
        rw [hCE2]
        have := Gd.act_le (hz R.s.H)
        rw [hz_length] at this
        exact Gd.mul_bd (by omega) (by omega) (by omega)
      have hcp := q_cap HF.out (by omega) _ rfl
      have HC2 : Hid (∀ w', FA w' A f E gd R.s → Calls Tryd.prog 18 #[.pointer (some ⟨f, 0, none⟩)] w' fun r w'' => r = .returned (.int .i64 (capF R.s.H E)) ∧ FA w'' A f E gd R.s ∧ Keep A w' w'') := fun w' h => q_cap h (by omega) _ rfl
      have HST : Hid (∀ w', FA w' A f E gd s → Keep A wr w' → Calls Tryd.prog 14 #[.pointer (some ⟨f, 0, none⟩), .agg #[.int .i64 st.kd, .int .i64 st.n, .string st.nm, .slice st.ma st.ml st.mc]] w' fun r w'' => (∃ va vb, r = .returned (.agg #[.bool R.b, .int .i64 R.E, va, vb])) ∧ FA w'' A f E gd R.s ∧ Keep A w' w'') := fun w' h hk => step_q HW.out (by omega) hnm hms' hmz hA0 R hR h hk
      have hkd := kind_step st.kd st.n (.string st.nm) (.slice st.ma st.ml st.mc)
      have HKD := Hid.mk' hkd
      generalize capF R.s.H E = C2 at *
      generalize capF s.H E = C at *
      generalize kindI st.kd = kk at *
      have HWR := Hid.mk' hW2
      have hr2 : wrap64 (C2.tmod E) = 0 := by rw [hr]; unfold wrap64; omega
      have hE0 : ¬ E = 0 := by omega
      have hE0' : (E == 0) = false := beq_eq_false_iff_ne.2 hE0
      have hfin : ∀ wz, FA wz A f E gd R.s → Keep A wr wz → ∃ (j : Nat) (s' : Fl), Value.int .i64 ((i : Int) + 1) = .int .i64 j ∧ j ≤ n ∧ Hid (FA wz A f E gd s') ∧ Hid (W s') ∧ s'.H.length ≤ 16 * j ∧ Hid (Keep A w3 wz) := fun wz hf hk => ⟨i + 1, R.s, by simp, by omega, hf, HWR.out, by omega, HK.out.trans hk⟩
      have HFIN := Hid.mk' hfin
      clear hcc hms hms' hA0 HF HW hW2 hR hCE hCE2 hkd hfin hlen hCb hnm hmz
      go_upto_region 11 with (go_at_call 18; refine hcp.mono ?_; rintro r w4 ⟨rfl, hf4, hk4⟩)
      have hst := HST.out w4 hf4 hk4
      obtain ⟨x0, x1, x2, x3⟩ := HX.out w4 hk4
      clear hcp
      go_upto_region 12 with (go_at_call 14; refine hst.mono ?_; rintro r w5 ⟨⟨va, vb, rfl⟩, hf5, hk5⟩)
      have hcp2 := HC2.out w5 hf5
      clear hst x0 x1 x2 x3
      go_upto_region 13 with (go_at_call 18; refine hcp2.mono ?_; rintro r w6 ⟨rfl, hf6, hk6⟩)
      have hk06 := hk4.trans (hk5.trans hk6)
      have hkd := HKD.out w6
      obtain ⟨x0, x1, x2, x3⟩ := HX.out w6 hk06
      clear hcp2 hf4 hf5 hk4 hk5 hk6
      go_upto_region 14 with (go_at_call 19; refine hkd.mono ?_; rintro r w7 ⟨rfl, hb7⟩)
      have HF7 := Hid.mk' (HFIN.out w7 (hf6.below hb7) (hk06.trans (keep_below hb7)))
      clear hkd x0 x1 x2 x3 hf6 hk06 hb7 HFIN HST HC2 HKD HX
      rcases (by
        by_cases h0 : kk = 0
        · exact .inl h0
        · by_cases h3 : kk = 3
          · exact .inr (.inl h3)
          · rcases hup h0 h3 with h | h
            · exact .inr (.inr (.inl ⟨h0, h3, h⟩))
            · exact .inr (.inr (.inr ⟨h0, h3, h⟩)) : kk = 0 ∨ kk = 3 ∨ (¬ kk = 0 ∧ ¬ kk = 3 ∧ C ≤ C2) ∨ (¬ kk = 0 ∧ ¬ kk = 3 ∧ gd ≤ C2)) with rfl | rfl | ⟨h0, h3, hle⟩ | ⟨h0, h3, hle⟩
      · clear hup
        go_wp2
        exact ⟨HF7.out, by simp [intOf]; omega⟩
      · clear hup
        go_wp2
        exact ⟨HF7.out, by simp [intOf]; omega⟩
      · have b0 : (kk != 0) = true := bne_iff_ne.2 h0
        have b3 : (kk != 3) = true := bne_iff_ne.2 h3
        have b1 : decide (C2 < C) = false := decide_eq_false (by omega)
        clear hup
        go_wp2
        exact ⟨HF7.out, by simp [intOf]; omega⟩
      · have b0 : (kk != 0) = true := bne_iff_ne.2 h0
        have b3 : (kk != 3) = true := bne_iff_ne.2 h3
        have b2 : decide (C2 < gd) = false := decide_eq_false (by omega)
        clear hup
        by_cases hc : C2 < C
        · have b1 : decide (C2 < C) = true := decide_eq_true hc
          go_wp2
          exact ⟨HF7.out, by simp [intOf]; omega⟩
        · have b1 : decide (C2 < C) = false := decide_eq_false hc
          go_wp2
          exact ⟨HF7.out, by simp [intOf]; omega⟩
    · have hbw : Below w.heap.size w wr := HB.out.trans (HK.out.below HB.out.size (fun k hk => HAA.out k hk))
      have hx1 : ¬ (i : Int) < (n : Int) := by omega
      go_wp2
      go_ret
      exact ⟨rfl, hbw⟩
end Go.Proofs.YtmlkpfkeeifgeaaDoor
