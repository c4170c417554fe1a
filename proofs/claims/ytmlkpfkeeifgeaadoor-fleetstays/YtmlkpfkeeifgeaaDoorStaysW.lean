/-
  FleetStays' walk: it returns true and turns nothing that was there. Conditions: the slices lie where they are said to lie, and the table of states, too.
-/
import Derived.Test.YtmlkpfkeeifgeaaDoorM3
import Derived.Test.YtmlkpfkeeifgeaaDoorGuardW
namespace Go.Proofs.YtmlkpfkeeifgeaaDoor
open Go.ChangeShapes Go.WideShapes Go.ChangeAt Go.RowKit

/-- The fleet, while states and names that are due are read: the number of the step at p; all that came since wr is new. -/
structure RS (wr : World) (A : Nat → Prop) (f : Nat) (gd : Int) (s : Fl) (p : Addr) (N : Int) (w : World) : Prop where
  fin : FA w A f 2 gd s
  bel : Below wr.heap.size wr w
  at_ : w.cell? p = some (.int .i64 N)
theorem RS.step {wr w w' : World} {A : Nat → Prop} {f : Nat} {gd : Int} {s : Fl} {p : Addr} {N : Int} (h : w.cell? p = some (.int .i64 N) ∧ RS wr A f gd s p N w) (hb : Below w.heap.size w w') : w'.cell? p = some (.int .i64 N) ∧ RS wr A f gd s p N w' := by
  have e := (hb.cell (p := p) (World.block_lt_of_cell? _ _ h.1)).trans h.1
  exact ⟨e, h.2.fin.below hb, h.2.bel.trans (hb.mono h.2.bel.size), e⟩

/-- What was read lies on, where what lay there is kept. -/
theorem ints_keep {A : Nat → Prop} {w w' : World} {zs : List Int} {a : Option Addr} {len cap : Nat} (h : IntsAt w a len cap zs) (hk : Keep A w w') (hA : ∀ z, a = some z → z.block < w.heap.size → A z.block) : IntsAt w' a len cap zs := by
  refine ⟨h.hlen, h.hle, h.hcap, fun j hj => ?_⟩
  obtain ⟨b, off, e, hlt, hc⟩ := h.at_ j hj
  exact ⟨b, off, e, Nat.lt_of_lt_of_le hlt hk.size, hk.cell (a := ⟨b, off + j, none⟩) hc (hA ⟨b, off, none⟩ e hlt)⟩
theorem strs_keep {A : Nat → Prop} {w w' : World} {l : List ByteArray} {a : Option Addr} {len cap : Nat} (h : StrsAt w a len cap l) (hk : Keep A w w') (hA : ∀ z, a = some z → z.block < w.heap.size → A z.block) : StrsAt w' a len cap l := by
  refine ⟨h.hlen, h.hle, h.hcap, fun j hj => ?_⟩
  obtain ⟨b, off, e, hlt, hc⟩ := h.at_ j hj
  exact ⟨b, off, e, Nat.lt_of_lt_of_le hlt hk.size, hk.cell (a := ⟨b, off + j, none⟩) hc (hA ⟨b, off, none⟩ e hlt)⟩

set_option maxHeartbeats 4000000 in
set_option maxRecDepth 100000 in
theorem stays_walk (a1 : Option Addr) (l1 c1 : Nat) (zs : List Int) (a : Option Addr) (len cap : Nat) (ss : List Stp) (y : Int) (w : World) (ht : St.Tabs w) (h1 : IntsAt w a1 l1 c1 zs) (hs : StepsAt w a len cap ss) :
    Calls Tryd.prog 9 #[.slice a1 l1 c1, .slice a len cap, .int .i64 y] w fun r w' => r = .returned (.bool true) ∧ Below w.heap.size w w' := by
  obtain ⟨n, hn⟩ : ∃ n, min len 80 = n := ⟨_, rfl⟩
  have hn8 : n ≤ 80 := by omega
  have HN := Hid.mk' hn
  have HS0 := Hid.mk' hs
  have HM := Hid.mk' (steps_in hs hn)
  have HT := Hid.mk' ht
  have H1 := Hid.mk' h1
  clear hs hn ht h1
  go_enter Tryd.func9, Tryd.ntmps9
  go_wp2_with fail
  refine (lives_any w HT.out).mono ?_
  rintro e w1 ⟨rfl, hb1⟩
  go_wp2_with fail
  refine (good_any _ _ _ _ _ (H1.out.below (Nat.le_refl _) hb1)).mono ?_
  rintro e w2 ⟨v, ns, rfl, hnd, hg6, hown, hb2⟩
  obtain ⟨an, cn, rfl, hs2, hbk⟩ := owns_strs hown
  have hlen6 := good_len hnd hg6
  obtain ⟨m, hm⟩ : ∃ m, ns.length = m := ⟨_, rfl⟩
  rw [hm] at hs2 hlen6 ⊢
  have HL := Hid.mk' hm
  have hmcap := hs2.hle
  have hmcm := hs2.hcap
  unfold maxLen at hmcm
  have HNS := Hid.mk' hs2
  have HG : Hid (ns.Nodup ∧ ∀ s ∈ ns, s ∈ names6) := ⟨hnd, hg6⟩
  have HA : Hid (∀ z, an = some z → z.block < w2.heap.size) := fun z hz => (hbk z hz).2
  have hb02 : Below w.heap.size w w2 := below_trans hb1 hb2
  have HB2 := Hid.mk' hb02
  clear hs2 hnd hg6 hown hbk hb1 hb2 hm H1 hb02
  have hub41 := um_bd 41 y (by decide) (by decide)
  generalize hm41 : wrap64 ((IntKind.u64.wrap y).tmod 41) = gd at *
  have hnew := q_new 2 gd w2 (HT.out.below HB2.out)
  clear hub41
  go_wp2_with fail
  simp only [hm41]
  refine hnew.mono ?_
  rintro r w3 ⟨f, rfl, hq3, hb3⟩
  have hG := HG.out
  have hres := res_new hG.1 (good_chk hG.1 hG.2) 3
  have hq := q_resolve (s := ⟨[], [], []⟩) hq3 Inv.nil an m cn (HNS.out.below (Nat.le_refl _) hb3) HA.out (good_size hG.2) 3 (Nat.zero_le _) (Nat.zero_le _) (fun i hi => absurd hi (Nat.not_lt_zero _)) 0 ns [] m 0 hres.1 hres.2.1 hres.2.2.1 hres.2.2.2 HL.out rfl
  have hW0 := W.start.resolve ns 3
  rw [hres.2.1] at hW0
  have HW0 := Hid.mk' hW0
  have HQ3 := Hid.mk' hq3
  have HB3 := Hid.mk' hb3
  clear hm41 hnew hres hq3 hb3 hG hW0
  go_wp2_with fail
  refine hq.mono ?_
  rintro r w4 ⟨a0, d0, a0', d0', rfl, -, -, hf4, hk4⟩
  have HF4 : Hid (FA w4 (fun k => k < w2.heap.size) f 2 gd ⟨sta g0 ns, [], []⟩) := FIn.fewer hf4 (fun k hk => .inl (.inl hk)) HQ3.out.a0
  have HK4 : Hid (Keep (fun k => k < w2.heap.size) w2 w4) := (keep_below HB3.out).trans hk4
  have HB4 : Hid (Below w.heap.size w w4) := HB2.out.trans (HK4.out.below HB2.out.size (fun k hk => Nat.lt_of_lt_of_le hk HB2.out.size))
  clear hq hf4 hk4 HQ3 HB3
  go_wp2_with fail
  refine (early_any a len cap n ss _ (HS0.out.below (HB4.out.mono (Nat.le_refl _))) HN.out).mono ?_
  rintro e w5 ⟨a3, c3, rfl, hs3, ha3, hb5⟩
  have hl3 := hs3.hle
  have hm3 := hs3.hcap
  unfold maxLen at hm3
  have hq5 := HF4.out.belowN hb5
  have HB : Hid (Below w.heap.size w w5) := below_trans HB4.out hb5
  have HS := Hid.mk' hs3
  have HA3 : Hid (∀ x, a3 = some x → x.block < w2.heap.size ∨ (w4.heap.size ≤ x.block ∧ x.block < w5.heap.size)) := fun x hx => .inr (ha3 x hx)
  have HLO : Hid (∀ k, k < w.heap.size → k < w2.heap.size) := fun k hk => Nat.lt_of_lt_of_le hk HB2.out.size
  have HNS5 : Hid (StrsAt w5 an m cn ns) := (HNS.out.keepB HK4.out HA.out).below (Nat.le_refl _) hb5
  generalize hts : trs (ss.take n) = ts at *
  clear hs3 ha3 hb5 HN HS0 hts HNS HK4 HB4 HF4
  generalize hA : (fun k => k < w2.heap.size ∨ (w4.heap.size ≤ k ∧ k < w5.heap.size)) = A at *
  have HAA : Hid (∀ k, k < w.heap.size → A k) := fun k hk => by rw [← hA]; exact .inl (HLO.out k hk)
  have HAN : Hid (∀ z, an = some z → A z.block) := fun z hz => by rw [← hA]; exact .inl (HA.out z hz)
  have HA4 : Hid (∀ x, a3 = some x → A x.block) := fun x hx => by rw [← hA]; exact HA3.out x hx
  have HMM : Hid (∀ i, i < n → 0 < (ts.getD i s0).ml → ∀ z, (ts.getD i s0).ma = some z → A z.block) := fun i hi h0 z hz => HAA.out _ (HM.out i hi h0 z hz)
  clear hA HLO HA3 HM HA HB2
  have HQ5 := Hid.mk' hq5
  clear hq5
  go_wp2
  go_loopw [9] (fun v9 wr => ∃ (i : Nat) (s : Fl), v9 = .int .i64 i ∧ i ≤ n ∧ Hid (FA wr A f 2 gd s) ∧ Hid (W s) ∧ Hid (Ks ns s) ∧ Hid (Keep A w5 wr)) (fun v9 _ => n + 1 - (intOf v9).toNat)
  case atStart => exact ⟨0, ⟨sta g0 ns, [], []⟩, rfl, Nat.zero_le _, HQ5, HW0, Ks.start ns [] [], Keep.refl _ _⟩
  case round =>
    clear HQ5 HW0
    obtain ⟨i, s, rfl, hi, HF, HW, HS1, HK⟩ := hrel
    by_cases hin : i < n
    · obtain ⟨b, off, rfl, hb, hcc, hnm, hms, hmz⟩ := HS.out.rd i hin
      have hbA := HA4.out _ rfl
      have hA0 := HMM.out i hin
      generalize ts.getD i s0 = st at *
      have HX : Hid (∀ w', Keep A wr w' → w'.cell? ⟨b, off + i * 4, none⟩ = some (.int .i64 st.kd) ∧ w'.cell? ⟨b, off + i * 4 + 1, none⟩ = some (.int .i64 st.n) ∧ w'.cell? ⟨b, off + i * 4 + 2, none⟩ = some (.string st.nm) ∧ w'.cell? ⟨b, off + i * 4 + 3, none⟩ = some (.slice st.ma st.ml st.mc)) := fun w' hk => by
        have hk2 := HK.out.trans hk
        exact ⟨hk2.cell (hcc 0 _ rfl) hbA, hk2.cell (hcc 1 _ rfl) hbA, hk2.cell (hcc 2 _ rfl) hbA, hk2.cell (hcc 3 _ rfl) hbA⟩
      have hms' := hms.keep0 HK.out hA0
      have HST : Hid (∀ w' R, FA w' A f 2 gd s → Keep A wr w' → stp 2 gd (kindI st.kd) st.n st.nm st.ms s = R → Calls Tryd.prog 14 #[.pointer (some ⟨f, 0, none⟩), .agg #[.int .i64 st.kd, .int .i64 st.n, .string st.nm, .slice st.ma st.ml st.mc]] w' fun r w'' => (∃ va vb, r = .returned (.agg #[.bool R.b, .int .i64 R.E, va, vb])) ∧ FA w'' A f 2 gd R.s ∧ Keep A w' w'') := fun w' R h hk hR => step_q HW.out (by rw [HS1.out.len, HL.out]; omega) hnm hms' hmz hA0 R hR h hk
      have hkd := kind_step st.kd st.n (.string st.nm) (.slice st.ma st.ml st.mc)
      have HKD := Hid.mk' hkd
      obtain ⟨x0, x1, x2, x3⟩ := HX.out wr (Keep.refl _ _)
      clear hcc hms hms' hA0 hnm hmz hkd
      generalize hkk : kindI st.kd = kk at *
      have HKK := Hid.mk' hkk
      clear hkk
      have hin' : (i : Int) < (n : Int) := by omega
      have hk := HKD.out wr
      go_upto_region 10 with fail
      go_upto_if 40 with (go_at_call 19; refine hk.mono ?_; rintro r w7 ⟨rfl, hb7⟩)
      have HF7 := Hid.mk' (HF.out.below hb7)
      have HB7 := Hid.mk' hb7
      clear hk x0 x1 x2 x3 hb7
      go_cut [] from 40 to 46 (fun wx => ∃ (s' : Fl), FA wx A f 2 gd s' ∧ W s' ∧ Ks ns s' ∧ Keep A wr wx)
      case first =>
        by_cases h0 : kk = 0
        · subst h0
          go_wp2
          go_meet
          exact ⟨s, HF7.out, HW.out, HS1.out, keep_below HB7.out⟩
        · have b0 : (kk != 0) = true := bne_iff_ne.2 h0
          have hst := HST.out w7 _ HF7.out (keep_below HB7.out) rfl
          obtain ⟨x0, x1, x2, x3⟩ := HX.out w7 (keep_below HB7.out)
          have HW8 := Hid.mk' (HW.out.step 2 gd kk st.n st.nm st.ms)
          have HS8 := Hid.mk' (HS1.out.step 2 gd kk st.n st.nm st.ms h0)
          generalize stp 2 gd kk st.n st.nm st.ms s = R at *
          go_wp2_with (go_at_call 14; refine hst.mono ?_; rintro r w8 ⟨⟨va, vb, rfl⟩, hf8, hk8⟩)
          go_meet
          exact ⟨_, hf8, HW8.out, HS8.out, (keep_below HB7.out).trans hk8⟩
      case rest =>
        obtain ⟨s', hf, hw, hks, hkp⟩ := hcut
        clear HST HKD HKK HF HW HS1 HF7 HB7
        have hsl : s'.H.length = m := by rw [hks.len, HL.out]
        have hfew := hw.few (by omega)
        have hG := HG.out
        obtain ⟨q1, q2, q3, q4⟩ := hks.again (good_chk hG.1 hG.2) st.n
        have HX2 : Hid (∀ w', Keep A wc w' → w'.cell? ⟨b, off + i * 4 + 1, none⟩ = some (.int .i64 st.n)) := fun w' hk => (HX.out w' (hkp.trans hk)).2.1
        have HK2 := Hid.mk' (HK.out.trans hkp)
        have HW2 := Hid.mk' hw
        have HKS := Hid.mk' hks
        have HFX := Hid.mk' hf
        have HSD : Hid (wc.drew.cell? ⟨b, off + i * 4 + 1, none⟩ = some (.int .i64 st.n) ∧ RS wc A f gd s' ⟨b, off + i * 4 + 1, none⟩ st.n wc.drew) := by
          have hbd : Below wc.heap.size wc wc.drew := below_drewN (Below.refl _ wc) 1
          have e := HX2.out _ (keep_below hbd)
          exact ⟨e, hf.below hbd, hbd, e⟩
        have HSt : Hid (∀ w', RS wc A f gd s' ⟨b, off + i * 4 + 1, none⟩ st.n w' → Calls Tryd.prog 35 #[.pointer (some ⟨f, 0, none⟩)] w' fun r w'' => r = .returned (.slice (some ⟨w'.heap.size, 0, none⟩) m m) ∧ (IntsAt w'' (some ⟨w'.heap.size, 0, none⟩) m m (hz s'.H) ∧ wc.heap.size ≤ w'.heap.size) ∧ Below w'.heap.size w' w'') := fun w' h => by
          have := fstates_w h.fin (by omega)
          rw [hsl] at this
          exact this.mono fun r w'' ⟨t1, t2, t3⟩ => ⟨t1, ⟨t2, h.bel.size⟩, t3⟩
        obtain ⟨N, hN⟩ : ∃ N, dueL st.n s'.M = N := ⟨_, rfl⟩
        obtain ⟨nd, hnd⟩ : ∃ nd, N.length = nd := ⟨_, rfl⟩
        have hml := hfew.ml
        have HDu0 : Hid (∀ w' B, FA w' B f 2 gd s' → Calls Tryd.prog 29 #[.pointer (some ⟨f, 0, none⟩), .int .i64 st.n] w' fun r w'' => ∃ a c, r = .returned (.slice a nd c) ∧ (StrsAt w'' a nd c N ∧ ∀ z, a = some z → w'.heap.size ≤ z.block ∧ z.block < w''.heap.size) ∧ Below w'.heap.size w' w'') := fun w' B h => by
          refine (fdue_w h st.n (by omega)).mono ?_
          rintro r w'' ⟨v, rfl, o1, hb⟩
          rw [hN, hnd] at o1
          obtain ⟨a, c, rfl, hs, hbl⟩ := owns_strs o1
          exact ⟨a, c, rfl, ⟨hs, hbl⟩, hb⟩
        have HDu : Hid (∀ w', RS wc A f gd s' ⟨b, off + i * 4 + 1, none⟩ st.n w' → Calls Tryd.prog 29 #[.pointer (some ⟨f, 0, none⟩), .int .i64 st.n] w' fun r w'' => ∃ a c, r = .returned (.slice a nd c) ∧ (StrsAt w'' a nd c N ∧ ∀ z, a = some z → wc.heap.size ≤ z.block ∧ z.block < w''.heap.size) ∧ Below w'.heap.size w' w'') := fun w' h => (HDu0.out w' A h.fin).mono fun r w'' ⟨a, c, t1, t2, t3⟩ => ⟨a, c, t1, ⟨t2.1, fun z hz => ⟨Nat.le_trans h.bel.size (t2.2 z hz).1, (t2.2 z hz).2⟩⟩, t3⟩
        have HRES : Hid (∀ w' B, FA w' B f 2 gd s' → StrsAt w' an m cn ns → (∀ z, an = some z → B z.block) → Calls Tryd.prog 21 #[.pointer (some ⟨f, 0, none⟩), .slice an m cn, .int .i64 st.n] w' fun r w'' => ∃ a c a' c', r = .returned (.tuple #[.slice a 0 c, .slice a' 0 c', .int .i64 0]) ∧ FA w'' B f 2 gd s' ∧ Keep B w' w'') := fun w' B h hs hA => by
          refine (q_resolve (s := s') h hfew.inv an m cn hs hA (good_size hG.2) st.n (by omega) (by omega) hfew.sz 0 [] [] 0 0 q1 q2 q3 q4 rfl rfl).mono ?_
          rintro r w'' ⟨a, c, a', c', rfl, -, -, hf, hk⟩
          exact ⟨a, c, a', c', rfl, FIn.fewer hf (fun k hk => .inl (.inl hk)) h.a0, hk⟩
        have HHN : Hid (hn s'.H = ns) := hks.hn
        have HFL : Hid (s'.H.length = m) := hsl
        clear hf hw hks hkp hfew hG q1 q2 q3 q4 hsl hN hnd hml HX
        go_wp2
        go_region_held3 (fun w' => w'.cell? ⟨b, off + i * 4 + 1, none⟩ = some (.int .i64 st.n) ∧ RS wc A f gd s' ⟨b, off + i * 4 + 1, none⟩ st.n w')
          (first | exact HSD.out | assumption | exact RS.step (by assumption) hbx | go_keep)
          (first
            | (go_at_call 35; refine (HSt.out _ (And.right (by assumption))).mono ?_; rintro e wF ⟨rfl, hiS, hbx⟩; have hD2 := hiD.1.below (Nat.le_refl _) hbx; have hFin := And.intro hiS.1 hD2)
            | (go_at_call 29; refine (HDu.out _ (And.right (by assumption))).mono ?_; rintro e wF ⟨aD, cD, rfl, hiD, hbx⟩; have hS2 := ints_below hiS.1 hbx; have hFin := And.intro hS2 hiD.1)
            | (go_at_call 35; refine (HSt.out _ (And.right (by assumption))).mono ?_; rintro e wS ⟨rfl, hiS, hbx⟩)
            | (go_at_call 29; refine (HDu.out _ (And.right (by assumption))).mono ?_; rintro e wD ⟨aD, cD, rfl, hiD, hbx⟩))
        all_goals (
          have hrs : RS wc A f gd s' ⟨b, off + i * 4 + 1, none⟩ st.n wF := And.right (by assumption)
          have hFA := (HFX.out.belowN hrs.bel)
          have hKF := HK2.out.trans (keep_below hrs.bel)
          have hr := HRES.out wF _ hFA (HNS5.out.keepB hKF HAN.out) (fun z hz => .inl (HAN.out z hz))
          have x1 := hrs.at_
          have HR7 : Hid (∀ w7, Keep (fun k => A k ∨ (wc.heap.size ≤ k ∧ k < wF.heap.size)) wF w7 → IntsAt w7 _ m m (hz s'.H) ∧ StrsAt w7 aD nd cD N ∧ StrsAt w7 an m cn ns ∧ Keep A w5 w7 ∧ w7.cell? ⟨b, off + i * 4 + 1, none⟩ = some (.int .i64 st.n)) := fun w7 hk7 =>
            have hkA := hk7.mono (fun _ _ h => .inl h)
            ⟨ints_keep hFin.1 hk7 (fun z hz hlt => .inr ⟨by cases hz; exact hiS.2, hlt⟩), strs_keep hFin.2 hk7 (fun z hz hlt => .inr ⟨(hiD.2 z hz).1, hlt⟩), HNS5.out.keepB (hKF.trans hkA) HAN.out, hKF.trans hkA, hkA.cell x1 hbA⟩
          clear hFA hKF hFin hiS hiD hbx
          go_wp2_with fail
          refine hr.mono ?_
          rintro r w7 ⟨a5, d5, a5', d5', rfl, hf7, hk7⟩
          obtain ⟨hI7, hD7, hN7, hK7, x7⟩ := HR7.out w7 hk7
          have HF7 := Hid.mk' hf7
          have HI7 := Hid.mk' hI7
          have HD7 := Hid.mk' hD7
          have HN7 := Hid.mk' hN7
          have HK7 := Hid.mk' hK7
          have hst := fstates_w hf7 (by have := HFL.out; omega)
          rw [HFL.out] at hst
          clear hr x1 HR7 hf7 hk7 hI7 hD7 hN7 hK7 hrs
          go_wp2_with fail
          refine hst.mono ?_
          rintro r w8 ⟨rfl, hi8, hb8⟩
          have hsm := same_ints _ _ _ _ _ _ w8 hi8 (ints_below HI7.out hb8)
          have HB8 := Hid.mk' hb8
          clear hst hi8 hb8
          go_wp2_with fail
          refine hsm.mono ?_
          rintro r w9 ⟨rfl, hb9⟩
          have hb79 : Below w7.heap.size w7 w9 := below_trans HB8.out hb9
          have x9 := (hb79.cell (p := ⟨b, off + i * 4 + 1, none⟩) (World.block_lt_of_cell? _ _ x7)).trans x7
          have hdu := HDu0.out w9 _ (HF7.out.below hb79)
          have HB9 := Hid.mk' hb79
          clear hsm hb9 HB8 hb79 x7
          go_wp2_with fail
          refine hdu.mono ?_
          rintro r w10 ⟨aE, cE, rfl, hE, hb10⟩
          have hb710 : Below w7.heap.size w7 w10 := below_trans HB9.out hb10
          have hsm := same_any _ _ _ _ _ _ N N w10 hE.1 (HD7.out.below (Nat.le_refl _) hb710)
          rw [decide_eq_true rfl] at hsm
          have HB10 := Hid.mk' hb710
          clear hdu hE hb10 HB9 hb710 x9
          go_wp2_with fail
          refine hsm.mono ?_
          rintro r w11 ⟨rfl, hb11⟩
          have hb711 : Below w7.heap.size w7 w11 := below_trans HB10.out hb11
          have hnm := fnames_w (HF7.out.below hb711) (by have := HFL.out; omega)
          rw [HFL.out, HHN.out] at hnm
          have HB11 := Hid.mk' hb711
          clear hsm hb11 HB10 hb711
          go_wp2_with fail
          refine hnm.mono ?_
          rintro r w12 ⟨rfl, hn12, hb12⟩
          have hb712 : Below w7.heap.size w7 w12 := below_trans HB11.out hb12
          have hsm := same_any _ _ _ _ _ _ ns ns w12 hn12 (HN7.out.below (Nat.le_refl _) hb712)
          rw [decide_eq_true rfl] at hsm
          have HB12 := Hid.mk' hb712
          clear hnm hn12 hb12 HB11 hb712
          go_wp2_with fail
          refine hsm.mono ?_
          rintro r w13 ⟨rfl, hb13⟩
          have HEND : Hid (Below w7.heap.size w7 w13) := below_trans HB12.out hb13
          clear hsm hb13 HB12
          go_wp2
          exact ⟨⟨i + 1, s', by simp, by omega, (HF7.out.below HEND.out).fewer (fun k hk => .inl hk) HFX.out.a0, HW2.out, HKS.out, HK7.out.trans (keep_below HEND.out)⟩, by simp [intOf]; omega⟩)
    · have hbw : Below w.heap.size w wr := HB.out.trans (HK.out.below HB.out.size (fun k hk => HAA.out k hk))
      have hx1 : ¬ (i : Int) < (n : Int) := by omega
      go_wp2
      go_ret
      exact ⟨rfl, hbw⟩
end Go.Proofs.YtmlkpfkeeifgeaaDoor
