/-
  FleetRow's walk: it returns true and turns nothing that was there. Conditions: the slices lie where they are said to lie, and the table of states, too.
-/
import Derived.Test.YtmlkpfkeeifgeaaDoorRowP
namespace Go.Proofs.YtmlkpfkeeifgeaaDoor
open Go.ChangeShapes Go.WideShapes Go.ChangeAt Go.RowKit

set_option maxHeartbeats 4000000 in
set_option maxRecDepth 100000 in
theorem row_walk (a1 : Option Addr) (l1 c1 : Nat) (zs : List Int) (a2 : Option Addr) (l2 c2 : Nat) (ys : List Int) (x y : Int) (w : World) (ht : St.Tabs w) (h1 : IntsAt w a1 l1 c1 zs) (h2 : IntsAt w a2 l2 c2 ys) :
    Calls Tryd.prog 5 #[.slice a1 l1 c1, .slice a2 l2 c2, .agg #[.int .i64 x, .int .i64 y]] w fun r w' => r = .returned (.bool true) ∧ Below w.heap.size w w' := by
  have q1 := h2.hle
  have q2 := h2.hcap
  unfold maxLen at q2
  have HT := Hid.mk' ht
  have H1 := Hid.mk' h1
  have H2 := Hid.mk' h2
  clear ht h1 h2
  go_enter Tryd.func5, Tryd.ntmps5
  go_wp2_with fail
  obtain ⟨w0, hw0⟩ : ∃ w0, w0 = w.alloc (.cells #[.int .i64 x, .int .i64 y] 47) := ⟨_, rfl⟩
  have hb0 : Below w.heap.size w w0 := by rw [hw0]; exact (Below.refl _ w).alloc (Nat.le_refl _) _
  have hs0 : w.heap.size < w0.heap.size := by rw [hw0]; simp
  have d1 : w0.cell? ⟨w.heap.size, 0, none⟩ = some (.int .i64 x) := by rw [hw0]; simp [go_sem]
  have d2 : w0.cell? ⟨w.heap.size, 1, none⟩ = some (.int .i64 y) := by rw [hw0]; simp [go_sem]
  rw [← hw0]
  clear hw0
  refine (lives_any w0 (HT.out.below hb0)).mono ?_
  rintro e w1 ⟨rfl, hb1⟩
  go_wp2_with fail
  refine (good_any _ _ _ _ _ (H1.out.below (Nat.le_refl _) (hb0.trans (hb1.mono hb0.size)))).mono ?_
  rintro e w2 ⟨v, ns, rfl, hnd, hg6, hown, hb2⟩
  obtain ⟨an, cn, rfl, hs2, hbk⟩ := owns_strs hown
  have hlen6 := good_len hnd hg6
  obtain ⟨n, hn⟩ : ∃ n, ns.length = n := ⟨_, rfl⟩
  rw [hn] at hs2 hlen6 ⊢
  have HL := Hid.mk' hn
  have hncap := hs2.hle
  have hncm := hs2.hcap
  unfold maxLen at hncm
  have HN := Hid.mk' hs2
  have HG : Hid (ns.Nodup ∧ ∀ s ∈ ns, s ∈ names6) := ⟨hnd, hg6⟩
  have HA : Hid (∀ z, an = some z → z.block < w2.heap.size) := fun z hz => (hbk z hz).2
  have hb02 : Below w0.heap.size w0 w2 := below_trans hb1 hb2
  have HB2 : Hid (Below w.heap.size w w2) := below_trans hb0 hb02
  have e1 := (hb02.cell (p := ⟨w.heap.size, 0, none⟩) hs0).trans d1
  have e2 := (hb02.cell (p := ⟨w.heap.size, 1, none⟩) hs0).trans d2
  clear hs2 hnd hg6 hown hbk hb1 hb2 hn H1 d1 d2 hs0 hb0 hb02
  generalize hqq : w.heap.size = q at e1 e2
  clear hqq
  have hub8 := um_bd 8 x (by decide) (by decide)
  have hub41 := um_bd 41 y (by decide) (by decide)
  generalize hm8 : wrap64 ((IntKind.u64.wrap x).tmod 8) = m8 at *
  generalize hm41 : wrap64 ((IntKind.u64.wrap y).tmod 41) = gd at *
  obtain ⟨E, hE⟩ : ∃ E, 1 + m8 = E := ⟨_, rfl⟩
  go_upto_region 4 with fail
  go_quiet (fail)
  simp only [hm8, hm41]
  have HE : Hid (0 < E ∧ E ≤ 1000) := by show _ ∧ _; omega
  have HGD : Hid (0 ≤ gd ∧ gd < 41) := hub41
  have hbd : Below w2.heap.size w2 (w2.drewN nq) := ⟨rfl, rfl, rfl, Nat.le_refl _, fun _ _ => rfl⟩
  have HB3 : Hid (Below w.heap.size w (w2.drewN nq)) := HB2.out.trans (hbd.mono HB2.out.size)
  have HN3 : Hid (StrsAt (w2.drewN nq) an n cn ns) := HN.out.below (Nat.le_refl _) hbd
  have HA3 : Hid (∀ z, an = some z → z.block < (w2.drewN nq).heap.size) := HA.out
  clear hub8 hub41 hE e1 e2 hbd HB2 HN HA hm8 hm41
  generalize w2.drewN nq = w3 at *
  clear nq w2 w1 w0
  have KR : Hid (∀ w4 A f, FA w4 A f E gd ⟨[], [], []⟩ → Below w3.heap.size w3 w4 → (∀ j, j < w3.heap.size → A j) → Calls Tryd.prog 21 #[.pointer (some ⟨f, 0, none⟩), .slice an n cn, .int .i64 0] w4 fun r w' => (∃ a c a' c' E, r = .returned (.tuple #[.slice a n c, .slice a' 0 c', .int .i64 E])) ∧ FA w' A f E gd ⟨sta g0 ns, [], []⟩ ∧ Keep A w4 w') := fun w4 A f h hb hA => by
    have hG := HG.out
    obtain ⟨e1, e2, e3, e4⟩ := res_new hG.1 (good_chk hG.1 hG.2) 0
    refine (q_resolve (s := ⟨[], [], []⟩) h Inv.nil _ n cn (HN3.out.below (Nat.le_refl _) hb) (fun z hz => hA _ (HA3.out z hz)) (good_size hG.2) 0 (Nat.zero_le _) (Nat.zero_le _) (fun i hi => absurd hi (Nat.not_lt_zero _)) 0 ns [] n 0 e1 e2 e3 e4 HL.out rfl).mono ?_
    rintro r w' ⟨a, c, a', c', rfl, -, -, hf, hk⟩
    exact ⟨⟨a, c, a', c', _, rfl⟩, hf.fewer (fun k hk => .inl (.inl hk)) h.a0, hk⟩
  have hnew := q_new E gd w3 (HT.out.below HB3.out)
  go_wp2_with (first
    | (go_at_call 12; refine hnew.mono ?_; rintro r w4 ⟨f, rfl, hq, hb4⟩; clear hnew; have hp := KR.out w4 _ f hq hb4 (fun _ h => h); clear hq)
    | (go_at_call 21; refine hp.mono ?_; rintro r w5 ⟨⟨a0, d0, a0', d0', E0, rfl⟩, hq0, hk0⟩; clear hp))
  have HK0 : Hid (Keep (fun k => k < w3.heap.size) w3 w5) := (keep_below hb4).trans hk0
  have HQ0 : Hid (RwW w5 (fun k => k < w3.heap.size) f E gd [] [] ⟨sta g0 ns, [], []⟩ (.slice none 0 0) (.slice none 0 0) w5) := RwW.start hq0
  clear hb4 hk0 hq0 KR
  go_loopw [13, 11, 12] (fun v13 v11 v12 wr => ∃ (i : Nat) (O1 O2 : List ByteArray) (s : Fl), v13 = .int .i64 i ∧ i ≤ 30 ∧ RwW w5 (fun k => k < w3.heap.size) f E gd O1 O2 s v11 v12 wr ∧ RowI ns O1 O2 s i) (fun v13 _ _ _ => 31 - (intOf v13).toNat)
  case atStart => exact ⟨0, [], [], _, rfl, Nat.zero_le _, HQ0.out, RowI.start ns⟩
  case round =>
    clear HQ0
    obtain ⟨i, O1, O2, s, rfl, hi, hW, hI⟩ := hrel
    obtain ⟨b1, k1, rfl, -, -⟩ := owns_strs hW.o1
    obtain ⟨b2, k2, rfl, -, -⟩ := owns_strs hW.o2
    have hkw : Keep (fun k => k < w3.heap.size) w3 wr := HK0.out.trans hW.kp
    have hbw : Below w.heap.size w wr := HB3.out.trans (hkw.below HB3.out.size (fun k hk => Nat.lt_of_lt_of_le hk HB3.out.size))
    have HBW := Hid.mk' hbw
    have HW := Hid.mk' hW
    have HI := Hid.mk' hI
    by_cases hgo : i < l2 ∧ i < 30 ∧ 0 < n
    · obtain ⟨hg1, hg2, hg3⟩ := hgo
      obtain ⟨bb, off, rfl, hbb0, hxk0⟩ := H2.out.at_ i hg1
      have hxk := (hbw.cell (p := ⟨bb, off + i, none⟩) hbb0).trans hxk0
      have HNR : Hid (StrsAt wr an n cn ns) := HN3.out.keepB hkw HA3.out
      have hg1' : (i : Int) < (l2 : Int) := by omega
      have hg2' : (i : Int) < 30 := by omega
      have hg3' : (0 : Int) < (n : Int) := by omega
      have hG := HG.out
      have hl4 : ns.length ≤ 4000 := by have := HL.out; omega
      have hsH : s.H.length ≤ 4000 := by
        obtain ⟨g, e1, -⟩ := hI.ex
        rw [e1, sta_length]
        exact hl4
      have hO1 : O1.length ≤ 30 := by have := hI.al; omega
      have hlen := hI.len
      generalize ys.getD i 0 = z at *
      cases hz3 : (z.tmod 3 == 0) with
      | true =>
        obtain ⟨sN, hsN⟩ : ∃ R, adm E gd i s.H s.L s.M = R := ⟨_, rfl⟩
        obtain ⟨s', N⟩ := sN
        have hRI := hI.admit hG.1 hl4 E gd i HE.out.1 HE.out.2
        rw [hsN] at hRI
        obtain ⟨hRI, hcap⟩ := hRI
        have hadm := q_admit hW.fin hI.inv i hsH (by have := hI.few; omega) (fun y hy => good_all hG.2 y (hI.mem y hy)) N N.length rfl hsN
        have hNl : N.length ≤ 30 := by have := hRI.len; simp at this; omega
        have HRI := Hid.mk' hRI
        have HCAP := Hid.mk' hcap
        have HE2 := HE.out
        have HGD2 := HGD.out
        have hsH' : s'.H.length ≤ 4000 := by
          obtain ⟨g, e1, -⟩ := hRI.ex
          rw [e1, sta_length]
          exact hl4
        have hCb : 0 ≤ capF s'.H E ∧ capF s'.H E ≤ 4000000 := by
          rw [capF_one hsH' HE2.1 HE2.2]
          have := Gd.act_le (hz s'.H)
          rw [hz_length] at this
          exact Gd.mul_bd (by omega) (by omega) HE2.2
        have HC : Hid (∀ w A, FA w A f E gd s' → Calls Tryd.prog 18 #[.pointer (some ⟨f, 0, none⟩)] w fun r w' => r = .returned (.int .i64 (capF s'.H E)) ∧ FA w' A f E gd s' ∧ Keep A w w') := fun w A h => q_cap h hsH' _ rfl
        have HL1 : Hid (O2.length + N.length = (O2 ++ N).length) := by show _ = _; simp
        have HWR : Hid (∀ w6 a6 c6, w6.ownsRow wr.heap.size 9 1 (.slice a6 N.length c6) N.length (sc N) → FA w6 (fun k => k < w3.heap.size ∨ (Value.slice b1 O1.length k1).ownBlock = some k ∨ (Value.slice b2 O2.length k2).ownBlock = some k) f E gd s' → Keep (fun k => k < w3.heap.size ∨ (Value.slice b1 O1.length k1).ownBlock = some k ∨ (Value.slice b2 O2.length k2).ownBlock = some k) wr w6 →
            w6.ownsRow w5.heap.size 9 1 (.slice b2 O2.length k2) O2.length (sc O2) ∧ StrsAt w6 a6 N.length c6 N ∧ (a6 = none → N.length = 0 ∧ c6 = 0) ∧ w5.heap.size ≤ w6.heap.size ∧
            ∀ v7 w7, w7.ownsRow w5.heap.size 9 1 v7 (O2.length + N.length) (sc (O2 ++ N)) → w6.grownBy w7 (Value.slice b2 O2.length k2).ownBlock → (v7.ownBlock = (Value.slice b2 O2.length k2).ownBlock ∨ v7.ownBlock = some w6.heap.size) → RwW w5 (fun k => k < w3.heap.size) f E gd O1 (O2 ++ N) s' (.slice b1 O1.length k1) v7 w7) := fun w6 a6 c6 o6 f6 k6 => by
          have hW6 := HW.out.write (t := s') f6 k6
          obtain ⟨⟨a, c, e1, hs, hno⟩, -⟩ := TxAt.own o6
          cases e1
          refine ⟨hW6.o2, hs, hno, hW6.kp.size, fun v7 w7 o7 g7 at7 => ?_⟩
          exact (hW6.turn.app1 (by rw [← HL1.out]; exact o7) g7 at7).turn
        clear hW hI hRI hcap hxk0 hG hl4 hsH hsH' hkw hbw
        generalize hC : capF s'.H E = C at *
        generalize hn1 : O1.length = n1 at *
        generalize hn2 : O2.length = n2 at *
        generalize hm0 : N.length = m0 at *
        have hwC : IntKind.i64.wrap (C - E) = C - E := by simp [IntKind.wrap, IntKind.signed, IntKind.bits]; omega
        go_upto_region 14 with (first
          | (go_at_call 22; refine hadm.mono ?_; rintro r w6 ⟨a6, c6, rfl, o6, f6, k6⟩; obtain ⟨o62, s6, no6, sz6, HX⟩ := HWR.out w6 a6 c6 o6 f6 k6; have HX := Hid.mk' HX; clear hadm o6 f6 k6)
          | (at_builtin; refine wpList_strsAt _ rfl _ _ rfl w5.heap.size (.slice b2 n2 k2) n2 O2 N rfl o62 a6 m0 c6 rfl s6 no6 (by omega) sz6 ?_; intro v7 w7 o7 g7 at7))
        have hW7 := HX.out v7 w7 o7 g7 at7
        obtain ⟨a7, c7, rfl, -, -⟩ := owns_strs o7
        have HW7 := Hid.mk' hW7
        have hcp := HC.out w7 _ hW7.fin
        clear o7 g7 at7 hW7 o62 s6 no6 sz6 HX
        by_cases hgt : n2 + m0 < n1
        · have hgt' : ((n2 + m0 : Nat) : Int) < (n1 : Int) := by omega
          have hlt := HCAP.out hgt
          have hge : decide (gd ≤ C - E) = false := decide_eq_false (by omega)
          go_wp2_with (go_at_call 18; refine hcp.mono ?_; rintro r w8 ⟨rfl, hf8, hk8⟩)
          have hW8 := HW7.out.write (t := s') hf8 hk8
          exact ⟨⟨i + 1, O1, O2 ++ N, s', by simp, by omega, hW8, HRI.out⟩, by simp [intOf]; omega⟩
        · have hgt' : ¬ ((n2 + m0 : Nat) : Int) < (n1 : Int) := by omega
          clear hcp
          go_wp2
          exact ⟨⟨i + 1, O1, O2 ++ N, s', by simp, by omega, HW7.out, HRI.out⟩, by simp [intOf]; omega⟩
      | false =>
        have hub := um_bd n z (by omega) (by omega)
        have hwn : IntKind.u64.wrap (n : Int) = n := by simp [IntKind.wrap, IntKind.signed, IntKind.bits]; omega
        generalize hk : wrap64 ((IntKind.u64.wrap z).tmod n) = k at *
        obtain ⟨k, rfl⟩ : ∃ k' : Nat, k = k' := ⟨k.toNat, by omega⟩
        have hkn : k < n := by omega
        obtain ⟨bx, ox, rfl, hbx, hxx⟩ := HNR.out.at_ k hkn
        have hx : ns.getD k ⟨#[]⟩ ∈ ns := getD_mem (by rw [HL.out]; exact hkn)
        have hsz : (ns.getD k ⟨#[]⟩).size ≤ maxLen := good_size hG.2 _ hx
        generalize ns.getD k ⟨#[]⟩ = x at *
        have hdr := q_drain hW.fin (x := x) hsz _ rfl rfl
        by_cases hE0 : drE x s = 0
        · obtain ⟨hRI, hP⟩ := hI.drain hx hE0
          rw [hE0] at hdr
          have HRI := Hid.mk' hRI
          have HA2 : Hid (∀ w A, FA w A f E gd (drS x s) → Calls Tryd.prog 24 #[.pointer (some ⟨f, 0, none⟩), .string x] w fun r w' => r = .returned (.int .i64 ((O1.length : Int) - O2.length)) ∧ FA w' A f E gd (drS x s) ∧ Keep A w w') := fun w A h => q_ahead h _ hP
          generalize drS x s = s' at *
          have HL1 : Hid (O1.length + 1 = (O1 ++ [x]).length) := by show _ = _; simp
          have HWR : Hid (∀ w6, FA w6 (fun k => k < w3.heap.size ∨ (Value.slice b1 O1.length k1).ownBlock = some k ∨ (Value.slice b2 O2.length k2).ownBlock = some k) f E gd s' → Keep (fun k => k < w3.heap.size ∨ (Value.slice b1 O1.length k1).ownBlock = some k ∨ (Value.slice b2 O2.length k2).ownBlock = some k) wr w6 →
              (w6.alloc (.cells #[.string x] 9)).ownsRow w5.heap.size 9 1 (.slice b1 O1.length k1) O1.length (sc O1) ∧ w5.heap.size ≤ w6.heap.size ∧
              ∀ g7 c7 w7, w7.ownsRow w5.heap.size 9 1 (.slice (some ⟨g7, 0, none⟩) (O1.length + 1) c7) (O1.length + 1) (sc (O1 ++ [x])) → (w6.alloc (.cells #[.string x] 9)).grownBy w7 (Value.slice b1 O1.length k1).ownBlock → ((Value.slice b1 O1.length k1).ownBlock = some g7 ∨ g7 = (w6.alloc (.cells #[.string x] 9)).heap.size) → RwW w5 (fun k => k < w3.heap.size) f E gd (O1 ++ [x]) O2 s' (.slice (some ⟨g7, 0, none⟩) (O1.length + 1) c7) (.slice b2 O2.length k2) w7) := fun w6 f6 k6 => by
            have hW6 := HW.out.write (t := s') f6 k6
            have hW6a := hW6.below ((Below.refl _ w6).alloc (Nat.le_refl _) (.cells #[.string x] 9))
            refine ⟨hW6a.o1, hW6.kp.size, fun g7 c7 w7 o7 gr7 at7 => ?_⟩
            refine hW6a.app1 (by rw [← HL1.out]; exact o7) gr7 ?_
            rcases at7 with e | e
            · exact .inl e.symm
            · exact .inr (by rw [e]; rfl)
          have hO1b : O1.length ≤ 4000 := by omega
          have hw0 : IntKind.i64.wrap ((O1.length : Int) + 1 - (O2.length : Int)) = (O1.length : Int) + 1 - O2.length := by simp [IntKind.wrap, IntKind.signed, IntKind.bits]; omega
          have hw1 : IntKind.i64.wrap (((O1.length + 1 : Nat) : Int) - (O2.length : Int)) = (O1.length : Int) + 1 - O2.length := by simp [IntKind.wrap, IntKind.signed, IntKind.bits]; omega
          have hw2 : IntKind.i64.wrap ((O1.length : Int) + 1 - O2.length - 1) = (O1.length : Int) - O2.length := by simp [IntKind.wrap, IntKind.signed, IntKind.bits]; omega
          clear hW hI hRI hxk0 hG hl4 hsH hkw hbw hE0 hP hub
          generalize hn1 : O1.length = n1 at *
          generalize hn2 : O2.length = n2 at *
          go_upto_region 19 with (go_at_call 23; refine hdr.mono ?_; rintro r w6 ⟨rfl, f6, k6⟩; obtain ⟨o61, sz6, HX⟩ := HWR.out w6 f6 k6; have HX := Hid.mk' HX; clear hdr f6 k6)
          go_upto_region 20 with (at_builtin; refine wpList_str1 _ rfl _ _ rfl w5.heap.size (.slice b1 n1 k1) n1 O1 x rfl o61 _ 1 rfl (news_one w6 (.string x) 9 0 _ rfl) hO1b (by simp; omega) ?_; intro g7 c7 w7 o7 gr7 at7)
          have hW7 := HX.out g7 c7 w7 o7 gr7 at7
          have HW7 := Hid.mk' hW7
          have hah := HA2.out w7 _ hW7.fin
          clear o7 gr7 at7 hW7 o61 sz6 HX
          go_wp2_with (go_at_call 24; refine hah.mono ?_; rintro r w8 ⟨rfl, f8, k8⟩)
          have hW8 := HW7.out.write (t := s') f8 k8
          exact ⟨⟨i + 1, O1 ++ [x], O2, s', by simp, by omega, hW8, HRI.out⟩, by simp [intOf]; omega⟩
        · have hdS := drS_same hE0
          rw [hdS] at hdr
          have hE1 : (drE x s == 0) = false := beq_eq_false_iff_ne.2 hE0
          have HRI := Hid.mk' hI.more
          generalize drE x s = D at *
          clear hW hI hxk0 hG hl4 hsH hkw hbw hE0 hdS hub
          go_wp2_with (go_at_call 23; refine hdr.mono ?_; rintro r w6 ⟨rfl, f6, k6⟩)
          have hW6 := HW.out.write (t := s) f6 k6
          exact ⟨⟨i + 1, O1, O2, s, by simp, by omega, hW6, HRI.out⟩, by simp [intOf]; omega⟩
    · have hlen := hI.len
      have hle : O2.length ≤ O1.length := by omega
      have htk : O1.take O2.length = O2 := by rw [← hI.row, List.take_left']; rfl
      obtain ⟨a', c', e1, hs1, -⟩ := owns_strs hW.o1
      cases e1
      obtain ⟨a', c', e2, hs2, -⟩ := owns_strs hW.o2
      cases e2
      have hsm := same_any _ _ _ _ _ _ O2 (O1.take O2.length) wr hs2 (hs1.take hle)
      rw [htk, decide_eq_true rfl] at hsm
      have hc1 := hs1.hle
      have hc2 := hs1.hcap
      unfold maxLen at hc2
      have hle' : (O2.length : Int) ≤ (O1.length : Int) := by omega
      clear hW hI hs1 hs2 htk
      generalize O1.length = n1 at *
      generalize O2.length = n2 at *
      rcases (by omega : (l2 ≤ i) ∨ (i < l2 ∧ 30 ≤ i) ∨ (i < l2 ∧ i < 30 ∧ n = 0)) with h | ⟨h, h'⟩ | ⟨h, h', h''⟩
      · have hx1 : ¬ (i : Int) < (l2 : Int) := by omega
        go_wp2_with (go_at_call 25; refine hsm.mono ?_; rintro r w6 ⟨rfl, hb6⟩)
        go_ret
        exact ⟨rfl, HBW.out.trans (hb6.mono HBW.out.size)⟩
      · have hx1 : (i : Int) < (l2 : Int) := by omega
        have hx2 : ¬ (i : Int) < 30 := by omega
        go_wp2_with (go_at_call 25; refine hsm.mono ?_; rintro r w6 ⟨rfl, hb6⟩)
        go_ret
        exact ⟨rfl, HBW.out.trans (hb6.mono HBW.out.size)⟩
      · have hx1 : (i : Int) < (l2 : Int) := by omega
        have hx2 : (i : Int) < 30 := by omega
        subst h''
        go_wp2_with (go_at_call 25; refine hsm.mono ?_; rintro r w6 ⟨rfl, hb6⟩)
        go_ret
        exact ⟨rfl, HBW.out.trans (hb6.mono HBW.out.size)⟩
end Go.Proofs.YtmlkpfkeeifgeaaDoor
