/-
  ChooseBest's walk: no host that is chosen is another than one that could be; none that could be is better, and none as good stands ahead of it: it returns true and turns nothing that was there. Conditions: the hosts lie where they are said to lie.
-/
import Derived.Test.YtdiifnakmemadaaBestB
import Derived.Deep.CutRange
import Derived.Deep.CutBlock
namespace Go.Proofs.Ytdiifnakmemadaa
open Go.ChangeShapes Go.WideShapes Go.ChangeAt Go.RowKit

set_option maxHeartbeats 2000000 in
set_option maxRecDepth 100000 in
theorem best_walk (a1 : Option Addr) (l1 c1 : Nat) (hs : List Hs) (each : Int) (w : World) (hz : HostsAt w a1 l1 c1 hs) :
    Calls Try.prog 4 #[.slice a1 l1 c1, .int .i64 each] w fun e w' => e = .returned (.bool true) ∧ Below w.heap.size w w' := by
  have HZ := Hid.mk' hz
  clear hz
  go_enter Try.func4, Try.ntmps4
  go_wp2_with fail
  refine (lives_any _).mono ?_
  rintro e w1 ⟨rfl, hb1⟩
  have hf := few_any a1 l1 c1 hs w1 (HZ.out.below hb1)
  go_wp2_with fail
  refine hf.mono ?_
  rintro e w2 ⟨v, n, l, rfl, hn, hl, hsm, ho, hb2⟩
  obtain ⟨a2, c2, rfl, hh2, -⟩ := owns_hosts ho
  have hf2 := as_any a2 n c2 l w2 hh2 hn
  have HB2 : Hid (Below w.heap.size w w2) := below_trans hb1 hb2
  clear hf hb1 hb2 ho hh2
  go_wp2_with fail
  refine hf2.mono ?_
  rintro e w3 ⟨v, rfl, ho, hb3⟩
  obtain ⟨a3, c3, rfl, hh3, -⟩ := owns_hosts ho
  have HB3 : Hid (Below w.heap.size w w3) := below_trans HB2.out hb3
  have HH3 := Hid.mk' hh3
  have hle := hh3.hle
  have hc := hh3.hcap
  have HL := Hid.mk' hl
  have HSM := Hid.mk' hsm
  unfold maxLen at hc
  have h10 := Serve_any w3 a3 n c3 l hh3
  have H12 : Hid (∀ wx, Below w3.heap.size w3 wx → _) := fun wx hb => Open_any wx a3 n c3 l each (hh3.below hb)
  have hk := lst_spec servesH busyH l n
  have hm := lst_spec (opensH each) allH l n
  unfold ans at h10 H12
  generalize lst servesH busyH l n = o1 at *
  generalize lst (opensH each) allH l n = o2 at *
  obtain ⟨P1, hP1⟩ : ∃ P1, plc o1 = P1 := ⟨_, rfl⟩
  obtain ⟨P2, hP2⟩ : ∃ P2, plc o2 = P2 := ⟨_, rfl⟩
  obtain ⟨B1, hB1⟩ : ∃ B1, o1.isSome = B1 := ⟨_, rfl⟩
  obtain ⟨B2, hB2⟩ : ∃ B2, o2.isSome = B2 := ⟨_, rfl⟩
  rw [hP1, hB1] at h10
  rw [hP2, hB2] at H12
  have HK := Hid.mk' (And.intro hk (And.intro hP1 hB1))
  have HM := Hid.mk' (And.intro hm (And.intro hP2 hB2))
  clear hf2 ho hh3 hb3 HB2 hsm hl hk hm hP1 hP2 hB1 hB2
  go_upto_region 5 with (first
    | (go_at_call 10; refine h10.mono ?_; rintro e w4 ⟨rfl, hb4⟩; have h12 := H12.out w4 hb4))
  go_upto_region 6 with (first
    | (go_at_call 12; refine h12.mono ?_; rintro e w5 ⟨rfl, hb5⟩))
  have HB5 : Hid (Below w3.heap.size w3 w5) := below_trans hb4 hb5
  clear h10 h12 H12 hb4 hb5
  go_wp2
  go_loopw [10] (fun v10 wr => ∃ i : Nat, v10 = .int .i64 i ∧ i ≤ n ∧ Below w3.heap.size w3 wr) (fun v10 _ => n + 1 - (intOf v10).toNat)
  case atStart => exact ⟨0, rfl, Nat.zero_le _, HB5.out⟩
  case round =>
    clear HB5
    obtain ⟨i, rfl, hi, hbl⟩ := hrel
    by_cases h1 : i < n
    · obtain ⟨b, off, rfl, hlt, c0, c1, c2, c3', c4⟩ := (HH3.out.below hbl).rd i h1
      have hall := All_any wr _ _ _ _ ((HH3.out.below hbl).only h1)
      rw [allL_only] at hall
      have HSI : Hid (servesH (l.getD i z0) = true → o1 ≠ none) := fun h e => by
        have := HK.out.1.1 e i h1
        rw [h] at this
        cases this
      have HOI : Hid (opensH each (l.getD i z0) = true → o2 ≠ none) := fun h e => by
        have := HM.out.1.1 e i h1
        rw [h] at this
        cases this
      have HKI : Hid (∀ k, o1 = some k → k < n ∧ servesH (l.getD k z0) = true ∧ (servesH (l.getD i z0) = true → busyH (l.getD k z0) ≤ busyH (l.getD i z0) ∧ (i < k → busyH (l.getD k z0) < busyH (l.getD i z0)))) := fun k e => ⟨(HK.out.1.2 k e).1, (HK.out.1.2 k e).2.1, fun h => (HK.out.1.2 k e).2.2 i h1 h⟩
      have HMI : Hid (∀ k, o2 = some k → k < n ∧ opensH each (l.getD k z0) = true ∧ (opensH each (l.getD i z0) = true → allH (l.getD k z0) ≤ allH (l.getD i z0) ∧ (i < k → allH (l.getD k z0) < allH (l.getD i z0)))) := fun k e => ⟨(HM.out.1.2 k e).1, (HM.out.1.2 k e).2.1, fun h => (HM.out.1.2 k e).2.2 i h1 h⟩
      have HCK : Hid (∀ k, k < n → HC wr b (off + k * 5) (l.getD k z0)) := fun k hk => by
        obtain ⟨b', off', e, _, hx⟩ := (HH3.out.below hbl).rd k hk
        cases e
        exact hx
      have HSM1 : Hid (∀ k, (l.getD k z0).bz ≤ 9223372036854775807) := fun k => by have := (HSM.out.at_ k).2.2.2.2.2; omega
      have HB3i := HSM1.out i
      obtain ⟨h0, hh0⟩ : ∃ h0, l.getD i z0 = h0 := ⟨_, rfl⟩
      rw [hh0] at c0 c1 c2 c3' c4 hall HSI HOI HKI HMI HB3i
      have HH0 := Hid.mk' hh0
      clear hh0
      obtain ⟨s, m, d, bz, y⟩ := h0
      simp only [] at c0 c1 c2 c3' c4 HB3i
      have hbu := busyH_of s m d bz y HB3i
      obtain ⟨T1, q1⟩ : ∃ T1, (if bz < 0 then 0 else bz) = T1 := ⟨_, rfl⟩
      have e1 : max bz 0 = T1 := by omega
      rw [hbu, e1] at HKI
      obtain ⟨A1, hA1⟩ : ∃ A1, allH ⟨s, m, d, bz, y⟩ = A1 := ⟨_, rfl⟩
      rw [hA1] at hall HMI
      have hS : servesH ⟨s, m, d, bz, y⟩ = (s == 0 && decide (0 < d)) := rfl
      have hO : opensH each ⟨s, m, d, bz, y⟩ = (s == 0 && y && decide (A1 < each)) := by rw [← hA1]; rfl
      generalize hSg : servesH ⟨s, m, d, bz, y⟩ = S at *
      generalize hOg : opensH each ⟨s, m, d, bz, y⟩ = O at *
      have HS := Hid.mk' hS
      have HO := Hid.mk' hO
      have HSX := Hid.mk' hSg
      have HOX := Hid.mk' hOg
      have HAX := Hid.mk' hA1
      have HBL := Hid.mk' hbl
      have Q1 := Hid.mk' q1
      have hin : (i : Int) < (n : Int) := by omega
      have hic : i < c3 := by omega
      clear hbu e1 hA1 hS hO hbl HB3i q1 hSg hOg
      go_upto_region 11 with (first | (go_at_call 16; refine hall.mono ?_; rintro e w6 ⟨rfl, hb6⟩))
      have x0 := hb6.cell (p := ⟨b, off + i * 5, none⟩) hlt
      have x2 := hb6.cell (p := ⟨b, off + i * 5 + 2, none⟩) hlt
      have x3 := hb6.cell (p := ⟨b, off + i * 5 + 3, none⟩) hlt
      have x4 := hb6.cell (p := ⟨b, off + i * 5 + 4, none⟩) hlt
      rw [c0] at x0
      rw [c2] at x2
      rw [c3'] at x3
      rw [c4] at x4
      have HCK6 : Hid (∀ k, k < n → HC w6 b (off + k * 5) (l.getD k z0)) := fun k hk => (HCK.out k hk).below hlt hb6
      have HB6 : Hid (Below w3.heap.size w3 w6) := below_trans HBL.out hb6
      clear c0 c1 c2 c3' c4 hall hb6 HBL HCK hlt
      go_cut [13] from 31 to 169 (fun v13 wx => v13 = .bool S ∧ wx = w6)
      case first =>
        cases hs0 : (s == 0) with
        | false =>
          have HX : Hid (S = false) := by show _ = _; rw [HS.out, hs0]; rfl
          go_wp2_with fail
          go_meet
          exact ⟨by rw [HX.out], rfl⟩
        | true =>
          by_cases hd : 0 < d
          · have HX : Hid (S = true) := by show _ = _; rw [HS.out, hs0, decide_eq_true hd]; rfl
            go_wp2_with fail
            go_meet
            exact ⟨by rw [HX.out], rfl⟩
          · have HX : Hid (S = false) := by show _ = _; rw [HS.out, hs0, decide_eq_false hd]; rfl
            go_wp2_with fail
            go_meet
            exact ⟨by rw [HX.out], rfl⟩
      case rest =>
        obtain ⟨rfl, rfl⟩ := hcut
        go_upto_region 12 with fail
        go_cut [14] from 31 to 169 (fun v14 wx => v14 = .bool O ∧ wx = wc)
        case first =>
          cases hs0 : (s == 0) with
          | false =>
            have HX : Hid (O = false) := by show _ = _; rw [HO.out, hs0]; rfl
            go_wp2_with fail
            go_meet
            exact ⟨by rw [HX.out], rfl⟩
          | true =>
            cases y with
            | false =>
              have HX : Hid (O = false) := by show _ = _; rw [HO.out, hs0]; rfl
              go_wp2_with fail
              go_meet
              exact ⟨by rw [HX.out], rfl⟩
            | true =>
              by_cases hte : A1 < each
              · have HX : Hid (O = true) := by show _ = _; rw [HO.out, hs0, decide_eq_true hte]; rfl
                go_wp2_with fail
                go_meet
                exact ⟨by rw [HX.out], rfl⟩
              · have HX : Hid (O = false) := by show _ = _; rw [HO.out, hs0, decide_eq_false hte]; rfl
                go_wp2_with fail
                go_meet
                exact ⟨by rw [HX.out], rfl⟩
        case rest =>
          obtain ⟨rfl, hwc⟩ := hcut
          subst hwc
          clear HS HO
          have HD1 : (S = false ∧ B1 = false ∧ (i : Int) = P1) ∨ (S = false ∧ (i : Int) ≠ P1) ∨ (S = true ∧ B1 = true ∧ ∃ (k : Nat) (b2 T2 : Int), (k : Int) = P1 ∧ k < n ∧ wc.cell? ⟨b, off + k * 5 + 3, none⟩ = some (.int .i64 b2) ∧ (if b2 < 0 then 0 else b2) = T2 ∧ T2 ≤ T1 ∧ (i < k → T2 < T1) ∧ (i = k → b2 = bz)) := by
            cases S with
            | false =>
              by_cases hip : (i : Int) = P1
              · refine .inl ⟨rfl, ?_, hip⟩
                cases ho1 : o1 with
                | none => rw [← HK.out.2.2, ho1]; rfl
                | some k =>
                  exfalso
                  have h2 := HKI.out k ho1
                  have h3 := HK.out.2.1
                  rw [ho1] at h3
                  have h4 : (k : Int) = P1 := h3
                  have h5 : k = i := by omega
                  rw [h5, HH0.out] at h2
                  have h6 := HSX.out
                  rw [h2.2.1] at h6
                  cases h6
              · exact .inr (.inl ⟨rfl, hip⟩)
            | true =>
              cases ho1 : o1 with
              | none => exact absurd ho1 (HSI.out rfl)
              | some k =>
                have h2 := HKI.out k ho1
                obtain ⟨hkn, -, h3⟩ := h2
                obtain ⟨h4, h5⟩ := h3 rfl
                have hP : (k : Int) = P1 := by have h3 := HK.out.2.1; rw [ho1] at h3; exact h3
                have hB : B1 = true := by rw [← HK.out.2.2, ho1]; rfl
                obtain ⟨_, _, _, y3, _⟩ := HCK6.out k hkn
                have hbk := HSM1.out k
                have hik : i = k → (l.getD k z0).bz = bz := fun e => by rw [← e, HH0.out]
                generalize l.getD k z0 = h2 at *
                obtain ⟨s2, m2, d2, b2, y2⟩ := h2
                simp only [] at y3 hbk hik
                rw [busyH_of s2 m2 d2 b2 y2 hbk] at h4 h5
                have e2 : max b2 0 = if b2 < 0 then 0 else b2 := by omega
                rw [e2] at h4 h5
                exact .inr (.inr ⟨rfl, hB, k, b2, _, hP, hkn, y3, rfl, h4, h5, hik⟩)
          have HD := Hid.mk' HD1
          clear HD1 x0 x2 x4 HCK6 HSM1 HSX HSI HKI HSM
          go_upto_region 13 with fail
          refine reg13 wc b off n c3 i P1 bz T1 B1 S h1 x3 Q1.out HD.out ?_
          clear HD x3 Q1
          iterate 51 intro _
          intro wd hb7
          have HB7 : Hid (Below w3.heap.size w3 wd) := below_trans HB6.out hb7
          have HD2 : (O = false ∧ B2 = false ∧ (i : Int) = P2) ∨ (O = false ∧ (i : Int) ≠ P2) ∨ (O = true ∧ B2 = true ∧ ∃ (k : Nat) (A2 : Int), (k : Int) = P2 ∧ k < n ∧ (∀ wx, Below wd.heap.size wd wx → Calls Try.prog 16 #[.slice (some ⟨b, off + k * 5, none⟩) 1 (c3 - k)] wx fun e w' => e = .returned (.int .i64 A2) ∧ Below wx.heap.size wx w') ∧ A2 ≤ A1 ∧ (i < k → A2 < A1) ∧ (i = k → A2 = A1)) := by
            cases O with
            | false =>
              by_cases hip : (i : Int) = P2
              · refine .inl ⟨rfl, ?_, hip⟩
                cases ho1 : o2 with
                | none => rw [← HM.out.2.2, ho1]; rfl
                | some k =>
                  exfalso
                  have h2 := HMI.out k ho1
                  have h3 := HM.out.2.1
                  rw [ho1] at h3
                  have h4 : (k : Int) = P2 := h3
                  have h5 : k = i := by omega
                  rw [h5, HH0.out] at h2
                  have h6 := HOX.out
                  rw [h2.2.1] at h6
                  cases h6
              · exact .inr (.inl ⟨rfl, hip⟩)
            | true =>
              cases ho1 : o2 with
              | none => exact absurd ho1 (HOI.out rfl)
              | some k =>
                have h2 := HMI.out k ho1
                obtain ⟨hkn, -, h3⟩ := h2
                obtain ⟨h4, h5⟩ := h3 rfl
                have hP : (k : Int) = P2 := by have h3 := HM.out.2.1; rw [ho1] at h3; exact h3
                have hB : B2 = true := by rw [← HM.out.2.2, ho1]; rfl
                have hik : i = k → allH (l.getD k z0) = A1 := fun e => by rw [← e, HH0.out]; exact HAX.out
                refine .inr (.inr ⟨rfl, hB, k, _, hP, hkn, fun wx hb => ?_, h4, h5, hik⟩)
                have := All_any wx _ _ _ _ ((HH3.out.below (below_trans HB7.out hb)).only hkn)
                rwa [allL_only] at this
          have HD := Hid.mk' HD2
          clear HD2 HB6 hb7 HOX HAX HOI HMI HH0
          go_upto_region 15 with fail
          refine reg15 wd b off n c3 i each P2 A1 B2 O h1 hle hc HD.out ?_
          clear HD
          iterate 41 intro _
          intro we hb8
          have HE : Hid (Below w3.heap.size w3 we) := below_trans HB7.out hb8
          clear hb8 HB7
          go_wp2
          exact ⟨⟨i + 1, by simp, by omega, HE.out⟩, by simp [intOf]; omega⟩
    · obtain rfl : i = n := by omega
      have HE : Hid (Below w.heap.size w wr) := below_trans HB3.out hbl
      clear hbl
      cases ho1 : o1 with
      | none =>
        cases ho2 : o2 with
        | none =>
          have hb1 : B1 = false := by rw [← HK.out.2.2, ho1]; rfl
          have hb2 : B2 = false := by rw [← HM.out.2.2, ho2]; rfl
          have hp1 : P1 = 0 := by rw [← HK.out.2.1, ho1]; rfl
          have hp2 : P2 = 0 := by rw [← HM.out.2.1, ho2]; rfl
          subst hb1 hb2 hp1 hp2
          go_wp2
          all_goals (go_ret; exact ⟨rfl, HE.out⟩)
        | some q =>
          have hb1 : B1 = false := by rw [← HK.out.2.2, ho1]; rfl
          have hb2 : B2 = true := by rw [← HM.out.2.2, ho2]; rfl
          have hp1 : P1 = 0 := by rw [← HK.out.2.1, ho1]; rfl
          have hin0 : (0 : Int) < (i : Int) := by have := (HM.out.1.2 q ho2).1; omega
          subst hb1 hb2 hp1
          go_wp2
          all_goals (go_ret; exact ⟨rfl, HE.out⟩)
      | some p =>
        have hb1 : B1 = true := by rw [← HK.out.2.2, ho1]; rfl
        have hin0 : (0 : Int) < (i : Int) := by have := (HK.out.1.2 p ho1).1; omega
        cases ho2 : o2 with
        | none =>
          have hb2 : B2 = false := by rw [← HM.out.2.2, ho2]; rfl
          have hp2 : P2 = 0 := by rw [← HM.out.2.1, ho2]; rfl
          subst hb1 hb2 hp2
          go_wp2
          all_goals (go_ret; exact ⟨rfl, HE.out⟩)
        | some q =>
          have hb2 : B2 = true := by rw [← HM.out.2.2, ho2]; rfl
          subst hb1 hb2
          go_wp2
          all_goals (go_ret; exact ⟨rfl, HE.out⟩)

end Go.Proofs.Ytdiifnakmemadaa
