/-
  FleetForce's walk: it returns true and turns nothing that was there. Conditions: the slice lies where it is said to lie, and the table of states, too.
-/
import Derived.Test.YtmlkpfkeeifgeaaDoorForP
namespace Go.Proofs.YtmlkpfkeeifgeaaDoor
open Go.ChangeShapes Go.WideShapes Go.ChangeAt Go.RowKit

set_option maxHeartbeats 4000000 in
set_option maxRecDepth 100000 in
theorem for_walk (gd now : Int) (a1 : Option Addr) (l1 c1 : Nat) (zs : List Int) (w : World) (ht : St.Tabs w) (h1 : IntsAt w a1 l1 c1 zs) :
    Calls Tryd.prog 7 #[.int .i64 gd, .int .i64 now, .slice a1 l1 c1] w fun r w' => r = .returned (.bool true) ∧ Below w.heap.size w w' := by
  have HT := Hid.mk' ht
  have H1 := Hid.mk' h1
  clear ht h1
  go_enter Tryd.func7, Tryd.ntmps7
  go_wp2_with fail
  refine (lives_any _ HT.out).mono ?_
  rintro e w1 ⟨rfl, hb1⟩
  go_wp2_with fail
  refine (good_any _ _ _ _ _ (H1.out.below (Nat.le_refl _) hb1)).mono ?_
  rintro e w2 ⟨v, ns, rfl, hnd, hg6, hown, hb2⟩
  obtain ⟨an, cn, rfl, hs2, hbk⟩ := owns_strs hown
  have hlen6 := good_len hnd hg6
  obtain ⟨n, hn⟩ : ∃ n, ns.length = n := ⟨_, rfl⟩
  rw [hn] at hs2 hlen6 ⊢
  have HL := Hid.mk' hn
  have hncap := hs2.hle
  have hncm := hs2.hcap
  unfold maxLen at hncm
  have HN := Hid.mk' hs2
  have HG : Hid (ns.Nodup ∧ ∀ s ∈ ns, s ∈ names6) := ⟨hnd, hg6⟩
  have HA : Hid (∀ z, an = some z → z.block < w2.heap.size) := fun z hz => (hbk z hz).2
  have HB2 : Hid (Below w.heap.size w w2) := below_trans hb1 hb2
  clear hs2 hnd hg6 hown hbk hb1 hb2 hn H1
  have KR : Hid (∀ w3 A f, FA w3 A f 1 gd ⟨[], [], []⟩ → Below w2.heap.size w2 w3 → (∀ j, j < w2.heap.size → A j) → Calls Tryd.prog 21 #[.pointer (some ⟨f, 0, none⟩), .slice an n cn, .int .i64 0] w3 fun r w' => (∃ a c a' c' E, r = .returned (.tuple #[.slice a n c, .slice a' 0 c', .int .i64 E])) ∧ FA w' A f 1 gd (z0F (gr ns 0) ns) ∧ Keep A w3 w') := fun w3 A f h hb hA => by
    have hG := HG.out
    obtain ⟨e1, e2, e3, e4⟩ := res_new hG.1 (good_chk hG.1 hG.2) 0
    rw [gr_zero]
    refine (q_resolve (s := ⟨[], [], []⟩) h Inv.nil _ n cn (HN.out.below (Nat.le_refl _) hb) (fun z hz => hA _ (HA.out z hz)) (good_size hG.2) 0 (Nat.zero_le _) (Nat.zero_le _) (fun i hi => absurd hi (Nat.not_lt_zero _)) 0 ns [] n 0 e1 e2 e3 e4 HL.out rfl).mono ?_
    rintro r w' ⟨a, c, a', c', rfl, -, -, hf, hk⟩
    exact ⟨⟨a, c, a', c', _, rfl⟩, hf.fewer (fun k hk => .inl (.inl hk)) h.a0, hk⟩
  have hnew := q_new 1 gd w2 (HT.out.below HB2.out)
  go_wp2_with (first
    | (go_at_call 12; refine hnew.mono ?_; rintro r w3 ⟨f, rfl, hq, hb3⟩; clear hnew; have hp := KR.out w3 _ f hq hb3 (fun _ h => h); clear hq)
    | (go_at_call 21; refine hp.mono ?_; rintro r w4 ⟨⟨a0, d0, a0', d0', E0, rfl⟩, hq0, hk0⟩; clear hp))
  have HK0 : Hid (Keep (fun k => k < w2.heap.size) w2 w4) := (keep_below hb3).trans hk0
  have HQ0 := Hid.mk' hq0
  clear hb3 hk0 hq0 KR
  go_loopw [9] (fun v9 wr => ∃ i : Nat, v9 = .int .i64 i ∧ i ≤ n ∧ FA wr (fun k => k < w2.heap.size) f 1 gd (z0F (gr ns i) ns) ∧ Keep (fun k => k < w2.heap.size) w2 wr) (fun v9 _ => n + 1 - (intOf v9).toNat)
  case atStart => exact ⟨0, rfl, Nat.zero_le _, HQ0.out, HK0.out⟩
  case round =>
    clear HQ0 HK0
    obtain ⟨i, rfl, hi, hq, hkp⟩ := hrel
    by_cases hin : i < n
    · obtain ⟨bb, off, rfl, hbb, hxk⟩ := (HN.out.keepB hkp HA.out).at_ i hin
      have hG := HG.out
      have hil : i < ns.length := by rw [HL.out]; exact hin
      have hx : ns.getD i ⟨#[]⟩ ∈ ns := getD_mem hil
      have h0 : nameB (ns.getD i ⟨#[]⟩) = true := good_all hG.2 _ hx
      have hsz : (ns.getD i ⟨#[]⟩).size ≤ maxLen := good_size hG.2 _ hx
      have hl4 : ns.length ≤ 4000 := by have := HL.out; omega
      have hg := gr_at hG.1 hil
      have HUP : Hid (sta (up (gr ns i) (ns.getD i ⟨#[]⟩) (3, false)) ns = sta (gr ns (i + 1)) ns) := gr_up hG.1 hil
      have hcap : capF (z0F (up (gr ns i) (ns.getD i ⟨#[]⟩) (3, false)) ns).H 1 = (n : Int) - 1 - i := by
        show capF (sta _ ns) 1 = _
        rw [HUP.out]
        have := cap_gr hG.1 hl4 (k := i + 1) (by omega)
        rw [HL.out] at this
        have e : capF (sta (gr ns (i + 1)) ns) 1 = (n : Int) - ((i + 1 : Nat) : Int) := this
        rw [e]
        omega
      generalize ns.getD i ⟨#[]⟩ = x at *
      generalize gr ns i = g at *
      have hr := for_r (d := now) (e := 1) (gd := gd) h0 hx (show (up g x (3, false) x).1 = 3 by rw [up_same])
      have hinv1 : ∀ d, Inv (z1F g ns x d).L (z1F g ns x d).M := fun d => ⟨by simp [z1F, nms], by simp [z1F, nms], by simp [z1F, nms], by simp [z1F]⟩
      have KF : Hid (∀ w A f, FA w A f 1 gd (z0F g ns) → Calls Tryd.prog 31 #[.pointer (some ⟨f, 0, none⟩), .string x, .int .i64 now] w fun r w' => r = .returned (.int .i64 0) ∧ FA w' A f 1 gd (z1F g ns x now) ∧ Keep A w w') := fun w A f h => q_force h Inv.nil hsz now (Nat.zero_le _) 0 (for_f (d := now) hG.1 h0 hx hg).1 (for_f (d := now) hG.1 h0 hx hg).2
      have KS1 : Hid (∀ w A f, FA w A f 1 gd (z1F g ns x now) → Calls Tryd.prog 27 #[.pointer (some ⟨f, 0, none⟩), .string x] w fun r w' => r = .returned (.tuple #[.int .i64 1, .bool true]) ∧ FA w' A f 1 gd (z1F g ns x now) ∧ Keep A w w') := fun w A f h => q_state h 1 true (for_s1 (d := now) hx).1 (for_s1 (d := now) hx).2
      have KD1 : Hid (∀ w A f, FA w A f 1 gd (z1F g ns x now) → Calls Tryd.prog 29 #[.pointer (some ⟨f, 0, none⟩), .int .i64 now] w fun r w' => ∃ a c, r = .returned (.slice a 1 c) ∧ (Calls Tryd.prog 26 #[.slice a 1 c, .string x] w' fun r w'' => r = .returned (.bool true) ∧ w'' = w') ∧ FA w' A f 1 gd (z1F g ns x now) ∧ Keep A w w') := fun w A f h =>
        (q_due h now (by show 1 ≤ 4000; omega) [x] 1 for_due rfl).mono fun r w' ⟨a, c, q1, q2, _, q3, q4⟩ => ⟨a, c, q1, by have := has_any a 1 c [x] x w' q2; rwa [hasB_iff.2 (by simp)] at this, q3, q4⟩
      have KU : Hid (∀ w A f, FA w A f 1 gd (z1F g ns x now) → Calls Tryd.prog 32 #[.pointer (some ⟨f, 0, none⟩), .string x] w fun r w' => r = .returned (.int .i64 0) ∧ FA w' A f 1 gd (z0F g ns) ∧ Keep A w w') := fun w A f h => q_undrain h (hinv1 _) hsz 0 (for_u (d := now) hG.1 h0 hx hg).1 (for_u (d := now) hG.1 h0 hx hg).2
      have KS0 : Hid (∀ w A f, FA w A f 1 gd (z0F g ns) → Calls Tryd.prog 27 #[.pointer (some ⟨f, 0, none⟩), .string x] w fun r w' => r = .returned (.tuple #[.int .i64 0, .bool true]) ∧ FA w' A f 1 gd (z0F g ns) ∧ Keep A w w') := fun w A f h => q_state h 0 true (for_s0 hx hg).1 (for_s0 hx hg).2
      have KU0 : Hid (∀ w A f, FA w A f 1 gd (z0F g ns) → Calls Tryd.prog 32 #[.pointer (some ⟨f, 0, none⟩), .string x] w fun r w' => r = .returned (.int .i64 8) ∧ FA w' A f 1 gd (z0F g ns) ∧ Keep A w w') := fun w A f h => q_undrain h Inv.nil hsz 8 (for_u0 h0 hx hg).1 (for_u0 h0 hx hg).2
      have KD0 : Hid (∀ w A f, FA w A f 1 gd (z0F g ns) → Calls Tryd.prog 29 #[.pointer (some ⟨f, 0, none⟩), .int .i64 now] w fun r w' => ∃ a c, r = .returned (.slice a 0 c) ∧ (Calls Tryd.prog 26 #[.slice a 0 c, .string x] w' fun r w'' => r = .returned (.bool false) ∧ w'' = w') ∧ FA w' A f 1 gd (z0F g ns) ∧ Keep A w w') := fun w A f h =>
        (q_due h now (Nat.zero_le _) [] 0 rfl rfl).mono fun r w' ⟨a, c, q1, q2, _, q3, q4⟩ => ⟨a, c, q1, has_any a 0 c [] x w' q2, q3, q4⟩
      have KE : Hid (∀ w A f, FA w A f 1 gd (z1F g ns x now) → Calls Tryd.prog 30 #[.pointer (some ⟨f, 0, none⟩), .string x] w fun r w' => r = .returned (.bool true) ∧ FA w' A f 1 gd (z0F (up g x (3, false)) ns) ∧ Keep A w w') := fun w A f h => q_empty h (hinv1 _) true (for_e (d := now) hG.1 hx).1 (for_e (d := now) hG.1 hx).2
      have KS3 : Hid (∀ w A f, FA w A f 1 gd (z0F (up g x (3, false)) ns) → Calls Tryd.prog 27 #[.pointer (some ⟨f, 0, none⟩), .string x] w fun r w' => r = .returned (.tuple #[.int .i64 3, .bool true]) ∧ FA w' A f 1 gd (z0F (up g x (3, false)) ns) ∧ Keep A w w') := fun w A f h => q_state h 3 true hr.1 hr.2.1
      have KF3 : Hid (∀ w A f, FA w A f 1 gd (z0F (up g x (3, false)) ns) → Calls Tryd.prog 31 #[.pointer (some ⟨f, 0, none⟩), .string x, .int .i64 now] w fun r w' => r = .returned (.int .i64 8) ∧ FA w' A f 1 gd (z0F (up g x (3, false)) ns) ∧ Keep A w w') := fun w A f h => q_force h Inv.nil hsz now (Nat.zero_le _) 8 hr.2.2.1 hr.2.2.2.1
      have KDR : Hid (∀ w A f, FA w A f 1 gd (z0F (up g x (3, false)) ns) → Calls Tryd.prog 23 #[.pointer (some ⟨f, 0, none⟩), .string x] w fun r w' => r = .returned (.int .i64 8) ∧ FA w' A f 1 gd (z0F (up g x (3, false)) ns) ∧ Keep A w w') := fun w A f h => q_drain h hsz 8 hr.2.2.2.2.1 hr.2.2.2.2.2.1
      have KEJ : Hid (∀ w A f, FA w A f 1 gd (z0F (up g x (3, false)) ns) → Calls Tryd.prog 33 #[.pointer (some ⟨f, 0, none⟩), .string x] w fun r w' => r = .returned (.int .i64 8) ∧ FA w' A f 1 gd (z0F (up g x (3, false)) ns) ∧ Keep A w w') := fun w A f h => q_eject h hsz (by show (sta _ ns).length ≤ 4000; rw [sta_length]; exact hl4) 8 hr.2.2.2.2.2.2.1 hr.2.2.2.2.2.2.2
      have KC : Hid (∀ w A f, FA w A f 1 gd (z0F (up g x (3, false)) ns) → Calls Tryd.prog 18 #[.pointer (some ⟨f, 0, none⟩)] w fun r w' => r = .returned (.int .i64 ((n : Int) - 1 - i)) ∧ FA w' A f 1 gd (z0F (up g x (3, false)) ns) ∧ Keep A w w') := fun w A f h => q_cap h (by show (sta _ ns).length ≤ 4000; rw [sta_length]; exact hl4) _ hcap
      have HKP := Hid.mk' hkp
      have hp0 := KF.out wr _ f hq
      have hwn1 : IntKind.i64.wrap ((n : Int) - 1) = (n : Int) - 1 := by simp [IntKind.wrap, IntKind.signed, IntKind.bits]; omega
      have hwn2 : IntKind.i64.wrap ((n : Int) - 1 - i) = (n : Int) - 1 - i := by simp [IntKind.wrap, IntKind.signed, IntKind.bits]; omega
      clear hq hkp hG hil hx h0 hsz hl4 hg hcap hr hinv1
      go_wp2_with (first
        | (go_at_call 31; refine hp0.mono ?_; rintro r v1 ⟨rfl, hq1, hk1⟩; clear hp0; have hp1 := KS1.out v1 _ f hq1; clear hq1)
        | (go_at_call 27; refine hp1.mono ?_; rintro r v2 ⟨rfl, hq2, hk2⟩; clear hp1; have hp2 := KD1.out v2 _ f hq2; clear hq2)
        | (go_at_call 29; refine hp2.mono ?_; rintro r v3 ⟨a2, d2, rfl, hh2, hq3, hk3⟩; clear hp2; have hp3 := KU.out v3 _ f hq3; clear hq3)
        | (go_at_call 26; refine hh2.mono ?_; rintro r w' ⟨rfl, hw'⟩; subst w'; clear hh2)
        | (go_at_call 32; refine hp3.mono ?_; rintro r v4 ⟨rfl, hq4, hk4⟩; clear hp3; have hp4 := KS0.out v4 _ f hq4; clear hq4)
        | (go_at_call 27; refine hp4.mono ?_; rintro r v5 ⟨rfl, hq5, hk5⟩; clear hp4; have hp5 := KU0.out v5 _ f hq5; clear hq5)
        | (go_at_call 32; refine hp5.mono ?_; rintro r v6 ⟨rfl, hq6, hk6⟩; clear hp5; have hp6 := KD0.out v6 _ f hq6; clear hq6)
        | (go_at_call 29; refine hp6.mono ?_; rintro r v7 ⟨a6, d6, rfl, hh6, hq7, hk7⟩; clear hp6; have hp7 := KF.out v7 _ f hq7; clear hq7)
        | (go_at_call 26; refine hh6.mono ?_; rintro r w' ⟨rfl, hw'⟩; subst w'; clear hh6)
        | (go_at_call 31; refine hp7.mono ?_; rintro r v8 ⟨rfl, hq8, hk8⟩; clear hp7; have hp8 := KE.out v8 _ f hq8; clear hq8)
        | (go_at_call 30; refine hp8.mono ?_; rintro r v9 ⟨rfl, hq9, hk9⟩; clear hp8; have hp9 := KS3.out v9 _ f hq9; clear hq9)
        | (go_at_call 27; refine hp9.mono ?_; rintro r v10 ⟨rfl, hq10, hk10⟩; clear hp9; have hp10 := KF3.out v10 _ f hq10; clear hq10)
        | (go_at_call 31; refine hp10.mono ?_; rintro r v11 ⟨rfl, hq11, hk11⟩; clear hp10; have hp11 := KDR.out v11 _ f hq11; clear hq11)
        | (go_at_call 23; refine hp11.mono ?_; rintro r v12 ⟨rfl, hq12, hk12⟩; clear hp11; have hp12 := KEJ.out v12 _ f hq12; clear hq12)
        | (go_at_call 33; refine hp12.mono ?_; rintro r v13 ⟨rfl, hq13, hk13⟩; clear hp12; have hp13 := KC.out v13 _ f hq13; clear hq13)
        | (go_at_call 18; refine hp13.mono ?_; rintro r v14 ⟨rfl, hq14, hk14⟩; clear hp13))
      have HEND : Hid (FA v14 (fun k => k < w2.heap.size) f 1 gd (z0F (gr ns (i + 1)) ns) ∧ Keep (fun k => k < w2.heap.size) w2 v14) := by
        refine ⟨?_, HKP.out.trans (((((((((((((hk1.trans hk2).trans hk3).trans hk4).trans hk5).trans hk6).trans hk7).trans hk8).trans hk9).trans hk10).trans hk11).trans hk12).trans hk13).trans hk14)⟩
        have hq14' : FIn v14 (fun k => k < w2.heap.size) f 1 gd (sta (up g x (3, false)) ns) [] [] := hq14
        rw [HUP.out] at hq14'
        exact hq14'
      clear hq14 hk1 hk2 hk3 hk4 hk5 hk6 hk7 hk8 hk9 hk10 hk11 hk12 hk13 hk14
      exact ⟨⟨i + 1, by simp, by omega, HEND.out.1, HEND.out.2⟩, by simp [intOf]; omega⟩
    · obtain rfl : n = i := by omega
      have KN : Hid (∀ w A f, FA w A f 1 gd (z0F (gr ns n) ns) → Calls Tryd.prog 31 #[.pointer (some ⟨f, 0, none⟩), .string ⟨#[110, 111, 98, 111, 100, 121]⟩, .int .i64 now] w fun r w' => r = .returned (.int .i64 5) ∧ FA w' A f 1 gd (z0F (gr ns n) ns) ∧ Keep A w w') := fun w A f h => q_force (x := bN) h Inv.nil (by decide +kernel) now (Nat.zero_le _) 5 (for_n HG.out.2 _ now).1 (for_n HG.out.2 _ now).2
      have KQ : Hid (∀ w A f, FA w A f 1 gd (z0F (gr ns n) ns) → Calls Tryd.prog 31 #[.pointer (some ⟨f, 0, none⟩), .string ⟨#[63]⟩, .int .i64 now] w fun r w' => r = .returned (.int .i64 11) ∧ FA w' A f 1 gd (z0F (gr ns n) ns) ∧ Keep A w w') := fun w A f h => q_force (x := bQ) h Inv.nil (by decide +kernel) now (Nat.zero_le _) 11 (for_q ns _ now).1 (for_q ns _ now).2
      have hp1 := KN.out wr _ f hq
      have HKP := Hid.mk' hkp
      clear hq hkp
      go_wp2_with (first
        | (go_at_call 31; refine hp1.mono ?_; rintro r v1 ⟨rfl, hq1, hk1⟩; clear hp1; have hp2 := KQ.out v1 _ f hq1; clear hq1)
        | (go_at_call 31; refine hp2.mono ?_; rintro r v2 ⟨rfl, hq2, hk2⟩; clear hp2))
      go_ret
      refine ⟨rfl, HB2.out.trans (((HKP.out.trans hk1).trans hk2).below HB2.out.size (fun k hk => Nat.lt_of_lt_of_le hk HB2.out.size))⟩
end Go.Proofs.YtmlkpfkeeifgeaaDoor
