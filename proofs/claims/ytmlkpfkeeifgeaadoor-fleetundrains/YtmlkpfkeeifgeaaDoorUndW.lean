/-
  FleetUndrains' walk: it returns true and turns nothing that was there. Conditions: the slice lies where it is said to lie, and the table of states, too.
-/
import Derived.Test.YtmlkpfkeeifgeaaDoorM1
namespace Go.Proofs.YtmlkpfkeeifgeaaDoor
open Go.ChangeShapes Go.WideShapes Go.ChangeAt Go.RowKit

set_option maxHeartbeats 4000000 in
set_option maxRecDepth 100000 in
theorem und_walk (a1 : Option Addr) (l1 c1 : Nat) (zs : List Int) (which how : Int) (w : World) (ht : St.Tabs w) (h1 : IntsAt w a1 l1 c1 zs) :
    Calls Tryd.prog 10 #[.slice a1 l1 c1, .int .i64 which, .int .i64 how] w fun r w' => r = .returned (.bool true) ∧ Below w.heap.size w w' := by
  have HT := Hid.mk' ht
  have H1 := Hid.mk' h1
  clear ht h1
  go_enter Tryd.func10, Tryd.ntmps10
  go_wp2_with fail
  refine (lives_any _ HT.out).mono ?_
  rintro e w1 ⟨rfl, hb1⟩
  go_wp2_with fail
  refine (good_any _ _ _ _ _ (H1.out.below (Nat.le_refl _) hb1)).mono ?_
  rintro e w2 ⟨v, ns, rfl, hnd, hg6, hown, hb2⟩
  obtain ⟨an, cn, rfl, hs2, hbk⟩ := owns_strs hown
  have hlen6 := good_len hnd hg6
  obtain ⟨n, hn⟩ : ∃ n, ns.length = n := ⟨_, rfl⟩
  rw [hn] at hs2 hlen6 ⊢
  have HL := Hid.mk' hn
  have hncap := hs2.hle
  have hncm := hs2.hcap
  unfold maxLen at hncm
  have HN := Hid.mk' hs2
  have HG : Hid (ns.Nodup ∧ ∀ s ∈ ns, s ∈ names6) := ⟨hnd, hg6⟩
  have HA : Hid (∀ z, an = some z → z.block < w2.heap.size) := fun z hz => (hbk z hz).2
  have HB2 : Hid (Below w.heap.size w w2) := below_trans hb1 hb2
  clear hs2 hnd hg6 hown hbk hb1 hb2 hn H1
  by_cases hz : n = 0
  · subst hz
    go_wp2
    go_ret
    exact ⟨rfl, HB2.out⟩
  · have hz1 : ((n : Int) == 0) = false := beq_eq_false_iff_ne.2 (by omega)
    have hub := um_bd n which (by omega) (by omega)
    have hwn : IntKind.u64.wrap (n : Int) = n := by simp [IntKind.wrap, IntKind.signed, IntKind.bits]; omega
    have hub3 := um_bd 3 how (by decide) (by decide)
    generalize hk : wrap64 ((IntKind.u64.wrap which).tmod n) = k at *
    generalize hm3 : wrap64 ((IntKind.u64.wrap how).tmod 3) = m3 at *
    obtain ⟨k, rfl⟩ : ∃ k' : Nat, k = k' := ⟨k.toNat, by omega⟩
    have hkn : k < n := by omega
    obtain ⟨bb, off, rfl, hbb, hxk⟩ := HN.out.at_ k hkn
    have hG := HG.out
    have hx : ns.getD k ⟨#[]⟩ ∈ ns := getD_mem (by rw [HL.out]; exact hkn)
    have h0 : nameB (ns.getD k ⟨#[]⟩) = true := good_all hG.2 _ hx
    have hsz : (ns.getD k ⟨#[]⟩).size ≤ maxLen := good_size hG.2 _ hx
    have hl4 : ns.length ≤ 4000 := by have := HL.out; omega
    generalize ns.getD k ⟨#[]⟩ = x at *
    have hinv0 : Inv (u0 ns).L (u0 ns).M := Inv.nil
    have hHl : (u0 ns).H.length ≤ 4000 := by show (sta g0 ns).length ≤ 4000; rw [sta_length]; exact hl4
    have KR : Hid (∀ w3 A f, FA w3 A f 1 0 ⟨[], [], []⟩ → Below w2.heap.size w2 w3 → (∀ j, j < w2.heap.size → A j) → Calls Tryd.prog 21 #[.pointer (some ⟨f, 0, none⟩), .slice (some ⟨bb, off, none⟩) n cn, .int .i64 0] w3 fun r w' => (∃ a c a' c' E, r = .returned (.tuple #[.slice a n c, .slice a' 0 c', .int .i64 E])) ∧ FA w' A f 1 0 (u0 ns) ∧ Keep A w3 w') := fun w3 A f h hb hA => by
      obtain ⟨e1, e2, e3, e4⟩ := res_new hG.1 (good_chk hG.1 hG.2) 0
      refine (q_resolve (s := ⟨[], [], []⟩) h Inv.nil _ n cn (HN.out.below (Nat.le_refl _) hb) (fun z hz => hA _ (HA.out z hz)) (good_size hG.2) 0 (Nat.zero_le _) (Nat.zero_le _) (fun i hi => absurd hi (Nat.not_lt_zero _)) 0 ns [] n 0 e1 e2 e3 e4 HL.out rfl).mono ?_
      rintro r w' ⟨a, c, a', c', rfl, -, -, hf, hk⟩
      exact ⟨⟨a, c, a', c', _, rfl⟩, hf.fewer (fun k hk => .inl (.inl hk)) h.a0, hk⟩
    have K1 : Hid (∀ w A f, FA w A f 1 0 (u0 ns) → Calls Tryd.prog 23 #[.pointer (some ⟨f, 0, none⟩), .string x] w fun r w' => r = .returned (.int .i64 0) ∧ FA w' A f 1 0 (u1 ns x) ∧ Keep A w w') := fun w A f h => q_drain h hsz 0 (und_d1 h0 hx).1 (und_d1 h0 hx).2
    have K2 : Hid (∀ w A f, FA w A f 1 0 (u1 ns x) → Calls Tryd.prog 23 #[.pointer (some ⟨f, 0, none⟩), .string x] w fun r w' => r = .returned (.int .i64 6) ∧ FA w' A f 1 0 (u1 ns x) ∧ Keep A w w') := fun w A f h => q_drain h hsz 6 (und_d2 h0 hx).1 (und_d2 h0 hx).2
    have K3 : Hid (∀ w A f, FA w A f 1 0 (u1 ns x) → Calls Tryd.prog 24 #[.pointer (some ⟨f, 0, none⟩), .string x] w fun r w' => r = .returned (.int .i64 0) ∧ FA w' A f 1 0 (u1 ns x) ∧ Keep A w w') := fun w A f h => q_ahead h 0 und_a1
    have K4 : Hid (∀ w A f, FA w A f 1 0 (u1 ns x) → Calls Tryd.prog 22 #[.pointer (some ⟨f, 0, none⟩), .int .i64 9] w fun r w' => (∃ a c, r = .returned (.slice a 1 c)) ∧ FA w' A f 1 0 (u2 ns x) ∧ Keep A w w') := fun w A f h =>
      (q_admit h u1_inv 9 hHl (by show 0 + 1 ≤ 4000; omega) (by intro y hy; simp [u1, nms] at hy; rw [hy]; exact h0) [x] 1 rfl (und_ad hG.1 h0 hx)).mono fun r w' ⟨a, c, q1, _, q2, q3⟩ => ⟨⟨a, c, q1⟩, q2, q3⟩
    have K5 : Hid (∀ w A f, FA w A f 1 0 (u2 ns x) → Calls Tryd.prog 30 #[.pointer (some ⟨f, 0, none⟩), .string x] w fun r w' => r = .returned (.bool true) ∧ FA w' A f 1 0 (u3 ns x) ∧ Keep A w w') := fun w A f h => q_empty h u2_inv true (und_em hG.1 hx).1 (und_em hG.1 hx).2
    have K6 : Hid (∀ w A f, FA w A f 1 0 (u1 ns x) → Calls Tryd.prog 32 #[.pointer (some ⟨f, 0, none⟩), .string x] w fun r w' => r = .returned (.int .i64 0) ∧ FA w' A f 1 0 (u0 ns) ∧ Keep A w w') := fun w A f h => q_undrain h u1_inv hsz 0 (und_u1 h0 hx).1 (und_u1 h0 hx).2
    have K6b : Hid (∀ w A f, FA w A f 1 0 (u2 ns x) → Calls Tryd.prog 32 #[.pointer (some ⟨f, 0, none⟩), .string x] w fun r w' => r = .returned (.int .i64 0) ∧ FA w' A f 1 0 (u0 ns) ∧ Keep A w w') := fun w A f h => q_undrain h u2_inv hsz 0 (und_u2 hG.1 h0 hx).1 (und_u2 hG.1 h0 hx).2
    have K6c : Hid (∀ w A f, FA w A f 1 0 (u3 ns x) → Calls Tryd.prog 32 #[.pointer (some ⟨f, 0, none⟩), .string x] w fun r w' => r = .returned (.int .i64 0) ∧ FA w' A f 1 0 (u0 ns) ∧ Keep A w w') := fun w A f h => q_undrain h hinv0 hsz 0 (und_u3 hG.1 h0 hx).1 (und_u3 hG.1 h0 hx).2
    have K7 : Hid (∀ w A f, FA w A f 1 0 (u0 ns) → Calls Tryd.prog 27 #[.pointer (some ⟨f, 0, none⟩), .string x] w fun r w' => r = .returned (.tuple #[.int .i64 0, .bool true]) ∧ FA w' A f 1 0 (u0 ns) ∧ Keep A w w') := fun w A f h => q_state h 0 true (und_st hx).1 (und_st hx).2
    have K8 : Hid (∀ w A f, FA w A f 1 0 (u0 ns) → Calls Tryd.prog 29 #[.pointer (some ⟨f, 0, none⟩), .int .i64 9] w fun r w' => (∃ a c, r = .returned (.slice a 0 c)) ∧ FA w' A f 1 0 (u0 ns) ∧ Keep A w w') := fun w A f h =>
      (q_due h 9 (Nat.zero_le _) [] 0 rfl rfl).mono fun r w' ⟨a, c, q1, _, _, q2, q3⟩ => ⟨⟨a, c, q1⟩, q2, q3⟩
    have K9 : Hid (∀ w A f, FA w A f 1 0 (u0 ns) → Calls Tryd.prog 24 #[.pointer (some ⟨f, 0, none⟩), .string x] w fun r w' => r = .returned (.int .i64 (-1)) ∧ FA w' A f 1 0 (u0 ns) ∧ Keep A w w') := fun w A f h => q_ahead h (-1) (plc_nil x)
    have K10 : Hid (∀ w A f, FA w A f 1 0 (u0 ns) → Calls Tryd.prog 18 #[.pointer (some ⟨f, 0, none⟩)] w fun r w' => r = .returned (.int .i64 n) ∧ FA w' A f 1 0 (u0 ns) ∧ Keep A w w') := fun w A f h => q_cap h hHl n (by rw [cap_g0 hl4, HL.out])
    have K11 : Hid (∀ w A f, FA w A f 1 0 (u0 ns) → Calls Tryd.prog 22 #[.pointer (some ⟨f, 0, none⟩), .int .i64 9] w fun r w' => (∃ a c, r = .returned (.slice a 0 c)) ∧ FA w' A f 1 0 (u0 ns) ∧ Keep A w w') := fun w A f h =>
      (q_admit h hinv0 9 hHl (Nat.zero_le _) (by intro y hy; cases hy) [] 0 rfl rfl).mono fun r w' ⟨a, c, q1, _, q2, q3⟩ => ⟨⟨a, c, q1⟩, q2, q3⟩
    have K12 : Hid (∀ w A f, FA w A f 1 0 (u0 ns) → Calls Tryd.prog 32 #[.pointer (some ⟨f, 0, none⟩), .string x] w fun r w' => r = .returned (.int .i64 8) ∧ FA w' A f 1 0 (u0 ns) ∧ Keep A w w') := fun w A f h => q_undrain h hinv0 hsz 8 (und_u0 h0 hx).1 (und_u0 h0 hx).2
    have hnew := q_new 1 0 w2 (HT.out.below HB2.out)
    have HPOS : Hid (Below w.heap.size w w2) := HB2.out
    clear hG hx h0 hsz hl4 hinv0 hHl
    have hm3 : m3 = 0 ∨ m3 = 1 ∨ m3 = 2 := by omega
    clear hub3
    go_upto_region 7 with fail
    rcases hm3 with rfl | rfl | rfl
    · go_wp2_with (first
        | (go_at_call 12; refine hnew.mono ?_; rintro r w3 ⟨f, rfl, hq, hb3⟩; clear hnew; have hp := KR.out w3 _ f hq hb3 (fun _ h => h); clear hq)
        | (refine hp.mono ?_; rintro r v0 ⟨⟨a0, d0, a0', d0', E0, rfl⟩, hq0, hk0⟩; clear hp; have hp0 := K1.out v0 _ f hq0; clear hq0)
        | (refine hp0.mono ?_; rintro r v1 ⟨rfl, hq1, hk1⟩; clear hp0; have hp1 := K2.out v1 _ f hq1; clear hq1)
        | (refine hp1.mono ?_; rintro r v2 ⟨rfl, hq2, hk2⟩; clear hp1; have hp2 := K3.out v2 _ f hq2; clear hq2)
        | (refine hp2.mono ?_; rintro r v3 ⟨rfl, hq3, hk3⟩; clear hp2; have hp3 := K6.out v3 _ f hq3; clear hq3)
        | (refine hp3.mono ?_; rintro r v4 ⟨rfl, hq4, hk4⟩; clear hp3; have hp4 := K7.out v4 _ f hq4; clear hq4)
        | (refine hp4.mono ?_; rintro r v5 ⟨rfl, hq5, hk5⟩; clear hp4; have hp5 := K8.out v5 _ f hq5; clear hq5)
        | (refine hp5.mono ?_; rintro r v6 ⟨⟨a6, d6, rfl⟩, hq6, hk6⟩; clear hp5; have hp6 := K9.out v6 _ f hq6; clear hq6)
        | (refine hp6.mono ?_; rintro r v7 ⟨rfl, hq7, hk7⟩; clear hp6; have hp7 := K10.out v7 _ f hq7; clear hq7)
        | (refine hp7.mono ?_; rintro r v8 ⟨rfl, hq8, hk8⟩; clear hp7; have hp8 := K11.out v8 _ f hq8; clear hq8)
        | (refine hp8.mono ?_; rintro r v9 ⟨⟨a9, d9, rfl⟩, hq9, hk9⟩; clear hp8; have hp9 := K12.out v9 _ f hq9; clear hq9)
        | (refine hp9.mono ?_; rintro r v10 ⟨rfl, hq10, hk10⟩; clear hp9))
      go_ret
      refine ⟨rfl, ?_⟩
      have hkk := ((((((((((hk0.trans hk1).trans hk2).trans hk3).trans hk4).trans hk5).trans hk6).trans hk7).trans hk8).trans hk9).trans hk10)
      exact (HPOS.out.trans (hb3.mono HPOS.out.size)).trans ((hkk.below (B := w.heap.size) (Nat.le_trans HPOS.out.size hb3.size) (fun k hk => Nat.lt_of_lt_of_le hk HPOS.out.size)))
    · go_wp2_with (first
        | (go_at_call 12; refine hnew.mono ?_; rintro r w3 ⟨f, rfl, hq, hb3⟩; clear hnew; have hp := KR.out w3 _ f hq hb3 (fun _ h => h); clear hq)
        | (refine hp.mono ?_; rintro r v0 ⟨⟨a0, d0, a0', d0', E0, rfl⟩, hq0, hk0⟩; clear hp; have hp0 := K1.out v0 _ f hq0; clear hq0)
        | (refine hp0.mono ?_; rintro r v1 ⟨rfl, hq1, hk1⟩; clear hp0; have hp1 := K2.out v1 _ f hq1; clear hq1)
        | (refine hp1.mono ?_; rintro r v2 ⟨rfl, hq2, hk2⟩; clear hp1; have hp2 := K3.out v2 _ f hq2; clear hq2)
        | (refine hp2.mono ?_; rintro r v3 ⟨rfl, hq3, hk3⟩; clear hp2; have hp3 := K4.out v3 _ f hq3; clear hq3)
        | (refine hp3.mono ?_; rintro r v4 ⟨⟨a4, d4, rfl⟩, hq4, hk4⟩; clear hp3; have hp4 := K6b.out v4 _ f hq4; clear hq4)
        | (refine hp4.mono ?_; rintro r v5 ⟨rfl, hq5, hk5⟩; clear hp4; have hp5 := K7.out v5 _ f hq5; clear hq5)
        | (refine hp5.mono ?_; rintro r v6 ⟨rfl, hq6, hk6⟩; clear hp5; have hp6 := K8.out v6 _ f hq6; clear hq6)
        | (refine hp6.mono ?_; rintro r v7 ⟨⟨a7, d7, rfl⟩, hq7, hk7⟩; clear hp6; have hp7 := K9.out v7 _ f hq7; clear hq7)
        | (refine hp7.mono ?_; rintro r v8 ⟨rfl, hq8, hk8⟩; clear hp7; have hp8 := K10.out v8 _ f hq8; clear hq8)
        | (refine hp8.mono ?_; rintro r v9 ⟨rfl, hq9, hk9⟩; clear hp8; have hp9 := K11.out v9 _ f hq9; clear hq9)
        | (refine hp9.mono ?_; rintro r v10 ⟨⟨a10, d10, rfl⟩, hq10, hk10⟩; clear hp9; have hp10 := K12.out v10 _ f hq10; clear hq10)
        | (refine hp10.mono ?_; rintro r v11 ⟨rfl, hq11, hk11⟩; clear hp10))
      go_ret
      refine ⟨rfl, ?_⟩
      have hkk := (((((((((((hk0.trans hk1).trans hk2).trans hk3).trans hk4).trans hk5).trans hk6).trans hk7).trans hk8).trans hk9).trans hk10).trans hk11)
      exact (HPOS.out.trans (hb3.mono HPOS.out.size)).trans ((hkk.below (B := w.heap.size) (Nat.le_trans HPOS.out.size hb3.size) (fun k hk => Nat.lt_of_lt_of_le hk HPOS.out.size)))
    · go_wp2_with (first
        | (go_at_call 12; refine hnew.mono ?_; rintro r w3 ⟨f, rfl, hq, hb3⟩; clear hnew; have hp := KR.out w3 _ f hq hb3 (fun _ h => h); clear hq)
        | (refine hp.mono ?_; rintro r v0 ⟨⟨a0, d0, a0', d0', E0, rfl⟩, hq0, hk0⟩; clear hp; have hp0 := K1.out v0 _ f hq0; clear hq0)
        | (refine hp0.mono ?_; rintro r v1 ⟨rfl, hq1, hk1⟩; clear hp0; have hp1 := K2.out v1 _ f hq1; clear hq1)
        | (refine hp1.mono ?_; rintro r v2 ⟨rfl, hq2, hk2⟩; clear hp1; have hp2 := K3.out v2 _ f hq2; clear hq2)
        | (refine hp2.mono ?_; rintro r v3 ⟨rfl, hq3, hk3⟩; clear hp2; have hp3 := K4.out v3 _ f hq3; clear hq3)
        | (refine hp3.mono ?_; rintro r v4 ⟨⟨a4, d4, rfl⟩, hq4, hk4⟩; clear hp3; have hp4 := K5.out v4 _ f hq4; clear hq4)
        | (refine hp4.mono ?_; rintro r v5 ⟨rfl, hq5, hk5⟩; clear hp4; have hp5 := K6c.out v5 _ f hq5; clear hq5)
        | (refine hp5.mono ?_; rintro r v6 ⟨rfl, hq6, hk6⟩; clear hp5; have hp6 := K7.out v6 _ f hq6; clear hq6)
        | (refine hp6.mono ?_; rintro r v7 ⟨rfl, hq7, hk7⟩; clear hp6; have hp7 := K8.out v7 _ f hq7; clear hq7)
        | (refine hp7.mono ?_; rintro r v8 ⟨⟨a8, d8, rfl⟩, hq8, hk8⟩; clear hp7; have hp8 := K9.out v8 _ f hq8; clear hq8)
        | (refine hp8.mono ?_; rintro r v9 ⟨rfl, hq9, hk9⟩; clear hp8; have hp9 := K10.out v9 _ f hq9; clear hq9)
        | (refine hp9.mono ?_; rintro r v10 ⟨rfl, hq10, hk10⟩; clear hp9; have hp10 := K11.out v10 _ f hq10; clear hq10)
        | (refine hp10.mono ?_; rintro r v11 ⟨⟨a11, d11, rfl⟩, hq11, hk11⟩; clear hp10; have hp11 := K12.out v11 _ f hq11; clear hq11)
        | (refine hp11.mono ?_; rintro r v12 ⟨rfl, hq12, hk12⟩; clear hp11))
      go_ret
      refine ⟨rfl, ?_⟩
      have hkk := ((((((((((((hk0.trans hk1).trans hk2).trans hk3).trans hk4).trans hk5).trans hk6).trans hk7).trans hk8).trans hk9).trans hk10).trans hk11).trans hk12)
      exact (HPOS.out.trans (hb3.mono HPOS.out.size)).trans ((hkk.below (B := w.heap.size) (Nat.le_trans HPOS.out.size hb3.size) (fun k hk => Nat.lt_of_lt_of_le hk HPOS.out.size)))
end Go.Proofs.YtmlkpfkeeifgeaaDoor
