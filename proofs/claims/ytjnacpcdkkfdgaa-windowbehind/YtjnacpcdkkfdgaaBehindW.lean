/-
  WindowBehind's walk: what is once behind stays behind: it returns true and turns nothing that was there. Conditions: the slices lie where they are said to lie.
-/
import Derived.Test.YtjnacpcdkkfdgaaStrs
namespace Go.Proofs.Ytjnacpcdkkfdgaa
open Go.ChangeShapes Go.WideShapes Go.ChangeAt Go.RowKit

set_option maxHeartbeats 4000000 in
set_option maxRecDepth 100000 in
theorem behind_walk (sp : Int) (a1 a2 : Option Addr) (l1 c1 l2 c2 : Nat) (zs ts : List Int) (w : World) (hz : IntsAt w a1 l1 c1 zs) (ht : IntsAt w a2 l2 c2 ts) :
    Calls Try.prog 5 #[.int .i64 sp, .slice a1 l1 c1, .slice a2 l2 c2] w fun e w' => e = .returned (.bool true) ∧ Below w.heap.size w w' := by
  have q1 := hz.hle
  have q2 := hz.hcap
  have q3 := ht.hle
  have q4 := ht.hcap
  unfold maxLen at q2 q4
  obtain ⟨u, hu⟩ : ∃ u, wrap64 ((IntKind.u64.wrap sp).tmod 40) = u := ⟨_, rfl⟩
  have hub := um_bd 40 sp (by decide) (by decide)
  rw [hu] at hub
  obtain ⟨hu0, hu1⟩ := hub
  go_enter Try.func5, Try.ntmps5
  go_wp2_with fail
  refine (lives_any _).mono ?_
  rintro e w1 ⟨rfl, hb1⟩
  go_wp2_with fail
  refine (new_any _ w1).mono ?_
  rintro e w2 ⟨rfl, hW2, hb2, -⟩
  rw [span_mid (by omega) (by omega)] at hW2
  have hk12 : Keep (fun k => k < w1.heap.size) w1 w2 := keep_below hb2
  have HZ : Hid (IntsAt w1 a1 l1 c1 zs) := hz.below hb1
  have HT : Hid (IntsAt w1 a2 l2 c2 ts) := ht.below hb1
  have HB : Hid (Below w.heap.size w w1) := hb1
  clear hz ht hb1 hb2 hu
  generalize hg : w1.heap.size = g at *
  have HG : Hid (w1.heap.size = g) := hg
  clear hg
  obtain ⟨S, hS⟩ : ∃ S, 1 + u = S := ⟨_, rfl⟩
  rw [hS] at hW2 ⊢
  have hs1 : 1 ≤ S := by omega
  have hs2 : S ≤ 40 := by omega
  clear hS hu0 hu1
  go_wp2
  go_loopw [8, 9] (fun va vi wr => ∃ (i : Nat) (y : Int) (own L : List Int), vi = .int .i64 i ∧ va = .int .i64 y ∧ i ≤ l1 ∧ i ≤ 30 ∧ own.length = i ∧ y ≤ 8 * i ∧ 0 ≤ y ∧ Inv S own y L ∧ WAt wr (fun k => k < g) g S y L ∧ Keep (fun k => k < g) w1 wr) (fun _ vi _ => 30 - (intOf vi).toNat)
  case atStart => exact ⟨0, 0, [], [], rfl, rfl, Nat.zero_le _, by omega, rfl, by omega, by omega, Inv.nil hs1, hW2, hk12⟩
  case round =>
    clear hW2 hk12
    obtain ⟨i, y, own, L, rfl, rfl, hi1, hi2, hol, hy1, hy0, hI, hW, hkr⟩ := hrel
    by_cases hc : i < l1 ∧ i < 30
    · obtain ⟨hc1, hc2⟩ := hc
      have hzr := HZ.out.keep hkr (fun x _ hx => by rw [HG.out] at hx; exact hx)
      obtain ⟨b, off, rfl, hlt, hcell⟩ := hzr.at_ i hc1
      generalize zs.getD i 0 = z at hcell
      obtain ⟨v, hv⟩ : ∃ v, wrap64 ((IntKind.u64.wrap z).tmod 9) = v := ⟨_, rfl⟩
      have hvb := um_bd 9 z (by decide) (by decide)
      rw [hv] at hvb
      obtain ⟨hv0, hv1⟩ := hvb
      obtain ⟨Y, hY⟩ : ∃ Y, y + v = Y := ⟨_, rfl⟩
      have hY0 : y ≤ Y := by omega
      have hY1 : Y ≤ 8 * (i + 1 : Nat) := by omega
      obtain ⟨e1, e2, hI2⟩ := hI.add hY0 (by omega)
      have hLl := hI.len
      generalize hM : cntL S Y (L ++ [Y]) = M at hI2
      have hM1 := hI2.pos
      have hM2 := hI2.len
      rw [List.length_append] at hM2
      simp at hM2
      have hadd := add_n wr _ g S y L Y Y Y M M.length hW (by omega) e1 e2 hM rfl
      have HI : Hid (Inv S (own ++ [Y]) Y M) := hI2
      have HK : Hid (Keep (fun k => k < g) w1 wr) := hkr
      clear hW hI hI2 hkr hzr e1 e2 hM
      have hm3 : M.length ≤ i + 1 := by omega
      have hg1 : ((M.length : Int) ≤ (i : Int) + 1) := by omega
      go_wp2_with fail
      refine hadd.mono ?_
      rintro e w3 ⟨rfl, hW3, hk3⟩
      have hlen := len_w w3 _ g S Y M hW3
      have HW3 : Hid (WAt w3 (fun k => k < g) g S Y M) := hW3
      have HK3 : Hid (Keep (fun k => k < g) w1 w3) := HK.out.trans hk3
      clear hadd hW3 hk3
      generalize hN : M.length = N at *
      go_wp2_with (first | (go_at_call 20; refine hlen.mono ?_; rintro e w' ⟨rfl, rfl⟩))
      exact ⟨⟨i + 1, Y, own ++ [Y], M, by simp, rfl, by omega, by omega, by simp [hol], hY1, by omega, HI.out, HW3.out, HK3.out⟩, by simp [intOf]; omega⟩
    · have hexit : (i = 30 ∧ 30 < l1) ∨ l1 = i := by omega
      have hLl := hI.len
      obtain ⟨e2, hI2⟩ := hI.count (z := y) (by omega) (by omega)
      generalize hM : cntL S y L = M at hI2
      have hM2 := hI2.len
      have hcnt := count_n wr _ g S y L y y M M.length hW (by omega) e2 hM rfl
      have HI : Hid (Inv S own y M) := hI2
      have HK : Hid (Keep (fun k => k < g) w1 wr) := hkr
      have hol2 : own.length ≤ 30 := by omega
      have hy2 : y ≤ 240 := by omega
      clear hc hW hI hI2 hkr e2 hM HZ hy1
      rcases hexit with ⟨rfl, h1⟩ | rfl
      all_goals (
        go_wp2_with fail
        refine hcnt.mono ?_
        rintro e w3 ⟨rfl, hW3, hk3⟩
        have HW3 : Hid (WAt w3 (fun k => k < g) g S y M) := hW3
        have HK3 : Hid (Keep (fun k => k < g) w1 w3) := HK.out.trans hk3
        clear hcnt hW3 hk3 HK hLl
        go_wp2
        go_loopw [8, 11, 12] (fun va vw vj wr => ∃ (j : Nat) (y : Int) (L : List Int), vj = .int .i64 j ∧ va = .int .i64 y ∧ vw = .int .i64 L.length ∧ j ≤ l2 ∧ j ≤ 30 ∧ y ≤ 240 + 8 * j ∧ 0 ≤ y ∧ Inv S own y L ∧ WAt wr (fun k => k < g) g S y L ∧ Keep (fun k => k < g) w1 wr) (fun _ _ vj _ => 30 - (intOf vj).toNat)
        case atStart => exact ⟨0, y, M, rfl, rfl, rfl, Nat.zero_le _, by omega, by omega, hy0, HI.out, HW3.out, HK3.out⟩
        case round =>
          clear HI HW3 HK3 hy0 hy2 hM2
          obtain ⟨j, y, L, rfl, rfl, rfl, hj1, hj2, hy1, hy0, hI, hW, hkr⟩ := hrel
          have hLl := hI.len
          by_cases hc : j < l2 ∧ j < 30
          · obtain ⟨hc1, hc2⟩ := hc
            have hzr := HT.out.keep hkr (fun x _ hx => by rw [HG.out] at hx; exact hx)
            obtain ⟨b, off, rfl, hlt, hcell⟩ := hzr.at_ j hc1
            generalize ts.getD j 0 = z at hcell
            obtain ⟨v, hv⟩ : ∃ v, wrap64 ((IntKind.u64.wrap z).tmod 9) = v := ⟨_, rfl⟩
            have hvb := um_bd 9 z (by decide) (by decide)
            rw [hv] at hvb
            obtain ⟨hv0, hv1⟩ := hvb
            obtain ⟨Y, hY⟩ : ∃ Y, y + v = Y := ⟨_, rfl⟩
            have hY0 : y ≤ Y := by omega
            have hY1 : Y ≤ 240 + 8 * (j + 1 : Nat) := by omega
            obtain ⟨e2, hI2⟩ := hI.count hY0 (by omega)
            have hM2 := cntL_length S Y L
            generalize hM : cntL S Y L = M at hI2 hM2
            have hcnt := count_n wr _ g S y L Y Y M M.length hW (by omega) e2 hM rfl
            have HI : Hid (Inv S own Y M) := hI2
            have HK : Hid (Keep (fun k => k < g) w1 wr) := hkr
            clear hW hI hI2 hkr hzr e2 hM
            go_wp2_with fail
            refine hcnt.mono ?_
            rintro e w3 ⟨rfl, hW3, hk3⟩
            have hlen := len_w w3 _ g S Y M hW3
            have HW3 : Hid (WAt w3 (fun k => k < g) g S Y M) := hW3
            have HK3 : Hid (Keep (fun k => k < g) w1 w3) := HK.out.trans hk3
            clear hcnt hW3 hk3
            generalize hN : M.length = N at *
            have HN : Hid (M.length = N) := hN
            clear hN
            go_wp2_with (first | (go_at_call 20; refine hlen.mono ?_; rintro e w' ⟨rfl, rfl⟩))
            exact ⟨⟨j + 1, Y, M, by simp, rfl, by rw [HN.out], by omega, by omega, hY1, by omega, HI.out, HW3.out, HK3.out⟩, by simp [intOf]; omega⟩
          · have hexit : (j = 30 ∧ 30 < l2) ∨ l2 = j := by omega
            obtain ⟨Y, hY⟩ : ∃ Y, y + S = Y := ⟨_, rfl⟩
            obtain ⟨e2, -⟩ := hI.count (z := Y) (by omega) (by omega)
            have hM : cntL S Y L = [] := by
              rcases hI.gone (z := Y) (by omega) with h | h
              · exact h
              · omega
            have hcnt := count_n wr _ g S y L Y Y [] 0 hW (by omega) e2 hM rfl
            have HK : Hid (Keep (fun k => k < g) w1 wr) := hkr
            clear hc hW hI hkr e2 hM HT
            rcases hexit with ⟨rfl, h2⟩ | rfl
            all_goals (
              go_wp2_with fail
              refine hcnt.mono ?_
              rintro e w3 ⟨rfl, hW3, hk3⟩
              have hlen := len_w w3 _ g S Y [] hW3
              have HK3 : Hid (Keep (fun k => k < g) w1 w3) := HK.out.trans hk3
              clear hcnt hW3 hk3
              go_wp2_with (first | (go_at_call 20; refine hlen.mono ?_; rintro e w' ⟨rfl, rfl⟩))
              go_ret
              exact ⟨rfl, HB.out.trans (HK3.out.below HB.out.size (fun k hk => by have := HB.out.size; have := HG.out; omega))⟩))

end Go.Proofs.Ytjnacpcdkkfdgaa
