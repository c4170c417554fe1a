/-
  BackoffLate's walk: it may be tried again no sooner than a wait less a quarter of it, and no later than a wait and a quarter of it. Conditions: the ticks lie where they are said to lie; the draw is an int.
-/
import Derived.Test.YtcofkaackpecjaaStrs
namespace Go.Proofs.Ytcofkaackpecjaa
open Go.ChangeShapes Go.WideShapes Go.ChangeAt Go.RowKit

theorem next_bd (base now d : Int) (k : Nat) (h0 : 0 ≤ now) (h1 : now < 1000000) :
    1 ≤ waitI base (k + 1) ∧ waitI base (k + 1) ≤ 1048576 ∧ now + waitI base (k + 1) - waitI base (k + 1) / 4 ≤ nextU base (k + 1) now d ∧ nextU base (k + 1) now d ≤ now + waitI base (k + 1) + waitI base (k + 1) / 4 := by
  have hw : 1 ≤ waitI base (k + 1) ∧ waitI base (k + 1) ≤ 1048576 := by
    rw [wait_some]
    exact dbl_bd (span_lo base) (span_hi base) k
  unfold nextU life add spread
  generalize waitI base (k + 1) = W at *
  obtain ⟨w1, w2⟩ := hw
  refine ⟨w1, w2, ?_⟩
  have hq1 : 0 ≤ W / 4 := Int.ediv_nonneg (by omega) (by decide)
  have hq2 : W / 4 ≤ W := by omega
  rw [cut_mid (n := W) (by omega) (by omega), cut_mid (n := W / 4) (by omega) (by omega), cut_mid (n := now) (by omega) (by omega)]
  have b1 := below_lo d (2 * (W / 4) + 1)
  have b2 := below_hi (d := d) (n := 2 * (W / 4) + 1) (by omega)
  generalize below d (2 * (W / 4) + 1) = B at *
  generalize W / 4 = q at *
  rw [cut_mid (n := W - q + B) (by omega) (by omega), cut_mid (n := W - q + B) (by omega) (by omega), cut_mid (n := now + (W - q + B)) (by omega) (by omega)]
  omega
theorem past_tk {x u : Int} (h0 : 0 ≤ x) (h1 : x ≤ 1099511627776) (h2 : 0 ≤ u) (h3 : u ≤ 1099511627776) : past x u = decide (u ≤ x) := by
  unfold past
  rw [cut_mid h0 h1, cut_mid h2 h3]

set_option maxHeartbeats 4000000 in
set_option maxRecDepth 100000 in
theorem late_walk (base : Int) (a1 : Option Addr) (l1 c1 : Nat) (zs : List Int) (d : Int) (hd : In d) (w : World) (hz : IntsAt w a1 l1 c1 zs) :
    Calls Try.prog 5 #[.int .i64 base, .slice a1 l1 c1, .int .i64 d] w fun e w' => e = .returned (.bool true) ∧ Below w.heap.size w w' := by
  have q1 := hz.hle
  have q2 := hz.hcap
  unfold maxLen at q2
  go_enter Try.func5, Try.ntmps5
  go_wp2_with fail
  refine (lives_any _).mono ?_
  rintro e w1 ⟨rfl, hb1⟩
  go_wp2_with fail
  refine (new_any base w1).mono ?_
  rintro e w2 ⟨rfl, hB, hb2, -⟩
  have HZ : Hid (IntsAt w1 a1 l1 c1 zs) := hz.below hb1
  have HB : Hid (Below w.heap.size w w1) := hb1
  have hk2 : Keep (fun k => k < w1.heap.size) w1 w2 := keep_below hb2
  have HD : Hid (In d) := hd
  clear hz hb1 hb2 hd
  generalize hg : w1.heap.size = g at *
  have HG : Hid (w1.heap.size = g) := hg
  clear hg
  go_wp2
  go_loopw [8] (fun vi wr => ∃ (i : Nat) (u : Int), vi = .int .i64 i ∧ i ≤ l1 ∧ i ≤ 30 ∧ BAt wr g base i u ∧ Keep (fun k => k < g) w1 wr) (fun vi _ => 30 - (intOf vi).toNat)
  case atStart => exact ⟨0, 0, rfl, Nat.zero_le _, by omega, hB, hk2⟩
  case round =>
    clear hB hk2
    obtain ⟨i, u, rfl, hi1, hi2, hB, hk⟩ := hrel
    by_cases hc : i < l1 ∧ i < 30
    · obtain ⟨hc1, hc2⟩ := hc
      have hzr := HZ.out.keep hk (fun x _ hx => by rw [HG.out] at hx; exact hx)
      obtain ⟨b, off, rfl, hlt, hcell⟩ := hzr.at_ i hc1
      generalize zs.getD i 0 = z at hcell
      obtain ⟨v, hv⟩ : ∃ v, wrap64 ((IntKind.u64.wrap z).tmod 1000000) = v := ⟨_, rfl⟩
      have hvb := um_bd 1000000 z (by decide) (by decide)
      rw [hv] at hvb
      obtain ⟨hv0, hv1⟩ := hvb
      obtain ⟨n1, n2, n3, n4⟩ := next_bd base v d i hv0 hv1
      have hwt := wait_any base (i + 1) (by omega)
      obtain ⟨U, hU⟩ : ∃ U, nextU base (i + 1) v d = U := ⟨_, rfl⟩
      have hfl := fail_n hB (by omega) (by omega) v d HD.out (i + 1) U rfl hU
      rw [hU] at n3 n4
      generalize waitI base (i + 1) = W at *
      have hq : 0 ≤ W / 4 ∧ W / 4 ≤ W := by omega
      obtain ⟨hq1, hq2⟩ := hq
      have HK : Hid (Keep (fun k => k < g) w1 wr) := hk
      clear hB hk hzr hU
      go_wp2_with fail
      refine hfl.mono ?_
      rintro e w3 ⟨rfl, hB3, hk3⟩
      have HK3 : Hid (Keep (fun k => k < g) w1 w3) := HK.out.trans (hk3.mono fun k _ hk => by omega)
      have HB3 : Hid (BAt w3 g base (i + 1) U) := hB3
      have hun := until_w hB3
      have hfs := fails_w hB3
      have hm1 := may_n hB3 (U - 1) false (by rw [past_tk (by omega) (by omega) (by omega) (by omega)]; exact decide_eq_false (by omega))
      have hm2 := may_n hB3 U true (by rw [past_tk (by omega) (by omega) (by omega) (by omega)]; exact decide_eq_true (by omega))
      have hm3 := may_n hB3 (U + 1) true (by rw [past_tk (by omega) (by omega) (by omega) (by omega)]; exact decide_eq_true (by omega))
      clear hfl hk3 hB3 HK hcell
      go_wp2_with fail
      refine (hwt w3).mono ?_
      rintro e w' ⟨rfl, hw'⟩
      obtain rfl : w3 = w' := hw'.symm
      clear hw' hwt
      go_wp2_with fail
      refine hun.mono ?_
      rintro e w' ⟨rfl, hw'⟩
      obtain rfl : w3 = w' := hw'.symm
      clear hw' hun
      go_wp2_with fail
      refine hfs.mono ?_
      rintro e w' ⟨rfl, hw'⟩
      obtain rfl : w3 = w' := hw'.symm
      clear hw' hfs
      go_wp2_with fail
      refine hm1.mono ?_
      rintro e w' ⟨rfl, hw'⟩
      obtain rfl : w3 = w' := hw'.symm
      clear hw' hm1
      go_wp2_with fail
      refine hm2.mono ?_
      rintro e w' ⟨rfl, hw'⟩
      obtain rfl : w3 = w' := hw'.symm
      clear hw' hm2
      go_wp2_with fail
      refine hm3.mono ?_
      rintro e w' ⟨rfl, hw'⟩
      obtain rfl : w3 = w' := hw'.symm
      clear hw' hm3
      go_wp2
      exact ⟨⟨i + 1, U, by simp, by omega, by omega, by simpa using HB3.out, HK3.out⟩, by simp [intOf]; omega⟩
    · have hexit : (i = 30 ∧ 30 < l1) ∨ l1 = i := by omega
      have hok := ok_w hB
      have HK : Hid (Keep (fun k => k < g) w1 wr) := hk
      clear hc hB hk HZ HD
      rcases hexit with ⟨rfl, h1⟩ | rfl
      all_goals (
        go_wp2_with fail
        refine hok.mono ?_
        rintro e w3 ⟨rfl, hB3, hk3⟩
        have HK3 : Hid (Keep (fun k => k < g) w1 w3) := HK.out.trans (hk3.mono fun k _ hk => by omega)
        have hun := until_w hB3
        have hfs := fails_w hB3
        have hm1 := may_n hB3 0 true (by decide)
        clear hok hk3 hB3 HK
        go_wp2_with fail
        refine hm1.mono ?_
        rintro e w' ⟨rfl, hw'⟩
        obtain rfl : w3 = w' := hw'.symm
        clear hw' hm1
        go_wp2_with fail
        refine hfs.mono ?_
        rintro e w' ⟨rfl, hw'⟩
        obtain rfl : w3 = w' := hw'.symm
        clear hw' hfs
        go_wp2_with fail
        refine hun.mono ?_
        rintro e w' ⟨rfl, hw'⟩
        obtain rfl : w3 = w' := hw'.symm
        clear hw' hun
        go_wp2
        go_ret
        exact ⟨rfl, HB.out.trans (HK3.out.below HB.out.size (fun k hk => by have := HB.out.size; have := HG.out; omega))⟩)

end Go.Proofs.Ytcofkaackpecjaa
