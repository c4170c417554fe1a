/-
  FrontRounds's walk: a client that keeps to its row goes through any number of transactions. Conditions: the arguments lie where they are said to lie; the tables read as they are laid.
-/
import Derived.Test.YtegjaoaoiojhfaaDoorEarly
import Derived.Deep.CutBlock
namespace Go.Proofs.YtegjaoaoiojhfaaDoor
open Go.ChangeShapes Go.WideShapes Go.ChangeAt Go.RowKit

/-- A Query, and a row of them. -/
def q0 : Fr := ⟨3, ed⟩
def rq (j : Nat) : List Fr := List.replicate j q0
theorem rq_len (j : Nat) : (rq j).length = j := List.length_replicate
theorem inv_rq (s : Int) (j : Nat) (h0 : 0 ≤ s) (h1 : s ≤ 5) (hj : j ≤ 4) : Inv ⟨s, rq j⟩ := ⟨h0, by show s ≤ 6; omega, by rw [rq_len]; exact hj, fun h => by have : s = 6 := h; omega⟩
theorem rT (j : Nat) (hj : j < 4) : tk ⟨2, rq j⟩ ⟨3, ed⟩ = ⟨2, rq (j + 1)⟩ ∧ tkw ⟨2, rq j⟩ 3 = 3 := by
  match j, hj with
  | 0, _ | 1, _ | 2, _ | 3, _ => exact ⟨by rfl, by rfl⟩
theorem rN (j : Nat) (hj : j < 4) : nxT ⟨3, rq (j + 1)⟩ = ⟨3, rq j⟩ ∧ nxF ⟨3, rq (j + 1)⟩ = q0 ∧ nxW ⟨3, rq (j + 1)⟩ = 4 ∧ nxB ⟨3, rq (j + 1)⟩ = true := by
  match j, hj with
  | 0, _ | 1, _ | 2, _ | 3, _ => exact ⟨by rfl, by rfl, by rfl, by rfl⟩
theorem rB : tk ⟨1, []⟩ ⟨2, ed⟩ = ⟨2, []⟩ ∧ tkw ⟨1, []⟩ 2 = 2 := ⟨by rfl, by rfl⟩
theorem rQ : tk ⟨3, []⟩ ⟨3, ed⟩ = ⟨3, []⟩ ∧ tkw ⟨3, []⟩ 3 = 4 := ⟨by rfl, by rfl⟩
theorem rC : tk ⟨3, []⟩ ⟨4, ed⟩ = ⟨4, []⟩ ∧ tkw ⟨3, []⟩ 4 = 4 := ⟨by rfl, by rfl⟩
theorem rBd (j : Nat) : goT 0 ⟨2, rq j⟩ = ⟨3, rq j⟩ ∧ goB 0 2 = true := ⟨by rfl, by rfl⟩
theorem rDn : goT 1 ⟨4, []⟩ = ⟨1, []⟩ ∧ goB 1 4 = true := ⟨by rfl, by rfl⟩

section
variable {w : World} {A : Nat → Prop} {g : Nat}
/-- What the law's calls do, one by one. -/
theorem c_begin (h : FIn w A g ⟨1, []⟩) : Calls Tryd.prog 14 #[.pointer (some ⟨g, 0, none⟩), .agg #[.int .i64 2, .string ⟨#[]⟩]] w fun e w' => e = .returned (.int .i64 2) ∧ FIn w' A g ⟨2, []⟩ ∧ Keep A w w' :=
  take_n h (inv_rq 1 0 (by decide) (by decide) (by decide)) 2 ed _ _ rB.1 rB.2
theorem c_query (h : FIn w A g ⟨3, []⟩) : Calls Tryd.prog 14 #[.pointer (some ⟨g, 0, none⟩), .agg #[.int .i64 3, .string ⟨#[]⟩]] w fun e w' => e = .returned (.int .i64 4) ∧ FIn w' A g ⟨3, []⟩ ∧ Keep A w w' :=
  take_n h (inv_rq 3 0 (by decide) (by decide) (by decide)) 3 ed _ _ rQ.1 rQ.2
theorem c_held {j : Nat} (h : FIn w A g ⟨2, rq j⟩) (hj : j < 4) : Calls Tryd.prog 14 #[.pointer (some ⟨g, 0, none⟩), .agg #[.int .i64 3, .string ⟨#[]⟩]] w fun e w' => e = .returned (.int .i64 3) ∧ FIn w' A g ⟨2, rq (j + 1)⟩ ∧ Keep A w w' :=
  take_n h (inv_rq 2 j (by decide) (by decide) (by omega)) 3 ed _ _ (rT j hj).1 (rT j hj).2
theorem c_commit (h : FIn w A g ⟨3, []⟩) : Calls Tryd.prog 14 #[.pointer (some ⟨g, 0, none⟩), .agg #[.int .i64 4, .string ⟨#[]⟩]] w fun e w' => e = .returned (.int .i64 4) ∧ FIn w' A g ⟨4, []⟩ ∧ Keep A w w' :=
  take_n h (inv_rq 3 0 (by decide) (by decide) (by decide)) 4 ed _ _ rC.1 rC.2
theorem c_bound {j : Nat} (h : FIn w A g ⟨2, rq j⟩) : Calls Tryd.prog 25 #[.pointer (some ⟨g, 0, none⟩)] w fun e w' => e = .returned (.bool true) ∧ FIn w' A g ⟨3, rq j⟩ ∧ Keep A w w' :=
  bound_n h _ _ (rBd j).1 (rBd j).2
theorem c_done (h : FIn w A g ⟨4, []⟩) : Calls Tryd.prog 26 #[.pointer (some ⟨g, 0, none⟩)] w fun e w' => e = .returned (.bool true) ∧ FIn w' A g ⟨1, []⟩ ∧ Keep A w w' :=
  done_n h _ _ rDn.1 rDn.2
theorem c_next {j : Nat} (h : FIn w A g ⟨3, rq (j + 1)⟩) (hj : j < 4) : Calls Tryd.prog 16 #[.pointer (some ⟨g, 0, none⟩)] w fun e w' => e = .returned (.tuple #[.agg #[.int .i64 3, .string ⟨#[]⟩], .int .i64 4, .bool true]) ∧ FIn w' A g ⟨3, rq j⟩ ∧ Keep A w w' :=
  next_n h (inv_rq 3 (j + 1) (by decide) (by decide) (by omega)) _ q0 _ _ (rN j hj).1 (rN j hj).2.1 (rN j hj).2.2.1 (rN j hj).2.2.2
end

set_option maxHeartbeats 8000000 in
set_option maxRecDepth 100000 in
theorem rounds_walk (a1 : Option Addr) (l1 c1 : Nat) (zs : List Int) (a2 : Option Addr) (l2 c2 : Nat) (bs : List Bool) (w : World) (h1 : IntsAt w a1 l1 c1 zs) (h2 : BoolsAt w a2 l2 c2 bs) (hn : Tabs w) :
    Calls Tryd.prog 8 #[.slice a1 l1 c1, .slice a2 l2 c2] w fun e w' => e = .returned (.bool true) ∧ Below w.heap.size w w' := by
  obtain ⟨n, hmin⟩ : ∃ n, min l1 20 = n := ⟨_, rfl⟩
  have hn1 : n ≤ l1 := by omega
  have hn2 : n ≤ 20 := by omega
  have hn3 : l1 = n ∨ n = 20 := by omega
  have q1 := h1.hle
  have q2 := h1.hcap
  have q3 := h2.hle
  have q4 := h2.hcap
  unfold maxLen at q2 q4
  have HZ := Hid.mk' h1
  have HBS := Hid.mk' h2
  have HT := Hid.mk' hn
  have hlv := lives_any w hn
  clear h1 h2 hn hmin
  go_enter Tryd.func8, Tryd.ntmps8
  go_wp2_with fail
  refine hlv.mono ?_
  rintro e w1 ⟨rfl, hb1⟩
  have HB1 := Hid.mk' hb1
  have HZ1 := Hid.mk' (HZ.out.below hb1)
  have HBS1 := Hid.mk' (HBS.out.below hb1)
  have hnew := new_any w1 (HT.out.below hb1)
  clear hb1 hlv HT HZ HBS
  go_wp2_with fail
  refine hnew.mono ?_
  rintro e w2 ⟨rfl, hf2, hb2, -⟩
  have htk := take_n hf2 inv0 1 ed _ _ ex_1.1 ex_1.2
  unfold ed at htk
  have HK2 : Hid (Keep (fun k => k < w1.heap.size) w1 w2) := keep_below hb2
  have HTK := Hid.mk' htk
  clear hb2 hf2 htk hnew
  go_wp2_with fail
  refine HTK.out.mono ?_
  rintro e w3 ⟨rfl, hf3, hk3⟩
  have HF3 := Hid.mk' hf3
  have HK3 := Hid.mk' (HK2.out.trans hk3)
  clear hf3 hk3 HTK HK2
  generalize hg : w1.heap.size = g at *
  have HG := Hid.mk' hg
  clear hg
  go_wp2
  go_loopw [6] (fun v6 wr => ∃ (i : Nat), v6 = .int .i64 i ∧ i ≤ n ∧ Hid (FIn wr (fun k => k < g) g ⟨1, []⟩) ∧ Hid (Keep (fun k => k < g) w1 wr)) (fun v6 _ => n - (intOf v6).toNat)
  case atStart => exact ⟨0, rfl, Nat.zero_le _, HF3, HK3⟩
  case round =>
    clear HF3 HK3
    obtain ⟨i, rfl, hi1, HF, HK⟩ := hrel
    by_cases hc : i < n
    · obtain ⟨b, off, rfl, hlt, x0⟩ := HZ1.out.at_ i (by omega)
      rw [HG.out] at hlt
      have x0 := HK.out.cell x0 hlt
      generalize zs.getD i 0 = z at *
      obtain ⟨m, hm⟩ : ∃ m : Nat, wrap64 ((IntKind.u64.wrap z).tmod 4) = (m : Int) := ⟨(wrap64 ((IntKind.u64.wrap z).tmod 4)).toNat, by have := um_bd 4 z (by decide) (by decide); omega⟩
      have hm4 : m < 4 := by have := um_bd 4 z (by decide) (by decide); omega
      have hi20 : (i : Int) < 20 := by omega
      have hil : (i : Int) < (l1 : Int) := by omega
      clear hlt
      go_upto_region 10 with fail
      clear x0
      go_cut [8] from 39 to 48 (fun v8 wx => ∃ H, v8 = .bool H ∧ wx = wr)
      case first =>
        by_cases hib : i < l2
        · obtain ⟨b2, off2, rfl, hlt2, y0⟩ := HBS1.out.at_ i hib
          rw [HG.out] at hlt2
          have y0 := HK.out.cell y0 hlt2
          generalize bs.getD i false = H at *
          have hib' : (i : Int) < (l2 : Int) := by omega
          go_wp2_with fail
          go_meet
          exact ⟨H, by simp, rfl⟩
        · have hib' : decide ((i : Int) < (l2 : Int)) = false := by simp; omega
          go_wp2_with fail
          go_meet
          exact ⟨false, by simp, rfl⟩
      case rest =>
        obtain ⟨H, rfl, rfl⟩ := hcut
        rw [hm]
        clear hm x0
        have HBG := Hid.mk' (c_begin HF.out)
        go_wp2_with fail
        refine HBG.out.mono ?_
        rintro e w4 ⟨rfl, hf, hk⟩
        have HF4 := Hid.mk' hf
        have HK4 : Hid (Keep (fun k => k < g) w1 w4) := HK.out.trans hk
        have hs4 := state_n hf 2 rfl
        clear hf hk HBG HF HK
        cases H with
        | false =>
          have HBD : Hid (Calls Tryd.prog 25 #[.pointer (some ⟨g, 0, none⟩)] w4 fun e w' => e = .returned (.bool true) ∧ FIn w' (fun k => k < g) g ⟨3, []⟩ ∧ Keep (fun k => k < g) w4 w') := c_bound (j := 0) HF4.out
          go_wp2_with (first
            | (go_at_call 19; refine hs4.mono ?_; rintro e w' ⟨rfl, hw'⟩; subst w')
            | (go_at_call 25; refine HBD.out.mono ?_; rintro e w5 ⟨rfl, hf, hk⟩; have HF5 := Hid.mk' hf; have HK5 := Hid.mk' (HK4.out.trans hk); clear hf hk))
          clear HBD HF4 HK4 hs4
          go_loopw [10] (fun v10 wr => ∃ (j : Nat), v10 = .int .i64 j ∧ j ≤ m ∧ Hid (FIn wr (fun k => k < g) g ⟨3, []⟩) ∧ Hid (Keep (fun k => k < g) w1 wr)) (fun v10 _ => m - (intOf v10).toNat)
          case atStart => exact ⟨0, rfl, Nat.zero_le _, HF5, HK5⟩
          case round =>
            clear HF5 HK5
            obtain ⟨j, rfl, hj1, HF6, HK6⟩ := hrel
            by_cases hj : j < m
            · have hj' : (j : Int) < (m : Int) := by omega
              have HQ := Hid.mk' (c_query HF6.out)
              go_wp2_with fail
              refine HQ.out.mono ?_
              rintro e w7 ⟨rfl, hf, hk⟩
              have HF7 := Hid.mk' hf
              have HK7 : Hid (Keep (fun k => k < g) w1 w7) := HK6.out.trans hk
              clear hf hk HQ HF6 HK6
              go_wp2
              exact ⟨⟨j + 1, by simp, by omega, HF7, HK7⟩, by simp [intOf]; omega⟩
            · have hj' : decide ((j : Int) < (m : Int)) = false := by simp; omega
              have HC := Hid.mk' (c_commit HF6.out)
              go_wp2_with fail
              refine HC.out.mono ?_
              rintro e wa ⟨rfl, hf, hk⟩
              have HKa : Hid (Keep (fun k => k < g) w1 wa) := HK6.out.trans hk
              have hsa := state_n hf 4 rfl
              have HD := Hid.mk' (c_done hf)
              clear hf hk HC
              go_wp2_with fail
              refine hsa.mono ?_
              rintro e w' ⟨rfl, hw'⟩
              subst w'
              clear hsa
              go_wp2_with fail
              refine HD.out.mono ?_
              rintro e wb ⟨rfl, hf, hk⟩
              have HKb : Hid (Keep (fun k => k < g) w1 wb) := HKa.out.trans hk
              have HFb := Hid.mk' hf
              have hsb := state_n hf 1 rfl
              have hhb := held_w hf 0 rfl
              clear hf hk HD HKa
              go_wp2_with (first
                | (go_at_call 19; refine hsb.mono ?_; rintro e w' ⟨rfl, hw'⟩; subst w')
                | (go_at_call 20; refine hhb.mono ?_; rintro e w' ⟨rfl, hw'⟩; subst w'))
              exact ⟨⟨i + 1, by simp, by omega, HFb, HKb⟩, by simp [intOf]; omega⟩

        | true =>
          go_wp2_with (first
            | (go_at_call 19; refine hs4.mono ?_; rintro e w' ⟨rfl, hw'⟩; subst w'))
          clear hs4
          go_loopw [10] (fun v10 wr => ∃ (j : Nat), v10 = .int .i64 j ∧ j ≤ m ∧ Hid (FIn wr (fun k => k < g) g ⟨2, rq j⟩) ∧ Hid (Keep (fun k => k < g) w1 wr)) (fun v10 _ => m - (intOf v10).toNat)
          case atStart => exact ⟨0, rfl, Nat.zero_le _, HF4, HK4⟩
          case round =>
            clear HF4 HK4
            obtain ⟨j, rfl, hj1, HF6, HK6⟩ := hrel
            by_cases hj : j < m
            · have hj' : (j : Int) < (m : Int) := by omega
              have HQ := Hid.mk' (c_held HF6.out (by omega))
              go_wp2_with fail
              refine HQ.out.mono ?_
              rintro e w7 ⟨rfl, hf, hk⟩
              have HF7 := Hid.mk' hf
              have HK7 : Hid (Keep (fun k => k < g) w1 w7) := HK6.out.trans hk
              clear hf hk HQ HF6 HK6
              go_wp2
              exact ⟨⟨j + 1, by simp, by omega, HF7, HK7⟩, by simp [intOf]; omega⟩
            · have hj' : decide ((j : Int) < (m : Int)) = false := by simp; omega
              obtain rfl : m = j := by omega
              have hh6 := held_w HF6.out m (rq_len m)
              have HBD := Hid.mk' (c_bound HF6.out)
              go_wp2_with (first
                | (go_at_call 20; refine hh6.mono ?_; rintro e w' ⟨rfl, hw'⟩; subst w')
                | (go_at_call 25; refine HBD.out.mono ?_; rintro e w7 ⟨rfl, hf, hk⟩; have HF7 := Hid.mk' hf; have HK7 := Hid.mk' (HK6.out.trans hk); clear hf hk))
              clear HBD hh6 HF6 HK6
              go_loopw [11] (fun v11 wr => ∃ (j : Nat), v11 = .int .i64 j ∧ j ≤ m ∧ Hid (FIn wr (fun k => k < g) g ⟨3, rq (m - j)⟩) ∧ Hid (Keep (fun k => k < g) w1 wr)) (fun v11 _ => m - (intOf v11).toNat)
              case atStart => exact ⟨0, rfl, Nat.zero_le _, HF7, HK7⟩
              case round =>
                clear HF7 HK7
                obtain ⟨j, rfl, hj1, HF8, HK8⟩ := hrel
                by_cases hj : j < m
                · have hj' : (j : Int) < (m : Int) := by omega
                  obtain ⟨r, hr⟩ : ∃ r, m - j = r + 1 := ⟨m - j - 1, by omega⟩
                  rw [hr] at HF8
                  have HQ := Hid.mk' (c_next HF8.out (by omega))
                  have HR : Hid (m - (j + 1) = r) := by show _ = _; omega
                  clear hr
                  go_wp2_with fail
                  refine HQ.out.mono ?_
                  rintro e w9 ⟨rfl, hf, hk⟩
                  have HF9 := Hid.mk' hf
                  have HK9 : Hid (Keep (fun k => k < g) w1 w9) := HK8.out.trans hk
                  clear hf hk HQ HF8 HK8
                  go_upto_region 30 with fail
                  have hb : Below w9.heap.size w9 (w9.alloc (.cells #[.int .i64 3, .string ⟨#[]⟩] 31)) := (Below.refl _ w9).alloc (Nat.le_refl _) _
                  obtain ⟨z0, z1, -⟩ := blk2 (heap_alloc_new w9 (.cells #[.int .i64 3, .string ⟨#[]⟩] 31))
                  have HFA := Hid.mk' (HF9.out.below hb)
                  have HKA : Hid (Keep (fun k => k < g) w1 _) := HK9.out.trans (keep_below hb)
                  clear hb HF9 HK9
                  generalize w9.alloc (.cells #[.int .i64 3, .string ⟨#[]⟩] 31) = wA at *
                  go_wp2
                  exact ⟨⟨j + 1, by simp, by omega, by rw [HR.out]; exact HFA, HKA⟩, by simp [intOf]; omega⟩
                · have hj' : decide ((j : Int) < (m : Int)) = false := by simp; omega
                  obtain rfl : m = j := by omega
                  have h9 := HF8.out
                  rw [Nat.sub_self] at h9
                  have HF9 := Hid.mk' h9
                  clear h9
                  clear HF8
                  have HC := Hid.mk' (c_commit HF9.out)
                  go_wp2_with fail
                  refine HC.out.mono ?_
                  rintro e wa ⟨rfl, hf, hk⟩
                  have HKa : Hid (Keep (fun k => k < g) w1 wa) := HK8.out.trans hk
                  have hsa := state_n hf 4 rfl
                  have HD := Hid.mk' (c_done hf)
                  clear hf hk HC
                  go_wp2_with fail
                  refine hsa.mono ?_
                  rintro e w' ⟨rfl, hw'⟩
                  subst w'
                  clear hsa
                  go_wp2_with fail
                  refine HD.out.mono ?_
                  rintro e wb ⟨rfl, hf, hk⟩
                  have HKb : Hid (Keep (fun k => k < g) w1 wb) := HKa.out.trans hk
                  have HFb := Hid.mk' hf
                  have hsb := state_n hf 1 rfl
                  have hhb := held_w hf 0 rfl
                  clear hf hk HD HKa
                  go_wp2_with (first
                    | (go_at_call 19; refine hsb.mono ?_; rintro e w' ⟨rfl, hw'⟩; subst w')
                    | (go_at_call 20; refine hhb.mono ?_; rintro e w' ⟨rfl, hw'⟩; subst w'))
                  exact ⟨⟨i + 1, by simp, by omega, HFb, HKb⟩, by simp [intOf]; omega⟩

    · obtain rfl : n = i := by omega
      have hs := state_n HF.out 1 rfl
      by_cases hlt : n < l1
      · have h20 : decide ((n : Int) < 20) = false := by simp; omega
        have hlt' : (n : Int) < (l1 : Int) := by omega
        go_wp2_with (go_at_call 19; refine hs.mono ?_; rintro e w' ⟨rfl, hw'⟩; subst w')
        go_ret
        exact ⟨rfl, HB1.out.trans (HK.out.below HB1.out.size (fun j hj => by have := HB1.out.size; have := HG.out; omega))⟩
      · have hlt' : decide ((n : Int) < (l1 : Int)) = false := by simp; omega
        go_wp2_with (go_at_call 19; refine hs.mono ?_; rintro e w' ⟨rfl, hw'⟩; subst w')
        go_ret
        exact ⟨rfl, HB1.out.trans (HK.out.below HB1.out.size (fun j hj => by have := HB1.out.size; have := HG.out; omega))⟩

end Go.Proofs.YtegjaoaoiojhfaaDoor
