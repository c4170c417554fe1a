/-
  BackoffAnew's walk: one that came through is as a new one. Conditions: the steps lie where they are said to lie.
-/
import Derived.Test.YtcofkaackpecjaaStrs
import Derived.Deep.RegionHeld3
import Derived.Deep.RegionWith
namespace Go.Proofs.Ytcofkaackpecjaa
open Go.ChangeShapes Go.WideShapes Go.ChangeAt Go.RowKit

set_option maxRecDepth 100000 in
theorem early_any (a : Option Addr) (len cap n : Nat) (hl : len ≤ cap) (hc : cap ≤ maxLen) (hn : min len 100 = n) (w : World) :
    Calls Try.prog 11 #[.slice a len cap] w fun e w' => e = .returned (.slice a n cap) ∧ w' = w := by
  unfold maxLen at hc
  have hn2 : (if (100 : Int) < (len : Int) then (100 : Int) else (len : Int)) = (n : Int) := by split <;> omega
  have hn3 : n ≤ 100 := by omega
  have hn4 : n ≤ len := by omega
  clear hn
  go_enter Try.func11, Try.ntmps11
  go_wp2
  go_ret
  exact ⟨rfl, rfl⟩

/-- Two backoffs of one base, at g and g2; what lay below g is as it was at w1. -/
structure Duo (w1 w : World) (g g2 : Nat) (base f u f2 u2 : Int) : Prop where
  one : BAt w g base f u
  two : BAt w g2 base f2 u2
  lt : g < g2
  keep : Keep (fun k => k < g) w1 w

section
variable {w1 w w' : World} {g g2 : Nat} {base f u f2 u2 : Int}
theorem Duo.drew (h : Duo w1 w g g2 base f u f2 u2) : Duo w1 w.drew g g2 base f u f2 u2 := ⟨h.one, h.two, h.lt, h.keep.drew⟩
theorem Duo.drewN (h : Duo w1 w g g2 base f u f2 u2) (q : Nat) : Duo w1 (w.drewN q) g g2 base f u f2 u2 := ⟨h.one, h.two, h.lt, h.keep.drewN q⟩
theorem Duo.cell (h : Duo w1 w g g2 base f u f2 u2) {p : Addr} {v : Value} (hc : w1.cell? p = some v) (hp : p.block < g) : w.cell? p = some v := h.keep.cell hc hp
theorem Duo.fst {f' u' : Int} (h : Duo w1 w g g2 base f u f2 u2) (hB : BAt w' g base f' u') (hk : Keep (fun k => k ≠ g) w w') : Duo w1 w' g g2 base f' u' f2 u2 :=
  ⟨hB, h.two.keep hk (by have := h.lt; omega), h.lt, h.keep.trans (hk.mono fun k _ hk => by omega)⟩
theorem Duo.snd {f' u' : Int} (h : Duo w1 w g g2 base f u f2 u2) (hB : BAt w' g2 base f' u') (hk : Keep (fun k => k ≠ g2) w w') : Duo w1 w' g g2 base f u f' u' :=
  ⟨h.one.keep hk (by have := h.lt; omega), hB, h.lt, h.keep.trans (hk.mono fun k _ hk => by have := h.lt; omega)⟩
theorem Duo.fail1 (h : Duo w1 w g g2 base f u f2 u2) (h0 : 0 ≤ f) (h1 : f ≤ 1000) (now d : Int) (hd : In d) (U : Int) (hU : nextU base (f + 1) now d = U) :
    Calls Try.prog 14 #[.pointer (some ⟨g, 0, none⟩), .int .i64 now, .int .i64 d] w fun e w' => e = .returned (.int .i64 U) ∧ Duo w1 w' g g2 base (f + 1) U f2 u2 :=
  (fail_n h.one h0 h1 now d hd (f + 1) U rfl hU).mono fun _ _ ⟨he, hB, hk⟩ => ⟨he, h.fst hB hk⟩
theorem Duo.fail2 (h : Duo w1 w g g2 base f u f2 u2) (h0 : 0 ≤ f2) (h1 : f2 ≤ 1000) (now d : Int) (hd : In d) (U : Int) (hU : nextU base (f2 + 1) now d = U) :
    Calls Try.prog 14 #[.pointer (some ⟨g2, 0, none⟩), .int .i64 now, .int .i64 d] w fun e w' => e = .returned (.int .i64 U) ∧ Duo w1 w' g g2 base f u (f2 + 1) U :=
  (fail_n h.two h0 h1 now d hd (f2 + 1) U rfl hU).mono fun _ _ ⟨he, hB, hk⟩ => ⟨he, h.snd hB hk⟩
end

set_option maxHeartbeats 4000000 in
set_option maxRecDepth 100000 in
theorem anew_walk (base : Int) (a1 : Option Addr) (l1 c1 : Nat) (ss : List Stp) (a2 : Option Addr) (l2 c2 : Nat) (ts : List Stp) (w : World) (hs : StepsAt w a1 l1 c1 ss) (ht : StepsAt w a2 l2 c2 ts) :
    Calls Try.prog 7 #[.int .i64 base, .slice a1 l1 c1, .slice a2 l2 c2] w fun e w' => e = .returned (.bool true) ∧ Below w.heap.size w w' := by
  have p1 := hs.hle
  have p2 := hs.hcap
  have q1 := ht.hle
  have q2 := ht.hcap
  obtain ⟨n, hn⟩ : ∃ n, min l1 100 = n := ⟨_, rfl⟩
  obtain ⟨m, hm⟩ : ∃ m, min l2 100 = m := ⟨_, rfl⟩
  have he1 := early_any a1 l1 c1 n p1 p2 hn
  have he2 := early_any a2 l2 c2 m q1 q2 hm
  have hn3 : n ≤ 100 := by omega
  have hn4 : n ≤ l1 := by omega
  have hnc : n ≤ c1 := by omega
  have hm3 : m ≤ 100 := by omega
  have hm4 : m ≤ l2 := by omega
  have hmc : m ≤ c2 := by omega
  unfold maxLen at p2 q2
  clear hn hm
  go_enter Try.func7, Try.ntmps7
  go_wp2_with fail
  refine (lives_any _).mono ?_
  rintro e w1 ⟨rfl, hb1⟩
  go_wp2_with fail
  refine (new_any base w1).mono ?_
  rintro e w2 ⟨rfl, hB2, hb2, hz2⟩
  go_wp2_with fail
  refine (new_any base w2).mono ?_
  rintro e w3 ⟨rfl, hB3, hb3, -⟩
  have hT : Duo w1 w3 w1.heap.size w2.heap.size base 0 0 0 0 := ⟨hB2.below hb3, hB3, by omega, (keep_below hb2).trans (keep_below hb3)⟩
  have HS : Hid (StepsAt w1 a1 l1 c1 ss) := hs.below hb1
  have HT : Hid (StepsAt w1 a2 l2 c2 ts) := ht.below hb1
  have HB : Hid (Below w.heap.size w w1) := hb1
  clear hs ht hb1 hb2 hb3 hB2 hB3 hz2
  generalize hg : w1.heap.size = g at *
  have HG : Hid (w1.heap.size = g) := hg
  clear hg
  generalize w2.heap.size = g2 at *
  go_wp2_with fail
  refine (he1 w3).mono ?_
  rintro e w' ⟨rfl, hw'⟩
  obtain rfl : w3 = w' := hw'.symm
  clear hw' he1
  go_wp2_with fail
  refine (he2 w3).mono ?_
  rintro e w' ⟨rfl, hw'⟩
  obtain rfl : w3 = w' := hw'.symm
  clear hw' he2
  go_wp2
  go_loopw [9] (fun vi wr => ∃ (i : Nat) (u : Int), vi = .int .i64 i ∧ i ≤ n ∧ Duo w1 wr g g2 base i u 0 0) (fun vi _ => n - (intOf vi).toNat)
  case atStart => exact ⟨0, 0, rfl, Nat.zero_le _, hT⟩
  case round =>
    clear hT
    obtain ⟨i, u, rfl, hi1, hT⟩ := hrel
    by_cases hc : i < n
    · obtain ⟨b, off, rfl, hlt, -, x1, x2⟩ := HS.out.rd i (by omega)
      have hd := HS.out.wf i (by omega)
      generalize (ss.getD i s0).at_ = at_ at *
      generalize (ss.getD i s0).dr = dr at *
      rw [HG.out] at hlt
      obtain ⟨U, hU⟩ : ∃ U, nextU base (i + 1) at_ dr = U := ⟨_, rfl⟩
      have hfl := fun (w' : World) (h : Duo w1 w' g g2 base i u 0 0) => h.fail1 (by omega) (by omega) at_ dr hd U hU
      have HX : Hid (w1.cell? ⟨b, off + i * 3 + 1, none⟩ = some (.int .i64 at_) ∧ w1.cell? ⟨b, off + i * 3 + 2, none⟩ = some (.int .i64 dr) ∧ b < g) := ⟨x1, x2, hlt⟩
      have HD : Hid (Duo w1 wr g g2 base i u 0 0) := hT
      have HS1 : Hid (wr.drew.cell? ⟨b, off + i * 3 + 1, none⟩ = some (.int .i64 at_) ∧ wr.drew.cell? ⟨b, off + i * 3 + 2, none⟩ = some (.int .i64 dr)) := ⟨hT.cell x1 hlt, hT.cell x2 hlt⟩
      clear hT x1 x2 hU hd
      go_wp2_with fail
      have hS := HS1.out
      go_region_held3 (fun w' => w'.cell? ⟨b, off + i * 3 + 1, none⟩ = some (.int .i64 at_) ∧ w'.cell? ⟨b, off + i * 3 + 2, none⟩ = some (.int .i64 dr))
        (first | assumption | exact ⟨hbx.cell HX.out.1 HX.out.2.2, hbx.cell HX.out.2.1 HX.out.2.2⟩ | go_keep)
        (first | (go_at_call 14; refine (hfl _ HD.out.drew).mono ?_; rintro e w' ⟨rfl, hbx⟩))
      have HE : Hid (Duo w1 w' g g2 base (i + 1) U 0 0) := hbx
      clear hbx hS HS1 HD HX hfl
      go_wp2
      exact ⟨⟨i + 1, U, by simp, by omega, by simpa using HE.out⟩, by simp [intOf]; omega⟩
    · obtain rfl : n = i := by omega
      have hok := ok_w hT.one
      have HD0 : Hid (Duo w1 wr g g2 base n u 0 0) := hT
      clear hT HS
      go_wp2_with fail
      refine hok.mono ?_
      rintro e w4 ⟨rfl, hB4, hk4⟩
      have hT4 := HD0.out.fst hB4 hk4
      clear hok hB4 hk4 HD0
      go_wp2
      go_loopw [10] (fun vi wr => ∃ (i : Nat) (u : Int), vi = .int .i64 i ∧ i ≤ m ∧ Duo w1 wr g g2 base i u i u) (fun vi _ => m - (intOf vi).toNat)
      case atStart => exact ⟨0, 0, rfl, Nat.zero_le _, hT4⟩
      case round =>
        clear hT4
        obtain ⟨i, u, rfl, hi1, hT⟩ := hrel
        by_cases hc : i < m
        · obtain ⟨b, off, rfl, hlt, -, x1, x2⟩ := HT.out.rd i (by omega)
          have hd := HT.out.wf i (by omega)
          generalize (ts.getD i s0).at_ = at_ at *
          generalize (ts.getD i s0).dr = dr at *
          rw [HG.out] at hlt
          obtain ⟨U, hU⟩ : ∃ U, nextU base (i + 1) at_ dr = U := ⟨_, rfl⟩
          have hfl := fun (w' : World) (h : Duo w1 w' g g2 base i u i u) => h.fail1 (by omega) (by omega) at_ dr hd U hU
          have hfm := fun (w' : World) (h : Duo w1 w' g g2 base (i + 1) U i u) => h.fail2 (by omega) (by omega) at_ dr hd U hU
          have HX : Hid (w1.cell? ⟨b, off + i * 3 + 1, none⟩ = some (.int .i64 at_) ∧ w1.cell? ⟨b, off + i * 3 + 2, none⟩ = some (.int .i64 dr) ∧ b < g) := ⟨x1, x2, hlt⟩
          have HD : Hid (Duo w1 wr g g2 base i u i u) := hT
          have HS1 : Hid (wr.drew.cell? ⟨b, off + i * 3 + 1, none⟩ = some (.int .i64 at_) ∧ wr.drew.cell? ⟨b, off + i * 3 + 2, none⟩ = some (.int .i64 dr)) := ⟨hT.cell x1 hlt, hT.cell x2 hlt⟩
          clear hT x1 x2 hU hd
          go_wp2_with fail
          have hS := HS1.out
          go_region_held3 (fun w' => w'.cell? ⟨b, off + i * 3 + 1, none⟩ = some (.int .i64 at_) ∧ w'.cell? ⟨b, off + i * 3 + 2, none⟩ = some (.int .i64 dr))
            (first | assumption | exact ⟨hbx.cell HX.out.1 HX.out.2.2, hbx.cell HX.out.2.1 HX.out.2.2⟩ | exact ⟨hby.cell HX.out.1 HX.out.2.2, hby.cell HX.out.2.1 HX.out.2.2⟩ | go_keep)
            (first
              | (go_at_call_of 14 (Value.pointer (some ⟨g, 0, none⟩)); refine (hfl _ HD.out.drew).mono ?_; rintro e w5 ⟨rfl, hbx⟩)
              | (go_at_call_of 14 (Value.pointer (some ⟨g2, 0, none⟩)); refine (hfm _ hbx).mono ?_; rintro e w6 ⟨rfl, hby⟩))
          have HE : Hid (Duo w1 w6 g g2 base (i + 1) U (i + 1) U) := hby
          have y1 := hby.cell HX.out.1 HX.out.2.2
          have g1 := fun q => fails_w (hby.one.drewN q)
          have g3 := fun q => fails_w (hby.two.drewN q)
          have g5 := fun q => may_w (hby.one.drewN q) at_
          have g7 := fun q => may_w (hby.two.drewN q) at_
          generalize past at_ U = pb at *
          clear hbx hby hS HS1 HD HX hfl hfm
          go_wp2
          go_quiet (first
            | (go_at_call_of 16 (Value.pointer (some ⟨g, 0, none⟩)); exact Calls.quiet_of_same (g1 _))
            | (go_at_call_of 16 (Value.pointer (some ⟨g2, 0, none⟩)); exact Calls.quiet_of_same (g3 _))
            | (go_at_call_of 18 (Value.pointer (some ⟨g, 0, none⟩)); exact Calls.quiet_of_same (g5 _))
            | (go_at_call_of 18 (Value.pointer (some ⟨g2, 0, none⟩)); exact Calls.quiet_of_same (g7 _)))
          go_wp2
          exact ⟨⟨i + 1, U, by simp, by omega, by simpa using HE.out.drewN _⟩, by simp [intOf]; omega⟩
        · obtain rfl : m = i := by omega
          have hu1 := until_w hT.one
          have hu2 := until_w hT.two
          have HK : Hid (Keep (fun k => k < g) w1 wr) := hT.keep
          clear hT
          go_wp2_with fail
          refine hu1.mono ?_
          rintro e w' ⟨rfl, hw'⟩
          obtain rfl : wr = w' := hw'.symm
          clear hw' hu1
          go_wp2_with fail
          refine hu2.mono ?_
          rintro e w' ⟨rfl, hw'⟩
          obtain rfl : wr = w' := hw'.symm
          clear hw' hu2
          go_wp2
          go_ret
          exact ⟨rfl, HB.out.trans (HK.out.below HB.out.size (fun k hk => by have := HB.out.size; have := HG.out; omega))⟩

end Go.Proofs.Ytcofkaackpecjaa
