/-
  QueueRow's walk: those that wait are taken out in the row in which they came: it returns true and turns nothing that was there. Conditions: the slice lies where it is said to lie.
-/
import Derived.Test.YtcndgcfdopjjfaaStrs
namespace Go.Proofs.Ytcndgcfdopjjfaa
open Go.ChangeShapes Go.WideShapes Go.ChangeAt Go.RowKit

/-- The numbers from o on, below n. -/
def idsI (o n : Nat) : List Int := (List.range' o (n - o)).map (fun k : Nat => (k : Int))
theorem idsI_len (o n : Nat) : (idsI o n).length = n - o := by simp [idsI]
theorem idsI_mem {o n : Nat} {x : Int} (h : x ∈ idsI o n) : (o : Int) ≤ x ∧ x < n := by
  unfold idsI at h
  simp [List.mem_map, List.mem_range'] at h
  omega
theorem idsI_not (o n : Nat) : ((n : Nat) : Int) ∉ idsI o n := fun h => by have := idsI_mem h; omega
theorem idsI_push {o n : Nat} (h : o ≤ n) : idsI o (n + 1) = idsI o n ++ [((n : Nat) : Int)] := by
  unfold idsI
  rw [show n + 1 - o = (n - o) + 1 by omega, List.range'_concat, List.map_append]
  simp
  omega
theorem idsI_head {o n : Nat} (h : o < n) : idsI o n = ((o : Nat) : Int) :: idsI (o + 1) n := by
  unfold idsI
  rw [show n - o = (n - (o + 1)) + 1 by omega, List.range'_succ]
  rfl
theorem idsI_pop {o n : Nat} (h : o < n) : (idsI o n).filter (fun x => !([((o : Nat) : Int)].contains x)) = idsI (o + 1) n := by
  rw [idsI_head h, List.filter_cons, if_neg (by simp), List.filter_eq_self.2]
  intro x hx
  have := idsI_mem hx
  simp
  omega
theorem map_without (ids : List Int) (L : List Wt) : (without ids L).map Prod.fst = (L.map Prod.fst).filter (fun x => !ids.contains x) := by
  unfold without
  rw [List.filter_map]
  rfl

theorem roomN_nat {R : Nat} (h : R ≤ 16) : roomN (R : Int) = R := by unfold roomN; omega

set_option maxHeartbeats 4000000 in
set_option maxRecDepth 100000 in
theorem row_walk (rm : Int) (a1 : Option Addr) (l1 c1 : Nat) (bs : List Bool) (w : World) (hz : BoolsAt w a1 l1 c1 bs) :
    Calls Try.prog 4 #[.int .i64 rm, .slice a1 l1 c1] w fun e w' => e = .returned (.bool true) ∧ Below w.heap.size w w' := by
  have q1 := hz.hle
  have q2 := hz.hcap
  unfold maxLen at q2
  have hub := um_bd 17 rm (by decide) (by decide)
  obtain ⟨R, hu⟩ : ∃ R : Nat, wrap64 ((IntKind.u64.wrap rm).tmod 17) = (R : Int) := ⟨(wrap64 ((IntKind.u64.wrap rm).tmod 17)).toNat, by omega⟩
  rw [hu] at hub
  have hR : R ≤ 16 := by omega
  clear hub
  go_enter Try.func4, Try.ntmps4
  go_wp2_with fail
  refine (lives_any _).mono ?_
  rintro e w1 ⟨rfl, hb1⟩
  go_wp2_with fail
  refine (new_any _ w1).mono ?_
  rintro e w2 ⟨rfl, hq2, hb2, -⟩
  rw [roomN_nat hR] at hq2
  rw [hu]
  have hk12 : Keep (fun k => k < w1.heap.size) w1 w2 := keep_below hb2
  have HZ : Hid (BoolsAt w1 a1 l1 c1 bs) := hz.below hb1
  have HB : Hid (Below w.heap.size w w1) := hb1
  clear hz hb1 hb2 hu
  generalize hg : w1.heap.size + 1 = g at *
  go_wp2
  go_loopw [6, 7, 8] (fun v6 v7 v8 wr => ∃ (i n o : Nat) (L : List Wt), v8 = .int .i64 i ∧ v6 = .int .i64 n ∧ v7 = .int .i64 o ∧ o ≤ n ∧ n ≤ i ∧ i ≤ l1 ∧ i ≤ 100 ∧ L.map Prod.fst = idsI o n ∧ QAt wr (fun k => k < w1.heap.size) g R L ∧ Keep (fun k => k < w1.heap.size) w1 wr) (fun _ _ v8 _ => 101 - (intOf v8).toNat)
  case atStart => exact ⟨0, 0, 0, [], rfl, rfl, rfl, Nat.le_refl _, Nat.le_refl _, Nat.zero_le _, Nat.zero_le _, rfl, hq2, hk12⟩
  case round =>
    clear hq2 hk12
    obtain ⟨i, n, o, L, rfl, rfl, rfl, ho, hn, hi1, hi2, hids, hq, hkr⟩ := hrel
    have hlen : L.length = n - o := by rw [← idsI_len o n, ← hids, List.length_map]
    have hcap := hq.le
    have HQ : Hid (QAt wr (fun k => k < w1.heap.size) g R L) := hq
    have HK : Hid (Keep (fun k => k < w1.heap.size) w1 wr) := hkr
    have HI : Hid (L.map Prod.fst = idsI o n) := hids
    have hlw := len_w wr _ g R L hq
    rw [hlen] at hlw hcap
    by_cases hc : i < l1 ∧ i < 100
    · obtain ⟨hc1, hc2⟩ := hc
      obtain ⟨b, off, rfl, hlt, hcell⟩ := HZ.out.at_ i hc1
      have hx := hkr.cell hcell hlt
      generalize bs.getD i false = bt at hx
      clear hcell
      cases bt with
      | true =>
        have hnot : ((n : Nat) : Int) ∉ L.map Prod.fst := by rw [hids]; exact idsI_not o n
        have hpl := place_w wr _ g R L n hq
        rw [plc_not hnot] at hpl
        by_cases hf : R ≤ n - o
        · have hp := push_full wr _ g R L n i hq hnot (by omega)
          have hlt2 : ¬ ((n : Int) - (o : Int) < (R : Int)) := by omega
          clear hq hkr hids hnot hlw
          go_wp2_with (first
            | (go_at_call 14; refine hp.mono ?_; rintro e w' ⟨rfl, hw'⟩; subst w')
            | (go_at_call 28; refine hpl.mono ?_; rintro e w' ⟨rfl, hw'⟩; subst w'))
          exact ⟨⟨i + 1, n, o, L, by simp, rfl, rfl, ho, by omega, by omega, by omega, HI.out, HQ.out, HK.out⟩, by simp [intOf]; omega⟩
        · have hp := push_ok wr _ g R L n i hq hnot (by omega)
          have hlt2 : ((n : Int) - (o : Int) < (R : Int)) := by omega
          clear hq hkr hids hnot hlw
          go_wp2_with (first
            | (go_at_call 14; refine hp.mono ?_; rintro e w3 ⟨rfl, hq3, hk3⟩))
          exact ⟨⟨i + 1, n + 1, o, _, by simp, by simp, rfl, by omega, by omega, by omega, by omega, by rw [List.map_append, HI.out, idsI_push ho]; rfl, hq3, HK.out.trans hk3⟩, by simp [intOf]; omega⟩
      | false =>
        have hp := pop_w wr _ g R L hq
        by_cases he : o < n
        · have hfst : (nthW L 0).1 = ((o : Nat) : Int) := by rw [← ids_getD, hids, idsI_head he]; rfl
          rw [hlen, decide_eq_true (show 0 < n - o by omega), hfst] at hp
          have hlt2 : (n : Int) > (o : Int) := by omega
          have HP : Hid ((without [((o : Nat) : Int)] L).map Prod.fst = idsI (o + 1) n) := by
            show _ = _
            rw [map_without, hids]
            exact idsI_pop he
          clear hq hkr hids hlw hfst
          go_wp2_with (first
            | (go_at_call 16; refine hp.mono ?_; rintro e w3 ⟨rfl, hq3, hk3⟩))
          exact ⟨⟨i + 1, n, o + 1, _, by simp, rfl, by simp, by omega, by omega, by omega, by omega, HP.out, hq3, HK.out.trans hk3⟩, by simp [intOf]; omega⟩
        · obtain rfl : L = [] := List.length_eq_zero_iff.1 (by omega)
          have hlt2 : ¬ ((n : Int) > (o : Int)) := by omega
          have hp2 : Calls Try.prog 16 #[.pointer (some ⟨g, 0, none⟩)] wr fun e w' => e = .returned (.tuple #[.int .i64 0, .bool false]) ∧ QAt w' (fun k => k < w1.heap.size) g R [] ∧ Keep (fun k => k < w1.heap.size) wr w' := hp
          clear hq hkr hids hlw hp
          go_wp2_with (first
            | (go_at_call 16; refine hp2.mono ?_; rintro e w3 ⟨rfl, hq3, hk3⟩))
          exact ⟨⟨i + 1, n, o, [], by simp, rfl, rfl, by omega, by omega, by omega, by omega, HI.out, hq3, HK.out.trans hk3⟩, by simp [intOf]; omega⟩
    · have he1 : ((n - o : Nat) : Int) = (n : Int) - (o : Int) := by omega
      have he2 : ((n - o : Nat) : Int) ≤ (R : Int) := by omega
      rw [he1] at hlw he2
      have HE : Hid (Below w.heap.size w wr) := below_trans HB.out (hkr.below (Nat.le_refl _) (fun _ h => h))
      clear hq hkr hids HZ
      by_cases hc1 : i < l1
      · have hc2 : ¬ (i : Int) < 100 := by omega
        go_wp2_with (first | (go_at_call 25; refine hlw.mono ?_; rintro e w' ⟨rfl, hw'⟩; subst w'))
        go_ret
        exact ⟨rfl, HE.out⟩
      · go_wp2_with (first | (go_at_call 25; refine hlw.mono ?_; rintro e w' ⟨rfl, hw'⟩; subst w'))
        go_ret
        exact ⟨rfl, HE.out⟩

end Go.Proofs.Ytcndgcfdopjjfaa
