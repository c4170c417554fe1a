/-
  QueueLate's walk: at a tick no one is left that came too long ago, and all others are: it returns true and turns nothing that was there. Conditions: the slice lies where it is said to lie.
-/
import Derived.Test.YtcndgcfdopjjfaaLateP
namespace Go.Proofs.Ytcndgcfdopjjfaa
open Go.ChangeShapes Go.WideShapes Go.ChangeAt Go.RowKit

/-- A queue, beside a row of one's own that has grown. -/
theorem QAt.beside {w w1 w2 : World} {B base t s n n' g R : Nat} {v v' : Value} {cs cs' : List Value} {L : List Wt} (h : QAt w (fun k => k < B ∨ v.ownBlock = some k) g R L) (hk : Keep (fun _ => True) w w1) (hg : w1.grownBy w2 v.ownBlock) (hB : B ≤ w.heap.size)
    (hown : w2.ownsRow base t s v' n' cs') (hloc : v'.ownBlock = v.ownBlock ∨ v'.ownBlock = some w1.heap.size) (_ : w1.ownsRow base t s v n cs) : QAt w2 (fun k => k < B ∨ v'.ownBlock = some k) g R L := by
  have hz := hk.size
  have hz2 := hg.size
  refine h.keep (w' := w2) ?_ (fun k hk => ?_) (fun k hk => ?_)
  · exact (hk.mono (fun _ _ _ => trivial)).trans (keep_grown hg (fun k hk hA => hA (.inr hk)))
  · rcases hk with hk | hk
    · exact .inl (.inl hk)
    · rcases hloc with e | e
      · exact .inl (.inr (e ▸ hk))
      · rw [e] at hk
        cases hk
        exact .inr hz
  · rcases hk with hk | hk
    · omega
    · exact (hown.lt k hk).2

theorem getD_snoc {T : List Int} {y : Int} {j : Nat} (h : j < T.length) : (T ++ [y]).getD j 0 = T.getD j 0 := by simp [List.getD, List.getElem?_append_left h]
theorem getD_last (T : List Int) (y : Int) : (T ++ [y]).getD T.length 0 = y := by simp [List.getD]

/-- Ticks that don't fall. -/
structure Ups (T : List Int) (y : Int) : Prop where
  lo : ∀ j, j < T.length → 0 ≤ T.getD j 0
  hi : ∀ j, j < T.length → T.getD j 0 ≤ y
  up : ∀ i j, i ≤ j → j < T.length → T.getD i 0 ≤ T.getD j 0
theorem Ups.nil (y : Int) : Ups [] y := ⟨fun j hj => by simp at hj, fun j hj => by simp at hj, fun i j _ hj => by simp at hj⟩
theorem Ups.more {T : List Int} {y Y : Int} (h : Ups T y) (h0 : 0 ≤ Y) (h1 : y ≤ Y) : Ups (T ++ [Y]) Y := by
  have key : ∀ j, j < (T ++ [Y]).length → j < T.length ∨ j = T.length := fun j hj => by simp at hj; omega
  refine ⟨fun j hj => ?_, fun j hj => ?_, fun i j hij hj => ?_⟩
  · rcases key j hj with e | rfl
    · rw [getD_snoc e]; exact h.lo j e
    · rw [getD_last]; exact h0
  · rcases key j hj with e | rfl
    · rw [getD_snoc e]; have := h.hi j e; omega
    · rw [getD_last]; omega
  · rcases key j hj with e | rfl
    · rw [getD_snoc e, getD_snoc (by omega)]; exact h.up i j hij e
    · rw [getD_last]
      by_cases hi : i < T.length
      · rw [getD_snoc hi]; have := h.hi i hi; omega
      · obtain rfl : i = T.length := by omega
        rw [getD_last]; omega

set_option maxHeartbeats 4000000 in
set_option maxRecDepth 100000 in
theorem late_walk (a1 : Option Addr) (l1 c1 : Nat) (zs : List Int) (wt mr : Int) (w : World) (hz : IntsAt w a1 l1 c1 zs) :
    Calls Try.prog 5 #[.slice a1 l1 c1, .int .i64 wt, .int .i64 mr] w fun e w' => e = .returned (.bool true) ∧ Below w.heap.size w w' := by
  have q1 := hz.hle
  have q2 := hz.hcap
  unfold maxLen at q2
  have hub := um_bd 30 wt (by decide) (by decide)
  obtain ⟨u, hu⟩ : ∃ u, wrap64 ((IntKind.u64.wrap wt).tmod 30) = u := ⟨_, rfl⟩
  rw [hu] at hub
  obtain ⟨hu0, hu1⟩ := hub
  have hmb := um_bd 30 mr (by decide) (by decide)
  obtain ⟨m, hm⟩ : ∃ m, wrap64 ((IntKind.u64.wrap mr).tmod 30) = m := ⟨_, rfl⟩
  rw [hm] at hmb
  obtain ⟨hm0, hm1⟩ := hmb
  go_enter Try.func5, Try.ntmps5
  go_wp2_with fail
  refine (lives_any _).mono ?_
  rintro e w1 ⟨rfl, hb1⟩
  go_wp2_with fail
  refine (new_any _ w1).mono ?_
  rintro e w2 ⟨rfl, hq2, hb2, -⟩
  rw [show roomN 16 = 16 by decide] at hq2
  rw [hu, hm]
  have hk12 : Keep (fun k => k < w1.heap.size) w1 w2 := keep_below hb2
  have HZ : Hid (IntsAt w1 a1 l1 c1 zs) := hz.below hb1
  have HB : Hid (Below w.heap.size w w1) := hb1
  clear hz hb1 hb2 hu hm
  generalize hg : w1.heap.size + 1 = g at *
  go_wp2
  go_loopw [8, 9, 10] (fun v8 v9 v10 wr => ∃ (i : Nat) (y : Int) (T : List Int) (L : List Wt), v10 = .int .i64 i ∧ v8 = .int .i64 y ∧ i ≤ l1 ∧ i ≤ 16 ∧ T.length = i ∧ 0 ≤ y ∧ y ≤ 8 * i ∧ Ups T y ∧ L.map Prod.fst = idsI 0 i ∧ L.map Prod.snd = T ∧ wr.ownsRow w1.heap.size 3 1 v9 i (ic T) ∧ QAt wr (fun k => k < w1.heap.size ∨ v9.ownBlock = some k) g 16 L ∧ Keep (fun k => k < w1.heap.size) w1 wr) (fun _ _ v10 _ => 17 - (intOf v10).toNat)
  case atStart =>
    refine ⟨0, 0, [], [], rfl, rfl, Nat.zero_le _, Nat.zero_le _, rfl, Int.le_refl _, by simp, Ups.nil _, rfl, rfl, ⟨rfl, .inl ⟨rfl, rfl⟩⟩, ?_, hk12⟩
    exact hq2.keep (Keep.refl _ _) (fun k hk => .inl (hk.resolve_right (by simp [Value.ownBlock]))) (fun k hk => by
      have := hk.resolve_right (by simp [Value.ownBlock])
      have := hk12.size
      omega)
  case round =>
    clear hq2 hk12
    obtain ⟨i, y, T, L, rfl, rfl, hi1, hi2, hTl, hy0, hy1, hU, hids, hats, hown, hq, hkr⟩ := hrel
    have hlen : L.length = i := by rw [← List.length_map (f := Prod.snd), hats, hTl]
    have hsz := hkr.size
    by_cases hc : i < l1 ∧ i < 16
    · obtain ⟨hc1, hc2⟩ := hc
      obtain ⟨b, off, rfl, hlt, hcell⟩ := HZ.out.at_ i hc1
      have hx := hkr.cell hcell hlt
      generalize zs.getD i 0 = z at hx
      obtain ⟨v, hv⟩ : ∃ v, wrap64 ((IntKind.u64.wrap z).tmod 9) = v := ⟨_, rfl⟩
      have hvb := um_bd 9 z (by decide) (by decide)
      rw [hv] at hvb
      obtain ⟨hv0, hv1⟩ := hvb
      obtain ⟨Y, hY⟩ : ∃ Y, y + v = Y := ⟨_, rfl⟩
      have hU2 := hU.more (Y := Y) (by omega) (by omega)
      have ho2 := hown.alloc (.cells #[.int .i64 Y] 3)
      have hone := one_at wr Y
      clear hcell
      have HO : Hid (wr.ownsRow w1.heap.size 3 1 u9 i (ic T)) := hown
      have HQ : Hid (QAt wr (fun k => k < w1.heap.size ∨ u9.ownBlock = some k) g 16 L) := hq
      have HK : Hid (Keep (fun k => k < w1.heap.size) w1 wr) := hkr
      have HI : Hid (L.map Prod.fst = idsI 0 i ∧ L.map Prod.snd = T ∧ Ups (T ++ [Y]) Y) := ⟨hids, hats, hU2⟩
      clear hown hq hkr hids hats hU hU2
      have hnot : ((i : Nat) : Int) ∉ L.map Prod.fst := by rw [HI.out.1]; exact idsI_not 0 i
      have hcY : cut Y = Y := cut_mid (by omega) (by omega)
      go_wp2_with (first
        | (at_builtin; refine wpList_ints _ rfl _ _ rfl w1.heap.size u9 i T [Y] _ rfl ho2 _ 1 1 rfl hone (fun h => by cases h) (by omega) (by simp; omega) rfl _ rfl ?_; intro v' w3 o3 g3 loc3; have hq3 := HQ.out.beside (w2 := w3) ((Keep.refl _ wr).alloc (.cells #[.int .i64 Y] 3)) g3 hsz o3 loc3 ho2; have hp := push_ok w3 _ g 16 L i Y hq3 hnot (by omega))
        | (go_at_call 14; refine hp.mono ?_; rintro e w4 ⟨rfl, hq4, hk4⟩))
      rw [hcY] at hq4
      refine ⟨⟨i + 1, Y, T ++ [Y], _, by simp, rfl, by omega, by omega, by simp [hTl], by omega, by omega, HI.out.2.2, ?_, ?_, owns_keep o3 hk4 (fun k hk => .inr hk), hq4, ?_⟩, by simp [intOf]; omega⟩
      · rw [List.map_append, HI.out.1, idsI_push (Nat.zero_le _)]; rfl
      · rw [List.map_append, HI.out.2.1]; rfl
      · refine ((HK.out.alloc _).trans (keep_grown g3 (fun k hk hA => ?_))).trans (hk4.mono (fun k _ hk => .inl hk))
        have := (HO.out.lt k hk).1
        omega
    · obtain ⟨D, hD, hiff⟩ := late_prefix T (y + m) u hU.up
      have hspl := late_split (Y := y + m) (wt := u) (D := D) (by rw [hTl]; exact hids) hats hU.lo (fun j hj => by have := hU.hi j hj; omega) hu0 (by omega) (by omega) (by omega) hD hiff
      rw [hTl] at hspl hD hiff
      obtain ⟨s1, s2, s3⟩ := hspl
      have hE := expire_w wr _ g 16 L (y + m) u hq
      rw [s1, idsI_len, Nat.sub_zero] at hE
      obtain ⟨a9, cp9, rfl, hI9, _, hbk9⟩ := owns_ints hown
      have HI9 : Hid (IntsAt wr a9 i cp9 T) := hI9
      have HA9 : Hid (∀ x, a9 = some x → (x.block < w1.heap.size ∨ (Value.slice a9 i cp9).ownBlock = some x.block)) := fun x hx => .inr (hbk9 x hx).1
      have HK : Hid (Keep (fun k => k < w1.heap.size) w1 wr) := hkr
      have n1 := hI9.hle
      have n2 := hI9.hcap
      unfold maxLen at n2
      have HF : Hid (∀ j, j < i → (T.getD j 0 + u ≤ y + m ↔ j < D)) := hiff
      have HTB : Hid (∀ j, j < i → 0 ≤ T.getD j 0 ∧ T.getD j 0 ≤ y) := fun j hj => ⟨hU.lo j (by omega), hU.hi j (by omega)⟩
      have HS : Hid ((without (idsI 0 D) L).map Prod.fst = idsI D i ∧ lates (y + m) u (without (idsI 0 D) L) = []) := ⟨s2, s3⟩
      have hl2 : (without (idsI 0 D) L).length = i - D := by rw [← List.length_map (f := Prod.fst), s2, idsI_len]
      clear hown hq hkr hids hats hU hiff s1 s2 s3 HZ hI9 hbk9
      obtain ⟨Y, hY⟩ : ∃ Y, y + m = Y := ⟨_, rfl⟩
      rw [hY] at hE HF HS
      have hc3 : i < l1 → ¬ ((i : Int) < 16) := by omega
      by_cases hc1 : i < l1
      all_goals (
        first
          | (have hc2 : ¬ ((i : Int) < 16) := hc3 hc1)
          | skip
        go_wp2_with (first | (go_at_call 21; refine hE.mono ?_; rintro e w5 ⟨a5, cp5, rfl, hI5, hq5, hk5⟩))
        have hE2 := expire_w w5 _ g 16 _ Y u hq5
        rw [HS.out.2] at hE2
        have hI9 := HI9.out.keep hk5 HA9.out
        have HQ5 : Hid (QAt w5 (fun k => k < w1.heap.size ∨ (Value.slice a9 i cp9).ownBlock = some k) g 16 (without (idsI 0 D) L)) := hq5
        have HE : Hid (Below w.heap.size w w5) := below_trans HB.out ((HK.out.trans (hk5.mono (fun k _ hk => .inl hk))).below (Nat.le_refl _) (fun _ h => h))
        have HI5 : Hid (IntsAt w5 a5 D cp5 (idsI 0 D)) := hI5
        have HI9b : Hid (IntsAt w5 a9 i cp9 T) := hI9
        have n3 := hI5.hle
        have n4 := hI5.hcap
        unfold maxLen at n4
        clear hE hq5 hk5 hI5 hI9
        go_loopw [12] (fun v12 w6 => ∃ j : Nat, v12 = .int .i64 j ∧ j ≤ i ∧ w6 = w5) (fun v12 _ => i + 1 - (intOf v12).toNat)
        case atStart => exact ⟨0, rfl, Nat.zero_le _, rfl⟩
        case round =>
          obtain ⟨j, rfl, hj, hw6⟩ := hrel
          subst hw6
          by_cases hji : j < i
          · obtain ⟨b9, o9, hb9, _, hc9⟩ := HI9b.out.at_ j hji
            have hfj := HF.out j hji
            obtain ⟨ht0, ht1⟩ := HTB.out j hji
            generalize T.getD j 0 = t at hc9 hfj ht0 ht1
            subst hb9
            by_cases hjD : j < D
            · obtain ⟨b5, o5, hb5, _, hc5⟩ := HI5.out.at_ j hjD
              rw [idsI_getD (by omega), Nat.zero_add] at hc5
              subst hb5
              have hlt : u ≤ Y - t := by have := hfj.2 hjD; omega
              have hltb : decide (u ≤ Y - t) = true := decide_eq_true hlt
              clear hE2 hfj
              go_wp2
              exact ⟨⟨j + 1, by simp, by omega, trivial⟩, by simp [intOf]; omega⟩
            · have hlt : ¬ (u ≤ Y - t) := fun h => hjD (hfj.1 (by omega))
              have hltb : decide (u ≤ Y - t) = false := decide_eq_false hlt
              have hp := place_w wr _ g 16 _ j HQ5.out
              rw [HS.out.1, idsI_plc (by omega) hji] at hp
              clear hE2 hfj
              go_wp2_with (first | (go_at_call 28; refine hp.mono ?_; rintro e w' ⟨rfl, hw'⟩; subst w'))
              exact ⟨⟨j + 1, by simp, by omega, trivial⟩, by simp [intOf]; omega⟩
          · obtain rfl : i = j := by omega
            go_wp2_with (first | (go_at_call 21; refine hE2.mono ?_; rintro e w7 ⟨a7, cp7, rfl, hI7, hq7, hk7⟩; have hl7 := len_w w7 _ g 16 _ hq7) | (go_at_call 25; refine hl7.mono ?_; rintro e w' ⟨rfl, hw'⟩; subst w'))
            go_ret
            have e7 : without [] (without (idsI 0 D) L) = without (idsI 0 D) L := by simp [without]
            refine ⟨ret_bool ?_, HE.out.trans (hk7.below HE.out.size (fun k hk => .inl (Nat.lt_of_lt_of_le hk HB.out.size)))⟩
            rw [e7, hl2, beq_iff_eq]
            unfold wrap64
            omega)

end Go.Proofs.Ytcndgcfdopjjfaa
