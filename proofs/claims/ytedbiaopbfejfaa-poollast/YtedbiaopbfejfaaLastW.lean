/-
  PoolLast's walk: of connections that are given back in any row those come out in the other one: it returns true and turns nothing that was there. Conditions: the row lies where it is said to lie.
-/
import Derived.Test.YtedbiaopbfejfaaLastP
namespace Go.Proofs.Ytedbiaopbfejfaa
open Go.ChangeShapes Go.WideShapes Go.ChangeAt Go.RowKit

set_option maxHeartbeats 4000000 in
set_option maxRecDepth 100000 in
theorem last_walk (rm : Int) (a1 : Option Addr) (l1 c1 : Nat) (zs : List Int) (w : World) (hz : IntsAt w a1 l1 c1 zs) :
    Calls Try.prog 5 #[.int .i64 rm, .slice a1 l1 c1] w fun e w' => e = .returned (.bool true) ∧ Below w.heap.size w w' := by
  have q1 := hz.hle
  have q2 := hz.hcap
  have hub := um_bd 8 rm (by decide) (by decide)
  obtain ⟨N, hu⟩ : ∃ N : Nat, 1 + wrap64 ((IntKind.u64.wrap rm).tmod 8) = (N : Int) := ⟨(1 + wrap64 ((IntKind.u64.wrap rm).tmod 8)).toNat, by omega⟩
  have hN8 : N ≤ 8 := by omega
  have hN1 : 1 ≤ N := by omega
  unfold maxLen at q2
  go_enter Try.func5, Try.ntmps5
  go_wp2_with fail
  refine (lives_any _).mono ?_
  rintro e w1 ⟨rfl, hb1⟩
  go_wp2_with fail
  refine (new_any (N : Int) w1).mono ?_
  rintro e w2 ⟨rfl, hq2, hb2⟩
  rw [roomN_nat hN1 hN8] at hq2
  have HZ : Hid (IntsAt w1 a1 l1 c1 zs) := hz.below hb1
  have HB := Hid.mk' hb1
  have hk2 : Keep (fun k => k < w1.heap.size) w1 w2 := keep_below hb2
  generalize w1.heap.size + 2 = g at *
  clear hz hb1 hb2 hub hu
  go_wp2
  go_loopw [6] (fun v6 wr => ∃ i : Nat, v6 = .int .i64 i ∧ i ≤ N ∧ PAt wr (fun k => k < w1.heap.size) g N ⟨[], ri i, []⟩ i ∧ Keep (fun k => k < w1.heap.size) w1 wr) (fun v6 _ => N + 1 - (intOf v6).toNat)
  case atStart => exact ⟨0, rfl, Nat.zero_le _, hq2, hk2⟩
  case round =>
    clear hq2 hk2
    obtain ⟨i, rfl, hi, hq, hk⟩ := hrel
    by_cases hiN : i < N
    · have hm := make_next hq hiN hN8
      go_wp2_with (first
        | (go_at_call 14; refine hm.mono ?_; rintro e w3 ⟨rfl, hq3, hk3⟩; have hr := ready_next hq3 (by omega) (by omega))
        | (go_at_call 16; refine hr.mono ?_; rintro e w4 ⟨rfl, hq4, hk4⟩))
      exact ⟨⟨i + 1, by simp, hiN, hq4, (hk.trans hk3).trans hk4⟩, by simp [intOf]; omega⟩
    · obtain rfl : N = i := by omega
      go_wp2
      go_loopw [7] (fun v7 wr => ∃ (j : Nat) (B : List Int), v7 = .int .i64 ((j : Int) - 1) ∧ j ≤ N ∧ PAt wr (fun k => k < w1.heap.size) g N ⟨[], ri j, B⟩ N ∧ (∀ x, x ∈ B ↔ (j : Int) ≤ x ∧ x < N) ∧ j + B.length = N ∧ Keep (fun k => k < w1.heap.size) w1 wr) (fun v7 _ => (intOf v7 + 1).toNat)
      case atStart => exact ⟨N, [], rfl, Nat.le_refl _, hq, fun x => by simp, rfl, hk⟩
      case round =>
        clear hq hk
        obtain ⟨j, B, rfl, hj, hq, hB, hlen, hk⟩ := hrel
        cases j with
        | succ j =>
          rw [ri_succ] at hq
          have ht := take_end hq
          have e1 : ((j + 1 : Nat) : Int) - 1 = j := by omega
          rw [e1]
          go_wp2_with (first | (go_at_call 18; refine ht.mono ?_; rintro e w3 ⟨rfl, hq3, hk3⟩))
          refine ⟨⟨j, B ++ [(j : Int)], rfl, by omega, hq3, fun x => ?_, by simp; omega, hk.trans hk3⟩, by simp [intOf]⟩
          rw [List.mem_append, List.mem_singleton, hB x]
          omega
        | zero =>
          have ht := take_empty hq
          go_wp2_with (first | (go_at_call 18; refine ht.mono ?_; rintro e w3 ⟨rfl, hq3, hk3⟩))
          have hq0 : PAt w3 (fun k => k < w1.heap.size ∨ (Value.slice none 0 0).ownBlock = some k) g N ⟨[], [], B⟩ N := hq3.fewer (fun k hk => by rcases hk with hk | hk; exact hk; simp [Value.ownBlock] at hk)
          have hgb : GB w3 (fun k => k < w1.heap.size ∨ (Value.slice none 0 0).ownBlock = some k) g N [] B N := ⟨hq0, fun x => by rw [hB x]; simp, by simpa using hlen⟩
          have hkw := hk.trans hk3
          clear hq hq3 hB hlen hk hk3 hq0 ht
          go_loopw [12, 13] (fun v12 v13 wr => ∃ (i : Nat) (G B : List Int) (K : Nat), v13 = .int .i64 i ∧ i ≤ 20 ∧ K ≤ N + i ∧ G.length ≤ i ∧ GB wr (fun k => k < w1.heap.size ∨ v12.ownBlock = some k) g N G B K ∧ wr.ownsRow w1.heap.size 3 1 v12 G.length (ic G) ∧ Keep (fun k => k < w1.heap.size) w1 wr) (fun _ v13 _ => 21 - (intOf v13).toNat)
          case atStart => exact ⟨0, [], B, N, rfl, by omega, Nat.le_refl _, Nat.le_refl _, hgb, ⟨rfl, .inl ⟨rfl, rfl⟩⟩, hkw⟩
          case round =>
            clear hgb hkw
            obtain ⟨i, G, B, K, rfl, hi20, hK, hGi, hgb, hown, hk⟩ := hrel
            obtain ⟨ag, cg, e12, hig, hng, hlg⟩ := owns_ints hown
            subst e12
            have HG := Hid.mk' hgb
            have HO : Hid (wr.ownsRow w1.heap.size 3 1 (.slice ag G.length cg) G.length (ic G)) := hown
            have HI := Hid.mk' hig
            have HK := Hid.mk' hk
            have hgl := hig.hle
            have hgc := hig.hcap
            unfold maxLen at hgc
            by_cases hc : i < l1 ∧ i < 20
            · obtain ⟨hc1, hc2⟩ := hc
              obtain ⟨b, off, rfl, hbl, hcell⟩ := HZ.out.at_ i hc1
              have hcell2 := hk.cell hcell hbl
              have hbd := um_bd N (zs.getD i 0) (by omega) (by omega)
              have hwN : IntKind.u64.wrap (N : Int) = N := by simp [IntKind.wrap, IntKind.signed, IntKind.bits]; omega
              generalize zs.getD i 0 = z at *
              clear hcell hgb hown hig hng hlg
              go_upto_region 22 with fail
              generalize wrap64 ((IntKind.u64.wrap z).tmod (N : Int)) = k at hbd ⊢
              cases hb : decide (k ∈ G) with
              | true =>
                have hhas := has_any wr ag G.length cg G k HI.out true hb
                have hgv := HG.out.had hbd.1 hbd.2 (by omega) hN8 hb
                clear hb hwN hcell2 HI
                go_wp2_with (first
                  | (go_at_call 35; refine hhas.mono ?_; rintro e w' ⟨rfl, hw'⟩; subst w')
                  | (go_at_call 20; refine hgv.mono ?_; rintro e w5 ⟨rfl, ⟨B5, hg5⟩, hk5⟩))
                exact ⟨⟨i + 1, G, B5, K + 1, by simp, by omega, by omega, by omega, hg5, owns_keep HO.out hk5 (fun k e => .inr e), HK.out.trans (hk5.mono fun _ _ h => .inl h)⟩, by simp [intOf]; omega⟩
              | false =>
                have hhas := has_any wr ag G.length cg G k HI.out false hb
                have hgv := HG.out.new hbd.1 hbd.2 (by omega) hN8 hb
                have hsz := HK.out.size
                clear hb hwN hcell2 HI
                go_upto_region 26 with (first
                  | (go_at_call 35; refine hhas.mono ?_; rintro e w' ⟨rfl, hw'⟩; subst w')
                  | (go_at_call 20; refine hgv.mono ?_; rintro e w5 ⟨rfl, ⟨B5, hg5⟩, hk5⟩))
                have hsz5 := hk5.size
                have o5 := (owns_keep HO.out hk5 (fun k e => .inr e)).alloc (.cells #[.int .i64 k] 3)
                have hone := one_at w5 k
                have HG5 := Hid.mk' hg5
                have HK5 := Hid.mk' hk5
                clear hg5 hk5 hgv hhas
                go_wp2_with (first | (at_builtin; refine wpList_ints _ rfl _ _ rfl w1.heap.size (.slice ag G.length cg) G.length G [k] _ rfl o5 _ 1 1 rfl hone (fun h => by cases h) (by omega) (by simp; omega) rfl (G.length + 1) rfl ?_; intro v' w7 o7 g7 hat))
                have hl7 : (G ++ [k]).length = G.length + 1 := by simp
                have hrow : ∀ k, v'.ownBlock = some k → k < w7.heap.size := fun k e => (o7.lt k e).2
                have hz7 := g7.size
                rw [World.size_alloc] at hz7
                refine ⟨⟨i + 1, G ++ [k], B5, K + 1, by simp, by omega, by omega, by omega, HG5.out.row g7 (fun k e => .inr e) (fun k hk => ?_) (fun k hk => ?_), by rw [hl7]; exact o7, ?_⟩, by simp [intOf]; omega⟩
                · rcases hk with hk | hk
                  · exact .inl (.inl hk)
                  · rcases hat with e | e
                    · exact .inl (.inr (e ▸ hk))
                    · rw [e] at hk; cases hk; exact .inr rfl
                · rcases hk with hk | hk
                  · omega
                  · exact hrow k hk
                · refine (HK.out.trans (HK5.out.mono fun _ _ h => .inl h)).trans (((Keep.refl _ w5).alloc _).trans (keep_grown g7 (fun k e => ?_)))
                  have := (HO.out.lt k e).1
                  omega
            · have hlen := hgb.len
              have hp := hgb.p
              have hcase : (l1 ≤ i) ∨ (i < l1 ∧ i = 20) := by omega
              have htk : G.take G.length = G := List.take_length
              clear hgb hown hk hig HG HI
              rcases hcase with hc1 | ⟨hc1, rfl⟩
              all_goals (
                go_wp2
                go_loopw [16] (fun v16 wr => ∃ (j : Nat) (B : List Int), v16 = .int .i64 ((j : Int) - 1) ∧ j ≤ G.length ∧ PAt wr (fun k => k < w1.heap.size ∨ (Value.slice ag G.length cg).ownBlock = some k) g N ⟨[], G.take j, B⟩ K ∧ j + B.length = N ∧ wr.ownsRow w1.heap.size 3 1 (.slice ag G.length cg) G.length (ic G) ∧ Keep (fun k => k < w1.heap.size) w1 wr) (fun v16 _ => (intOf v16 + 1).toNat)
                case atStart => exact ⟨G.length, B, rfl, Nat.le_refl _, by rw [htk]; exact hp, hlen, HO.out, HK.out⟩
                case round =>
                  clear hp hlen HO HK hc htk
                  obtain ⟨j, B, rfl, hj, hq, hlen, hown, hk⟩ := hrel
                  cases j with
                  | succ j =>
                    rw [take_snoc (by omega)] at hq
                    have ht := take_end hq
                    have HO := Hid.mk' hown
                    have HK := Hid.mk' hk
                    have e1 : ((j + 1 : Nat) : Int) - 1 = j := by omega
                    rw [e1]
                    generalize hy : G.getD j 0 = y at *
                    have HY := Hid.mk' hy
                    clear hq hown hk hy
                    go_upto_region 31 with (first | (go_at_call 18; refine ht.mono ?_; rintro e w5 ⟨rfl, hq5, hk5⟩))
                    have ho5 := owns_keep HO.out hk5 (fun k e => .inr e)
                    obtain ⟨a5, c5, e5, hi5, _, _⟩ := owns_ints ho5
                    cases e5
                    obtain ⟨b5, o5, rfl, hb5, hc5⟩ := hi5.at_ j (by omega)
                    rw [HY.out] at hc5
                    have HO5 : Hid (w5.ownsRow w1.heap.size 3 1 (.slice (some ⟨b5, o5, none⟩) G.length cg) G.length (ic G)) := ho5
                    clear ho5 hi5 ht
                    go_wp2
                    exact ⟨⟨j, B ++ [y], rfl, by omega, hq5, by simp; omega, HO5.out, HK.out.trans (hk5.mono fun _ _ h => .inl h)⟩, by simp [intOf]⟩
                  | zero =>
                    obtain ⟨zz, hzz⟩ : ∃ zz, srt (⟨[], G.take 0, B⟩ : St).B = zz := ⟨_, rfl⟩
                    have hbz := busy_w hq zz hzz
                    have hzl : zz.length = N := by
                      rw [← hzz, srt_length]
                      show B.length = N
                      omega
                    rw [hzl] at hbz
                    have HR : Hid (∀ w5, Below wr.heap.size wr w5 → Calls Try.prog 25 #[.pointer (some ⟨g, 0, none⟩)] w5 fun e w' => e = .returned (.int .i64 (0 : Nat)) ∧ w' = w5) := fun w5 hb => room_w (hq.belowS hb) 0 (by simp [St.ids]; omega)
                    have HK := Hid.mk' hk
                    clear hq hown hk hzz
                    go_wp2_with (first
                      | (go_at_call 32; refine hbz.mono ?_; rintro e w5 ⟨a5, c5, rfl, hl5, hb5⟩; have hr5 := HR.out w5 hb5)
                      | (go_at_call 25; refine hr5.mono ?_; rintro e w' ⟨rfl, hw'⟩; subst w'))
                    go_ret
                    exact ⟨rfl, below_trans HB.out (Keep.below (HK.out.trans (keep_below hb5)) (Nat.le_refl _) (fun _ h => h))⟩)

end Go.Proofs.Ytedbiaopbfejfaa
