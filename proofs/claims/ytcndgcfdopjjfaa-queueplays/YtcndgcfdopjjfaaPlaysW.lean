/-
  QueuePlays's walk: what a queue answers, and has, in whatever row, is what the document's queue says. Conditions: the steps lie where they are said to lie.
-/
import Derived.Test.YtcndgcfdopjjfaaPlaysP
namespace Go.Proofs.Ytcndgcfdopjjfaa
open Go.ChangeShapes Go.WideShapes Go.ChangeAt Go.RowKit

set_option maxHeartbeats 8000000 in
set_option maxRecDepth 100000 in
theorem plays_walk (rm : Int) (a : Option Addr) (len cap : Nat) (ss : List Stp) (w : World) (hs : StepsAt w a len cap ss) :
    Calls Try.prog 3 #[.int .i64 rm, .slice a len cap] w fun e w' => e = .returned (.bool true) ∧ Below w.heap.size w w' := by
  have l1 := hs.hle
  have c1 := hs.hcap
  obtain ⟨n, hn⟩ : ∃ n, min len 100 = n := ⟨_, rfl⟩
  have hea := early_any a len cap n l1 c1 hn
  have hn3 : n ≤ 100 := by omega
  have hn4 : n ≤ len := by omega
  have hnc : n ≤ cap := by omega
  unfold maxLen at c1
  clear hn
  go_enter Try.func3, Try.ntmps3
  go_wp2_with fail
  refine (lives_any _).mono ?_
  rintro e w1 ⟨rfl, hb1⟩
  have hnew := new_any rm w1
  have hrn := rnew_any rm
  have hR16 := roomN_le rm
  generalize roomN rm = R at hnew hrn hR16
  go_wp2_with fail
  refine hnew.mono ?_
  rintro e w2 ⟨rfl, hq2, hb2, hz2⟩
  go_wp2_with fail
  refine (hrn _).mono ?_
  rintro e w3 ⟨rfl, hb3⟩
  have hea4 := hea (w3.alloc (.cells #[.int .i64 R, .slice none 0 0, .slice none 0 0] 28))
  go_wp2_with fail
  refine (hea _).mono ?_
  rintro e w4 ⟨rfl, hw4⟩
  have HS : Hid (StepsAt w1 a len cap ss) := hs.below hb1
  have HB : Hid (Below w.heap.size w w1) := hb1
  have hps : PS w1 w4 (fun k => k < w1.heap.size ∨ k = w3.heap.size) (w1.heap.size + 1) w3.heap.size R [] [] (.slice none 0 0) (.slice none 0 0) := by
    subst hw4
    have hb4 : Below w3.heap.size w3 (w3.alloc (.cells #[.int .i64 R, .slice none 0 0, .slice none 0 0] 28)) := (Below.refl _ w3).alloc (Nat.le_refl _) _
    have hz3 := hb3.size
    refine ⟨((hq2.below hb3).below hb4).fewer (fun k hk => ?_), fun k hk => .inl hk, .inr rfl, by omega, heap_alloc_new _ _, QvAt.nil _, fun k e => by simp [Value.ownBlock] at e, ((keep_below hb2).trans (keep_below hb3)).trans (keep_below hb4)⟩
    rcases hk with hk | rfl
    · exact .inl (.inl hk)
    · exact .inr ⟨Nat.le_refl _, by simp⟩
  clear hea hea4 hs hb1 hb2 hb3 hz2 hq2 hw4 hnew hrn
  generalize w1.heap.size + 1 = g at *
  generalize w3.heap.size = b at *
  go_wp2
  go_loopw [7] (fun vi wr => ∃ (i : Nat) (L : List Wt) (A : Nat → Prop) (kv av : Value), vi = .int .i64 i ∧ i ≤ n ∧ Dst (fs L) ∧ PS w1 wr A g b R L L kv av) (fun vi _ => n - (intOf vi).toNat)
  case atStart => exact ⟨0, [], _, _, _, rfl, Nat.zero_le _, Dst.nil, hps⟩
  case round =>
    clear hps
    obtain ⟨i, L, A, kv, av, rfl, hi1, hD, hps⟩ := hrel
    by_cases hc : i < n
    · obtain ⟨bq, off, rfl, hlt, x0, x1, x2, x3⟩ := HS.out.rd i (by omega)
      generalize ss.getD i s0 = st at x0 x1 x2 x3
      have x0 := hps.keep.cell x0 hlt
      have x1 := hps.keep.cell x1 hlt
      have x2 := hps.keep.cell x2 hlt
      have x3 := hps.keep.cell x3 hlt
      have HPS : Hid (PS w1 wr A g b R L L kv av) := hps
      have HD : Hid (Dst (fs L)) := hD
      clear hps hD
      go_upto_region 10 with fail
      have hb6 : Below wr.heap.size wr (wr.alloc (.cells #[.int .i64 st.kd, .int .i64 st.id, .int .i64 st.now, .int .i64 st.wt] 32)) := (Below.refl _ wr).alloc (Nat.le_refl _) _
      have hq : PQ w1 (wr.alloc (.cells #[.int .i64 st.kd, .int .i64 st.id, .int .i64 st.now, .int .i64 st.wt] 32)) (fun k => A k ∨ (wr.heap.size ≤ k ∧ k < (wr.alloc (.cells #[.int .i64 st.kd, .int .i64 st.id, .int .i64 st.now, .int .i64 st.wt] 32)).heap.size)) g b wr.heap.size R L L kv av st := ⟨HPS.out.below hb6, .inr ⟨Nat.le_refl _, by simp⟩, heap_alloc_new _ _⟩
      generalize (fun k => A k ∨ (wr.heap.size ≤ k ∧ k < (wr.alloc (.cells #[.int .i64 st.kd, .int .i64 st.id, .int .i64 st.now, .int .i64 st.wt] 32)).heap.size)) = A6 at hq
      clear hb6 HPS x0 x1 x2 x3
      generalize wr.alloc (.cells #[.int .i64 st.kd, .int .i64 st.id, .int .i64 st.now, .int .i64 st.wt] 32) = w6 at *
      generalize wr.heap.size = z at *
      obtain ⟨y0, y1, y2, y3⟩ := hq.st.cells
      have HQ : Hid (PQ w1 w6 A6 g b z R L L kv av st) := hq
      clear hq
      go_upto_block 2 with (go_at_call 12; refine (kind_step _ _ _ _ _).mono ?_; rintro e w7 ⟨rfl, hb7⟩)
      have hq7 := HQ.out.same hb7
      clear HQ y0 y1 y2 y3 hb7
      go_cut [9, 10, 11, 12, 13, 14, 15, 16, 17, 18, 19, 20] from 46 to 124 (fun s9 _ _ _ _ _ _ _ _ _ _ _ wx => ∃ (L2 : List Wt) (A2 : Nat → Prop) (kv2 av2 : Value), s9 = .bool true ∧ Dst (fs L2) ∧ PQ w1 wx A2 g b z R L2 L2 kv2 av2 st)
      case first =>
        obtain ⟨y0, y1, y2, y3⟩ := hq7.st.cells
        obtain ⟨c0, c1', c2', _⟩ := blk3 hq7.ps.blk
        have hl7 := hq7.ps.lt
        have hle7 := hq7.ps.q.le
        have hmx7 := hq7.ps.q.max
        have HQ : Hid (PQ w1 w7 A6 g b z R L L kv av st) := hq7
        obtain ⟨⟨a1, s1, rfl, _⟩, ⟨a2, s2, rfl, _⟩⟩ := hq7.ps.rd
        clear hq7
        have hkk := kindI_of st.kd
        generalize kindI st.kd = kk at *
        rcases hkk with hkk | rfl | rfl | rfl
        · rcases hkk with rfl | rfl
          all_goals (
            have hrs := rpush_any w7 R _ _ L st.id st.now HQ.out.ps.rd (by omega)
            go_wp2_with fail
            refine hrs.mono ?_
            rintro e w8 ⟨kv1, av1, rfl, hv8, hfr8, hb8⟩
            have hq10 := HQ.out.next hb8 hv8 hfr8
            have hq9 := (HQ.out.same hb8).same ((Below.refl _ w8).alloc (Nat.le_refl _) (.cells #[.int .i64 R, kv1, av1] 28))
            obtain ⟨⟨a3, s3, rfl, _⟩, ⟨a4, s4, rfl, _⟩⟩ := hv8
            have z8 := heap_alloc_new w8 (.cells #[.int .i64 R, .slice a3 (pushL R st.id st.now L).length s3, .slice a4 (pushL R st.id st.now L).length s4] 28)
            have HQ10 : Hid _ := hq10
            clear hrs y1 y2 y3 c0 c1' c2' hb8 hfr8 hq10
            go_upto_region 14 with fail
            generalize w8.alloc (.cells #[.int .i64 R, .slice a3 (pushL R st.id st.now L).length s3, .slice a4 (pushL R st.id st.now L).length s4] 28) = w9 at *
            obtain ⟨z0, z1, z2, _⟩ := blk3 z8
            obtain ⟨d0, d1, d2, _⟩ := blk3 hq9.ps.blk
            have f0 := fz3 hq9.ps.blk 0
            have f1 := fz3 hq9.ps.blk 1
            have f2 := fz3 hq9.ps.blk 2
            clear hq9 z8
            go_upto_region 15 with fail
            generalize ((w9.setCell ⟨b, 0, none⟩ (.int .i64 R)).setCell ⟨b, 1, none⟩ (.slice a3 (pushL R st.id st.now L).length s3)).setCell ⟨b, 2, none⟩ (.slice a4 (pushL R st.id st.now L).length s4) = w10 at *
            obtain ⟨x0, x1, x2, x3⟩ := HQ10.out.st.cells
            have hsw := push_w w10 _ g R L st.id st.now HQ10.out.ps.q
            clear z0 z1 z2 d0 d1 d2 f0 f1 f2
            go_wp2_with fail
            refine hsw.mono ?_
            rintro e w11 ⟨rfl, hq11, hk11⟩
            have HQ11 : Hid _ := HQ10.out.step hq11 hk11
            clear hsw hq11 hk11 x0 x1 x2 x3
            go_wp2_with fail
            go_meet
            exact ⟨_, _, _, _, by simp, HD.out.pushed _ _ _, HQ11.out⟩)
        · have hrs := rpop_any w7 R _ _ L HQ.out.ps.rd (by omega)
          go_wp2_with fail
          refine hrs.mono ?_
          rintro e w8 ⟨kv1, av1, rfl, hv8, hfr8, hb8⟩
          have hq10 := HQ.out.next hb8 hv8 hfr8
          have hq9 := (HQ.out.same hb8).same ((Below.refl _ w8).alloc (Nat.le_refl _) (.cells #[.int .i64 R, kv1, av1] 28))
          obtain ⟨⟨a3, s3, rfl, _⟩, ⟨a4, s4, rfl, _⟩⟩ := hv8
          have z8 := heap_alloc_new w8 (.cells #[.int .i64 R, .slice a3 (without [(nthW L 0).1] L).length s3, .slice a4 (without [(nthW L 0).1] L).length s4] 28)
          have HQ10 : Hid _ := hq10
          clear hrs y1 y2 y3 c0 c1' c2' hb8 hfr8 hq10
          go_upto_region 18 with fail
          generalize w8.alloc (.cells #[.int .i64 R, .slice a3 (without [(nthW L 0).1] L).length s3, .slice a4 (without [(nthW L 0).1] L).length s4] 28) = w9 at *
          obtain ⟨z0, z1, z2, _⟩ := blk3 z8
          obtain ⟨d0, d1, d2, _⟩ := blk3 hq9.ps.blk
          have f0 := fz3 hq9.ps.blk 0
          have f1 := fz3 hq9.ps.blk 1
          have f2 := fz3 hq9.ps.blk 2
          clear hq9 z8
          go_upto_region 19 with fail
          generalize ((w9.setCell ⟨b, 0, none⟩ (.int .i64 R)).setCell ⟨b, 1, none⟩ (.slice a3 (without [(nthW L 0).1] L).length s3)).setCell ⟨b, 2, none⟩ (.slice a4 (without [(nthW L 0).1] L).length s4) = w10 at *
          obtain ⟨x0, x1, x2, x3⟩ := HQ10.out.st.cells
          have hsw := pop_w w10 _ g R L HQ10.out.ps.q
          clear z0 z1 z2 d0 d1 d2 f0 f1 f2
          go_wp2_with fail
          refine hsw.mono ?_
          rintro e w11 ⟨rfl, hq11, hk11⟩
          have HQ11 : Hid _ := HQ10.out.step hq11 hk11
          clear hsw hq11 hk11 x0 x1 x2 x3
          go_wp2_with fail
          go_meet
          exact ⟨_, _, _, _, by simp, HD.out.without _, HQ11.out⟩
        · have hrs := rremove_any w7 R _ _ L st.id HQ.out.ps.rd (by omega)
          go_wp2_with fail
          refine hrs.mono ?_
          rintro e w8 ⟨kv1, av1, rfl, hv8, hfr8', hb8⟩
          have hfr8 : From w7 w8 (.slice a1 L.length s1) (.slice a2 L.length s2) kv1 av1 := fun k e => .inr (hfr8' k e)
          have hq10 := HQ.out.next hb8 hv8 hfr8
          have hq9 := (HQ.out.same hb8).same ((Below.refl _ w8).alloc (Nat.le_refl _) (.cells #[.int .i64 R, kv1, av1] 28))
          obtain ⟨⟨a3, s3, rfl, _⟩, ⟨a4, s4, rfl, _⟩⟩ := hv8
          have z8 := heap_alloc_new w8 (.cells #[.int .i64 R, .slice a3 (without [st.id] L).length s3, .slice a4 (without [st.id] L).length s4] 28)
          have HQ10 : Hid _ := hq10
          clear hfr8' hrs y1 y2 y3 c0 c1' c2' hb8 hfr8 hq10
          go_upto_region 23 with fail
          generalize w8.alloc (.cells #[.int .i64 R, .slice a3 (without [st.id] L).length s3, .slice a4 (without [st.id] L).length s4] 28) = w9 at *
          obtain ⟨z0, z1, z2, _⟩ := blk3 z8
          obtain ⟨d0, d1, d2, _⟩ := blk3 hq9.ps.blk
          have f0 := fz3 hq9.ps.blk 0
          have f1 := fz3 hq9.ps.blk 1
          have f2 := fz3 hq9.ps.blk 2
          clear hq9 z8
          go_upto_region 24 with fail
          generalize ((w9.setCell ⟨b, 0, none⟩ (.int .i64 R)).setCell ⟨b, 1, none⟩ (.slice a3 (without [st.id] L).length s3)).setCell ⟨b, 2, none⟩ (.slice a4 (without [st.id] L).length s4) = w10 at *
          obtain ⟨x0, x1, x2, x3⟩ := HQ10.out.st.cells
          have hsw := remove_w w10 _ g R L st.id HQ10.out.ps.q
          clear z0 z1 z2 d0 d1 d2 f0 f1 f2
          go_wp2_with fail
          refine hsw.mono ?_
          rintro e w11 ⟨rfl, hq11, hk11⟩
          have HQ11 : Hid _ := HQ10.out.step hq11 hk11
          clear hsw hq11 hk11 x0 x1 x2 x3
          go_wp2_with fail
          go_meet
          exact ⟨_, _, _, _, congrArg Value.bool (beq_self_eq_true (decide (st.id ∈ fs L))), HD.out.without _, HQ11.out⟩
        · have hrs := rexpire_any w7 R _ _ L st.now st.wt HQ.out.ps.rd (by omega)
          have HK : Hid (without (lates st.now st.wt L) L = kept st.now st.wt L) := kept_eq HD.out st.now st.wt
          go_wp2_with fail
          refine hrs.mono ?_
          rintro e w8 ⟨kv1, av1, al, cl, rfl, hv8, hI8, hA8, hfr8', hb8⟩
          have hfr8 : From w7 w8 (.slice a1 L.length s1) (.slice a2 L.length s2) kv1 av1 := fun k e => .inr (hfr8' k e)
          have hq10 := HQ.out.next hb8 hv8 hfr8
          have hq9 := (HQ.out.same hb8).same ((Below.refl _ w8).alloc (Nat.le_refl _) (.cells #[.int .i64 R, kv1, av1] 28))
          obtain ⟨⟨a3, s3, rfl, _⟩, ⟨a4, s4, rfl, _⟩⟩ := hv8
          have z8 := heap_alloc_new w8 (.cells #[.int .i64 R, .slice a3 (kept st.now st.wt L).length s3, .slice a4 (kept st.now st.wt L).length s4] 28)
          have HA8 : Hid (∀ y, al = some y → w7.heap.size ≤ y.block ∧ y.block < w8.heap.size) := hA8
          have HI9 : Hid _ := hI8.below ((Below.refl _ w8).alloc (Nat.le_refl _) (.cells #[.int .i64 R, .slice a3 (kept st.now st.wt L).length s3, .slice a4 (kept st.now st.wt L).length s4] 28))
          have HQ10 : Hid _ := hq10
          clear hfr8' hI8 hA8 hrs y1 y2 y3 c0 c1' c2' hb8 hfr8 hq10
          go_upto_region 27 with fail
          generalize w8.alloc (.cells #[.int .i64 R, .slice a3 (kept st.now st.wt L).length s3, .slice a4 (kept st.now st.wt L).length s4] 28) = w9 at *
          obtain ⟨z0, z1, z2, _⟩ := blk3 z8
          obtain ⟨d0, d1, d2, _⟩ := blk3 hq9.ps.blk
          have f0 := fz3 hq9.ps.blk 0
          have f1 := fz3 hq9.ps.blk 1
          have f2 := fz3 hq9.ps.blk 2
          have HI10 : Hid _ := HI9.out.keep (res_put hq9.ps.blk (.int .i64 R) (.slice a3 (kept st.now st.wt L).length s3) (.slice a4 (kept st.now st.wt L).length s4)).2 (fun y hy => by have := HA8.out y hy; have := HQ.out.ps.lt; omega)
          clear hq9 z8
          go_upto_region 28 with fail
          generalize ((w9.setCell ⟨b, 0, none⟩ (.int .i64 R)).setCell ⟨b, 1, none⟩ (.slice a3 (kept st.now st.wt L).length s3)).setCell ⟨b, 2, none⟩ (.slice a4 (kept st.now st.wt L).length s4) = w10 at *
          obtain ⟨x0, x1, x2, x3⟩ := HQ10.out.st.cells
          have hsw := expire_w w10 _ g R L st.now st.wt HQ10.out.ps.q
          clear z0 z1 z2 d0 d1 d2 f0 f1 f2
          go_wp2_with fail
          refine hsw.mono ?_
          rintro e w11 ⟨a11, c11, rfl, hi11, hq11, hk11⟩
          rw [HK.out] at hq11
          have HQ11 : Hid _ := HQ10.out.step hq11 hk11
          have hsm := same_b _ _ _ _ _ _ w11 hi11 (HI10.out.keep hk11 (fun y hy => .inr (HA8.out y hy)))
          clear hsw hq11 hk11 x0 x1 x2 x3 hi11
          go_wp2_with fail
          refine hsm.mono ?_
          rintro e w12 ⟨rfl, hb12⟩
          have HQ12 : Hid _ := HQ11.out.same hb12
          clear hsm hb12
          go_wp2_with fail
          go_meet
          exact ⟨_, _, _, _, by simp, by rw [← HK.out]; exact HD.out.without _, HQ12.out⟩
      case rest =>
        clear hq7 HD
        obtain ⟨L2, A2, kv2, av2, rfl, hD2, hq⟩ := hcut
        obtain ⟨y0, y1, y2, y3⟩ := hq.st.cells
        obtain ⟨c0, c1', c2', _⟩ := blk3 hq.ps.blk
        have hle2 := hq.ps.q.le
        have hmx2 := hq.ps.q.max
        have hrp := rplace_any wc R _ _ L2 st.id hq.ps.rd (by omega)
        have HD2 : Hid (Dst (fs L2)) := hD2
        have HQ : Hid (PQ w1 wc A2 g b z R L2 L2 kv2 av2 st) := hq
        obtain ⟨⟨a2, s2, rfl, _⟩, ⟨a3, s3, rfl, _⟩⟩ := hq.ps.rd
        clear hq hD2
        go_wp2_with fail
        refine hrp.mono ?_
        rintro e w4 ⟨rfl, hb4⟩
        have hq4 := HQ.out.same hb4
        clear HQ hrp hb4 y0 y1 y2 y3 c0 c1' c2'
        obtain ⟨y0, y1, y2, y3⟩ := hq4.st.cells
        have hsi := since_w w4 _ g R L2 st.id hq4.ps.q
        have hpk := peek_w w4 _ g R L2 hq4.ps.q
        have HQ : Hid (PQ w1 w4 A2 g b z R L2 L2 (.slice a2 L2.length s2) (.slice a3 L2.length s3) st) := hq4
        clear hq4
        go_wp2_with fail
        refine hsi.mono ?_
        rintro e w5 ⟨rfl, hw5⟩
        obtain rfl : w4 = w5 := hw5.symm
        clear hsi hw5
        go_wp2_with fail
        refine hpk.mono ?_
        rintro e w5 ⟨rfl, hw5⟩
        obtain rfl : w4 = w5 := hw5.symm
        clear hpk hw5 y0 y1 y2 y3
        have hrd := HQ.out.ps.rd
        have n1 := hrd.ids.hle
        have n2 := hrd.ids.hcap
        have n3 := hrd.ats.hle
        have n4 := hrd.ats.hcap
        unfold maxLen at n2 n4
        clear hrd
        obtain ⟨N, hN⟩ : ∃ N, L2.length = N := ⟨_, rfl⟩
        have HN : Hid (L2.length = N) := hN
        have HL : Hid (LP w1 w4 A2 g b z R L2 (.slice a2 N s2) (.slice a3 N s3) st w4) := by
          rw [hN] at HQ
          exact ⟨HQ.out, Below.refl _ _⟩
        rw [hN] at hle2 n1 n3 ⊢
        clear HQ hN
        generalize hKK : plc st.id (fs L2) = KK
        generalize hYY : sinceI st.id L2 = YY
        generalize hBB : decide (st.id ∈ L2.map Prod.fst) = BB
        have HKK : Hid (plc st.id (fs L2) = KK ∧ sinceI st.id L2 = YY ∧ decide (st.id ∈ L2.map Prod.fst) = BB) := ⟨hKK, hYY, hBB⟩
        clear hKK hYY hBB
        go_upto_region 32 with fail
        go_cut [195] from 141 to 194 (fun s wx => s = .bool false ∧ LP w1 w4 A2 g b z R L2 (.slice a2 N s2) (.slice a3 N s3) st wx)
        case first =>
          have cl := fun (w' : World) (h : QAt w' A2 g R L2) => len_w w' _ g R L2 h
          have cr := fun (w' : World) (h : QAt w' A2 g R L2) => room_e w' _ g R L2 h
          have ci := fun (w' : World) (h : QAt w' A2 g R L2) => ids_w w' _ g R L2 h
          have cp := fun (w' : World) (h : QAt w' A2 g R L2) => place_w w' _ g R L2 st.id h
          simp only [HN.out] at cl cr ci
          obtain ⟨d, hd⟩ : ∃ d : Int, (R : Int) - (N : Int) = d := ⟨_, rfl⟩
          have hd0 : 0 ≤ d := by omega
          have hd1 : d ≤ 16 := by omega
          simp only [hd] at cr
          have hwd : IntKind.i64.wrap d = d := by
            simp [IntKind.wrap, IntKind.signed, IntKind.bits]
            omega
          by_cases hmem : st.id ∈ fs L2
          · have hF := (fidx_mem st.id (fs L2)).2 hmem
            rw [fs_length, HN.out] at hF
            have hpl2 : plc st.id (L2.map Prod.fst) = ((fidx st.id (fs L2) : Nat) : Int) := plc_mem hmem
            have q1 : KK = ((fidx st.id (fs L2) : Nat) : Int) := HKK.out.1.symm.trans (plc_mem hmem)
            have q2 : YY = (nthW L2 (fidx st.id (fs L2))).2 := HKK.out.2.1.symm.trans (if_pos hmem)
            have q3 : BB = true := HKK.out.2.2.symm.trans (decide_eq_true hmem)
            subst q1 q2 q3
            clear HKK
            simp only [hpl2] at cp
            obtain ⟨b5, o5, rfl, hlt5, k5⟩ := HL.out.q.ps.rd.ats.at_ (fidx st.id (fs L2)) hF
            rw [sn_getD] at k5
            have hS := HL.out.held5 k5 (Below.refl _ w4).drew
            have hge : (0 : Int) ≤ ((fidx st.id (fs L2) : Nat) : Int) := by omega
            have hge2 : decide (((fidx st.id (fs L2) : Nat) : Int) ≥ 0) = true := decide_eq_true hge
            generalize fidx st.id (fs L2) = F at *
            generalize (nthW L2 F).2 = y at *
            have HS5 : Hid (w4.drew.cell? ⟨b5, o5 + F, none⟩ = some (.int .i64 y) ∧ w4.drew.cell? ⟨b, 0, none⟩ = some (.int .i64 R) ∧ w4.drew.cell? ⟨b, 1, none⟩ = some (.slice a2 N s2) ∧ w4.drew.cell? ⟨b, 2, none⟩ = some (.slice (some ⟨b5, o5, none⟩) N s3) ∧ w4.drew.cell? ⟨z, 1, none⟩ = some (.int .i64 st.id) ∧ LP w1 w4 A2 g b z R L2 (.slice a2 N s2) (.slice (some ⟨b5, o5, none⟩) N s3) st w4.drew) := hS
            clear hS k5 hpl2 HL
            have hS := HS5.out
            go_region_held3 (fun w' => w'.cell? ⟨b5, o5 + F, none⟩ = some (.int .i64 y) ∧ w'.cell? ⟨b, 0, none⟩ = some (.int .i64 R) ∧ w'.cell? ⟨b, 1, none⟩ = some (.slice a2 N s2) ∧ w'.cell? ⟨b, 2, none⟩ = some (.slice (some ⟨b5, o5, none⟩) N s3) ∧ w'.cell? ⟨z, 1, none⟩ = some (.int .i64 st.id) ∧ LP w1 w4 A2 g b z R L2 (.slice a2 N s2) (.slice (some ⟨b5, o5, none⟩) N s3) st w')
              (first | assumption | exact (lp5_of (by assumption)).held5 (lp5_c (by assumption)) hbx | go_keep)
              (first
                | (go_at_call 25; refine (cl _ (LP.qat (lp5_of (by assumption)))).mono ?_; rintro e w' ⟨rfl, rfl⟩)
                | (go_at_call 26; refine (cr _ (LP.qat (lp5_of (by assumption)))).mono ?_; rintro e w' ⟨rfl, rfl⟩)
                | (go_at_call 27; refine (ci _ (LP.qat (lp5_of (by assumption)))).mono ?_; rintro e w6 ⟨rfl, hi6, hbx, -⟩)
                | (go_at_call 20; refine (same_b _ _ N _ _ _ _ hi6 (QvAt.ids (PS.rd (PQ.ps (LP.q (lp5_of (by assumption))))))).mono ?_; rintro e w' ⟨rfl, hbx⟩)
                | (go_at_call 28; refine (cp _ (LP.qat (lp5_of (by assumption)))).mono ?_; rintro e w' ⟨rfl, rfl⟩))
            all_goals (
              have LE := lp5_of (w' := w') (by assumption)
              have HBE : Hid (LP w1 w4 A2 g b z R L2 (.slice a2 N s2) (.slice (some ⟨b5, o5, none⟩) N s3) st w') := LE
              go_wp2_with fail
              go_meet
              exact ⟨rfl, HBE.out⟩)
          · have hpl2 : plc st.id (L2.map Prod.fst) = -1 := plc_not hmem
            have q1 : KK = -1 := HKK.out.1.symm.trans (plc_not hmem)
            have q2 : YY = 0 := HKK.out.2.1.symm.trans (if_neg hmem)
            have q3 : BB = false := HKK.out.2.2.symm.trans (decide_eq_false hmem)
            subst q1 q2 q3
            clear HKK
            simp only [hpl2] at cp
            have hS := HL.out.held (Below.refl _ w4).drew
            have HS5 : Hid (w4.drew.cell? ⟨b, 0, none⟩ = some (.int .i64 R) ∧ w4.drew.cell? ⟨b, 1, none⟩ = some (.slice a2 N s2) ∧ w4.drew.cell? ⟨b, 2, none⟩ = some (.slice a3 N s3) ∧ w4.drew.cell? ⟨z, 1, none⟩ = some (.int .i64 st.id) ∧ LP w1 w4 A2 g b z R L2 (.slice a2 N s2) (.slice a3 N s3) st w4.drew) := hS
            clear hS hpl2 HL
            refine wp_region_held_drew (S := fun w' => w'.cell? ⟨b, 0, none⟩ = some (.int .i64 R) ∧ w'.cell? ⟨b, 1, none⟩ = some (.slice a2 N s2) ∧ w'.cell? ⟨b, 2, none⟩ = some (.slice a3 N s3) ∧ w'.cell? ⟨z, 1, none⟩ = some (.int .i64 st.id) ∧ LP w1 w4 A2 g b z R L2 (.slice a2 N s2) (.slice a3 N s3) st w') (by kernel_rfl) ?_ (fun hHeld => ?_)
            · exact HS5.out
            refine wpAnyH_take (i := 0) (oi := { dst := some 141, op := Op.move (Operand.tmp 9), type := 4, pos := "law.go:63", after := #[], guard := none }) (v := ?_) rfl (by kernel_rfl) (by kernel_rfl) (by kernel_rfl) (fun _ _ _ h => h) (Or.inl ⟨by rfl, ?_⟩) (by assumption) ?_
            rotate_left
            · intro w hSw
              try dsimp only at hSw
              go_simp
              first | done | with_reducible rfl
            try simp only [Act.put, List.setIfInBounds_toArray, List.set_cons_zero, List.set_cons_succ]
            refine wpAnyH_take (i := 1) (oi := { dst := some 142, op := Op.unOp UnOp.not 4 (Operand.tmp 141), type := 4, pos := "law.go:63", after := #[{ on := 0, ground := Ground.data }], guard := none }) (v := ?_) rfl (by kernel_rfl) (by kernel_rfl) (by kernel_rfl) (fun _ _ _ h => h) (Or.inl ⟨by rfl, ?_⟩) (by assumption) ?_
            rotate_left
            · intro w hSw
              try dsimp only at hSw
              go_simp
              first | done | with_reducible rfl
            try simp only [Act.put, List.setIfInBounds_toArray, List.set_cons_zero, List.set_cons_succ]
            refine wpAnyH_take (i := 2) (oi := { dst := some 143, op := Op.move (Operand.tmp 142), type := 4, pos := "law.go:63", after := #[{ on := 1, ground := Ground.data }], guard := none }) (v := ?_) rfl (by kernel_rfl) (by kernel_rfl) (by kernel_rfl) (fun _ _ _ h => h) (Or.inl ⟨by rfl, ?_⟩) (by assumption) ?_
            rotate_left
            · intro w hSw
              try dsimp only at hSw
              go_simp
              first | done | with_reducible rfl
            try simp only [Act.put, List.setIfInBounds_toArray, List.set_cons_zero, List.set_cons_succ]
            refine wpAnyH_take (i := 3) (oi := { dst := some 144, op := Op.move (Operand.tmp 5), type := 24, pos := "law.go:63", after := #[{ on := 2, ground := Ground.guard }], guard := some (2, false) }) (v := ?_) rfl (by kernel_rfl) (by kernel_rfl) (by kernel_rfl) (fun _ _ _ h => h) (Or.inl ⟨by rfl, ?_⟩) (by assumption) ?_
            rotate_left
            · intro w hSw
              try dsimp only at hSw
              go_simp
              first | done | with_reducible rfl
            try simp only [Act.put, List.setIfInBounds_toArray, List.set_cons_zero, List.set_cons_succ]
            refine wpAnyH_take (i := 5) (oi := { dst := some 146, op := Op.fieldAddr 28 (Operand.tmp 6) 1, type := 0, pos := "law.go:63", after := #[{ on := 2, ground := Ground.guard }], guard := some (2, false) }) (v := ?_) rfl (by kernel_rfl) (by kernel_rfl) (by kernel_rfl) (fun _ _ _ h => h) (Or.inl ⟨by rfl, ?_⟩) (by assumption) ?_
            rotate_left
            · intro w hSw
              try dsimp only at hSw
              go_simp
              first | done | with_reducible rfl
            try simp only [Act.put, List.setIfInBounds_toArray, List.set_cons_zero, List.set_cons_succ]
            refine wpAnyH_take (i := 6) (oi := { dst := some 147, op := Op.load 26 (Operand.tmp 146), type := 26, pos := "law.go:63", after := #[{ on := 5, ground := Ground.data }, { on := 2, ground := Ground.guard }], guard := some (2, false) }) (v := ?_) rfl (by kernel_rfl) (by kernel_rfl) (by kernel_rfl) (fun _ _ _ h => h) (Or.inl ⟨by rfl, ?_⟩) (by assumption) ?_
            rotate_left
            · intro w hSw
              try dsimp only at hSw
              go_simp
              first | done | with_reducible rfl
            try simp only [Act.put, List.setIfInBounds_toArray, List.set_cons_zero, List.set_cons_succ]
            refine wpAnyH_take (i := 7) (oi := { dst := some 148, op := Op.call { callee := Callee.builtin Builtin.len, args := #[Operand.tmp 147], argTypes := #[26] }, type := 3, pos := "law.go:63", after := #[{ on := 6, ground := Ground.data }, { on := 2, ground := Ground.guard }], guard := some (2, false) }) (v := ?_) rfl (by kernel_rfl) (by kernel_rfl) (by kernel_rfl) (fun _ _ _ h => h) (Or.inl ⟨by rfl, ?_⟩) (by assumption) ?_
            rotate_left
            · intro w hSw
              try dsimp only at hSw
              go_simp
              first | done | with_reducible rfl
            try simp only [Act.put, List.setIfInBounds_toArray, List.set_cons_zero, List.set_cons_succ]
            refine wpAnyH_ready (rs := [4]) (by kernel_rfl) (by simp) ?_
            refine AllReadyH.cons (o := { dst := some 145, op := Op.call { callee := Callee.value (Operand.func 25), args := #[Operand.tmp 144], argTypes := #[24] }, type := 3, pos := "law.go:63", after := #[{ on := 3, ground := Ground.data }, { on := 2, ground := Ground.chain }, { on := 2, ground := Ground.guard }], guard := some (2, false) }) rfl (fun K hK => ?_) AllReadyH.nil
            go_simp
            (go_at_call 25; refine (cl _ (LP.qat (lp_of (by assumption)))).mono ?_; rintro e w' ⟨rfl, hw'⟩; subst w')
            try go_wp2_with fail
            refine hK.out _ _ ?_ (fun hHeld => ?_)
            · first | assumption | exact (lp_of (by assumption)).held hbx
            clear hK K
            try simp only [Act.put, List.setIfInBounds_toArray, List.set_cons_zero, List.set_cons_succ]
            refine wpAnyH_take (i := 8) (oi := { dst := some 149, op := Op.binOp BinOp.neq 3 (Operand.tmp 145) (Operand.tmp 148) 3, type := 4, pos := "law.go:63", after := #[{ on := 4, ground := Ground.data }, { on := 7, ground := Ground.data }, { on := 2, ground := Ground.guard }], guard := some (2, false) }) (v := ?_) rfl (by kernel_rfl) (by kernel_rfl) (by kernel_rfl) (fun _ _ _ h => h) (Or.inl ⟨by rfl, ?_⟩) (by assumption) ?_
            rotate_left
            · intro w hSw
              try dsimp only at hSw
              go_simp
              first | done | with_reducible rfl
            try simp only [Act.put, List.setIfInBounds_toArray, List.set_cons_zero, List.set_cons_succ]
            refine wpAnyH_take (i := 9) (oi := { dst := some 150, op := Op.pick (Operand.tmp 143) (Operand.const (Value.bool true)) (Operand.tmp 149), type := 4, pos := "law.go:63", after := #[{ on := 2, ground := Ground.data }, { on := 8, ground := Ground.data }], guard := none }) (v := ?_) rfl (by kernel_rfl) (by kernel_rfl) (by kernel_rfl) (fun _ _ _ h => h) (Or.inl ⟨by rfl, ?_⟩) (by assumption) ?_
            rotate_left
            · intro w hSw
              try dsimp only at hSw
              go_simp
              first | done | with_reducible rfl
            try simp only [Act.put, List.setIfInBounds_toArray, List.set_cons_zero, List.set_cons_succ]
            refine wpAnyH_take (i := 10) (oi := { dst := some 151, op := Op.move (Operand.tmp 150), type := 4, pos := "law.go:63", after := #[{ on := 9, ground := Ground.data }, { on := 4, ground := Ground.chain }], guard := none }) (v := ?_) rfl (by kernel_rfl) (by kernel_rfl) (by kernel_rfl) (fun _ _ _ h => h) (Or.inl ⟨by rfl, ?_⟩) (by assumption) ?_
            rotate_left
            · intro w hSw
              try dsimp only at hSw
              go_simp
              first | done | with_reducible rfl
            try simp only [Act.put, List.setIfInBounds_toArray, List.set_cons_zero, List.set_cons_succ]
            refine wpAnyH_take (i := 11) (oi := { dst := some 152, op := Op.move (Operand.tmp 5), type := 24, pos := "law.go:63", after := #[{ on := 10, ground := Ground.guard }], guard := some (10, false) }) (v := ?_) rfl (by kernel_rfl) (by kernel_rfl) (by kernel_rfl) (fun _ _ _ h => h) (Or.inl ⟨by rfl, ?_⟩) (by assumption) ?_
            rotate_left
            · intro w hSw
              try dsimp only at hSw
              go_simp
              first | done | with_reducible rfl
            try simp only [Act.put, List.setIfInBounds_toArray, List.set_cons_zero, List.set_cons_succ]
            refine wpAnyH_take (i := 13) (oi := { dst := some 154, op := Op.fieldAddr 28 (Operand.tmp 6) 0, type := 0, pos := "law.go:63", after := #[{ on := 10, ground := Ground.guard }], guard := some (10, false) }) (v := ?_) rfl (by kernel_rfl) (by kernel_rfl) (by kernel_rfl) (fun _ _ _ h => h) (Or.inl ⟨by rfl, ?_⟩) (by assumption) ?_
            rotate_left
            · intro w hSw
              try dsimp only at hSw
              go_simp
              first | done | with_reducible rfl
            try simp only [Act.put, List.setIfInBounds_toArray, List.set_cons_zero, List.set_cons_succ]
            refine wpAnyH_take (i := 14) (oi := { dst := some 155, op := Op.load 3 (Operand.tmp 154), type := 3, pos := "law.go:63", after := #[{ on := 13, ground := Ground.data }, { on := 10, ground := Ground.guard }], guard := some (10, false) }) (v := ?_) rfl (by kernel_rfl) (by kernel_rfl) (by kernel_rfl) (fun _ _ _ h => h) (Or.inl ⟨by rfl, ?_⟩) (by assumption) ?_
            rotate_left
            · intro w hSw
              try dsimp only at hSw
              go_simp
              first | done | with_reducible rfl
            try simp only [Act.put, List.setIfInBounds_toArray, List.set_cons_zero, List.set_cons_succ]
            refine wpAnyH_take (i := 15) (oi := { dst := some 156, op := Op.fieldAddr 28 (Operand.tmp 6) 1, type := 0, pos := "law.go:63", after := #[{ on := 10, ground := Ground.guard }], guard := some (10, false) }) (v := ?_) rfl (by kernel_rfl) (by kernel_rfl) (by kernel_rfl) (fun _ _ _ h => h) (Or.inl ⟨by rfl, ?_⟩) (by assumption) ?_
            rotate_left
            · intro w hSw
              try dsimp only at hSw
              go_simp
              first | done | with_reducible rfl
            try simp only [Act.put, List.setIfInBounds_toArray, List.set_cons_zero, List.set_cons_succ]
            refine wpAnyH_take (i := 16) (oi := { dst := some 157, op := Op.load 26 (Operand.tmp 156), type := 26, pos := "law.go:63", after := #[{ on := 15, ground := Ground.data }, { on := 10, ground := Ground.guard }], guard := some (10, false) }) (v := ?_) rfl (by kernel_rfl) (by kernel_rfl) (by kernel_rfl) (fun _ _ _ h => h) (Or.inl ⟨by rfl, ?_⟩) (by assumption) ?_
            rotate_left
            · intro w hSw
              try dsimp only at hSw
              go_simp
              first | done | with_reducible rfl
            try simp only [Act.put, List.setIfInBounds_toArray, List.set_cons_zero, List.set_cons_succ]
            refine wpAnyH_take (i := 17) (oi := { dst := some 158, op := Op.call { callee := Callee.builtin Builtin.len, args := #[Operand.tmp 157], argTypes := #[26] }, type := 3, pos := "law.go:63", after := #[{ on := 16, ground := Ground.data }, { on := 10, ground := Ground.guard }], guard := some (10, false) }) (v := ?_) rfl (by kernel_rfl) (by kernel_rfl) (by kernel_rfl) (fun _ _ _ h => h) (Or.inl ⟨by rfl, ?_⟩) (by assumption) ?_
            rotate_left
            · intro w hSw
              try dsimp only at hSw
              go_simp
              first | done | with_reducible rfl
            try simp only [Act.put, List.setIfInBounds_toArray, List.set_cons_zero, List.set_cons_succ]
            refine wpAnyH_take (i := 18) (oi := { dst := some 159, op := Op.binOp BinOp.sub 3 (Operand.tmp 155) (Operand.tmp 158) 3, type := 3, pos := "law.go:63", after := #[{ on := 14, ground := Ground.data }, { on := 17, ground := Ground.data }, { on := 10, ground := Ground.guard }], guard := some (10, false) }) (v := ?_) rfl (by kernel_rfl) (by kernel_rfl) (by kernel_rfl) (fun _ _ _ h => h) (Or.inl ⟨by rfl, ?_⟩) (by assumption) ?_
            rotate_left
            · intro w hSw
              try dsimp only at hSw
              go_simp
              first | done | with_reducible rfl
            try simp only [Act.put, List.setIfInBounds_toArray, List.set_cons_zero, List.set_cons_succ]
            refine wpAnyH_ready (rs := [12]) (by kernel_rfl) (by simp) ?_
            refine AllReadyH.cons (o := { dst := some 153, op := Op.call { callee := Callee.value (Operand.func 26), args := #[Operand.tmp 152], argTypes := #[24] }, type := 3, pos := "law.go:63", after := #[{ on := 11, ground := Ground.data }, { on := 10, ground := Ground.chain }, { on := 10, ground := Ground.guard }], guard := some (10, false) }) rfl (fun K hK => ?_) AllReadyH.nil
            go_simp
            (go_at_call 26; refine (cr _ (LP.qat (lp_of (by assumption)))).mono ?_; rintro e w' ⟨rfl, hw'⟩; subst w')
            try go_wp2_with fail
            refine hK.out _ _ ?_ (fun hHeld => ?_)
            · first | assumption | exact (lp_of (by assumption)).held hbx
            clear hK K
            try simp only [Act.put, List.setIfInBounds_toArray, List.set_cons_zero, List.set_cons_succ]
            refine wpAnyH_take (i := 19) (oi := { dst := some 160, op := Op.binOp BinOp.neq 3 (Operand.tmp 153) (Operand.tmp 159) 3, type := 4, pos := "law.go:63", after := #[{ on := 12, ground := Ground.data }, { on := 18, ground := Ground.data }, { on := 10, ground := Ground.guard }], guard := some (10, false) }) (v := ?_) rfl (by kernel_rfl) (by kernel_rfl) (by kernel_rfl) (fun _ _ _ h => h) (Or.inl ⟨by rfl, ?_⟩) (by assumption) ?_
            rotate_left
            · intro w hSw
              try dsimp only at hSw
              go_simp
              first | done | with_reducible rfl
            try simp only [Act.put, List.setIfInBounds_toArray, List.set_cons_zero, List.set_cons_succ]
            refine wpAnyH_take (i := 20) (oi := { dst := some 161, op := Op.pick (Operand.tmp 151) (Operand.const (Value.bool true)) (Operand.tmp 160), type := 4, pos := "law.go:63", after := #[{ on := 10, ground := Ground.data }, { on := 19, ground := Ground.data }], guard := none }) (v := ?_) rfl (by kernel_rfl) (by kernel_rfl) (by kernel_rfl) (fun _ _ _ h => h) (Or.inl ⟨by rfl, ?_⟩) (by assumption) ?_
            rotate_left
            · intro w hSw
              try dsimp only at hSw
              go_simp
              first | done | with_reducible rfl
            try simp only [Act.put, List.setIfInBounds_toArray, List.set_cons_zero, List.set_cons_succ]
            refine wpAnyH_take (i := 21) (oi := { dst := some 162, op := Op.move (Operand.tmp 161), type := 4, pos := "law.go:63", after := #[{ on := 20, ground := Ground.data }, { on := 12, ground := Ground.chain }], guard := none }) (v := ?_) rfl (by kernel_rfl) (by kernel_rfl) (by kernel_rfl) (fun _ _ _ h => h) (Or.inl ⟨by rfl, ?_⟩) (by assumption) ?_
            rotate_left
            · intro w hSw
              try dsimp only at hSw
              go_simp
              first | done | with_reducible rfl
            try simp only [Act.put, List.setIfInBounds_toArray, List.set_cons_zero, List.set_cons_succ]
            refine wpAnyH_take (i := 22) (oi := { dst := some 163, op := Op.move (Operand.tmp 5), type := 24, pos := "law.go:63", after := #[{ on := 21, ground := Ground.guard }], guard := some (21, false) }) (v := ?_) rfl (by kernel_rfl) (by kernel_rfl) (by kernel_rfl) (fun _ _ _ h => h) (Or.inl ⟨by rfl, ?_⟩) (by assumption) ?_
            rotate_left
            · intro w hSw
              try dsimp only at hSw
              go_simp
              first | done | with_reducible rfl
            try simp only [Act.put, List.setIfInBounds_toArray, List.set_cons_zero, List.set_cons_succ]
            refine wpAnyH_take (i := 24) (oi := { dst := some 165, op := Op.fieldAddr 28 (Operand.tmp 6) 1, type := 0, pos := "law.go:63", after := #[{ on := 21, ground := Ground.guard }], guard := some (21, false) }) (v := ?_) rfl (by kernel_rfl) (by kernel_rfl) (by kernel_rfl) (fun _ _ _ h => h) (Or.inl ⟨by rfl, ?_⟩) (by assumption) ?_
            rotate_left
            · intro w hSw
              try dsimp only at hSw
              go_simp
              first | done | with_reducible rfl
            try simp only [Act.put, List.setIfInBounds_toArray, List.set_cons_zero, List.set_cons_succ]
            refine wpAnyH_take (i := 25) (oi := { dst := some 166, op := Op.load 26 (Operand.tmp 165), type := 26, pos := "law.go:63", after := #[{ on := 24, ground := Ground.data }, { on := 21, ground := Ground.guard }], guard := some (21, false) }) (v := ?_) rfl (by kernel_rfl) (by kernel_rfl) (by kernel_rfl) (fun _ _ _ h => h) (Or.inl ⟨by rfl, ?_⟩) (by assumption) ?_
            rotate_left
            · intro w hSw
              try dsimp only at hSw
              go_simp
              first | done | with_reducible rfl
            try simp only [Act.put, List.setIfInBounds_toArray, List.set_cons_zero, List.set_cons_succ]
            refine wpAnyH_ready (rs := [23]) (by kernel_rfl) (by simp) ?_
            refine AllReadyH.cons (o := { dst := some 164, op := Op.call { callee := Callee.value (Operand.func 27), args := #[Operand.tmp 163], argTypes := #[24] }, type := 26, pos := "law.go:63", after := #[{ on := 22, ground := Ground.data }, { on := 21, ground := Ground.chain }, { on := 21, ground := Ground.guard }], guard := some (21, false) }) rfl (fun K hK => ?_) AllReadyH.nil
            go_simp
            (go_at_call 27; refine (ci _ (LP.qat (lp_of (by assumption)))).mono ?_; rintro e w6 ⟨rfl, hi6, hbx, -⟩)
            try go_wp2_with fail
            refine hK.out _ _ ?_ (fun hHeld => ?_)
            · first | assumption | exact (lp_of (by assumption)).held hbx
            clear hK K
            try simp only [Act.put, List.setIfInBounds_toArray, List.set_cons_zero, List.set_cons_succ]
            refine wpAnyH_ready (rs := [26]) (by kernel_rfl) (by simp) ?_
            refine AllReadyH.cons (o := { dst := some 167, op := Op.call { callee := Callee.value (Operand.func 20), args := #[Operand.tmp 164, Operand.tmp 166], argTypes := #[26, 26] }, type := 4, pos := "law.go:63", after := #[{ on := 23, ground := Ground.data }, { on := 25, ground := Ground.data }, { on := 23, ground := Ground.chain }, { on := 21, ground := Ground.guard }], guard := some (21, false) }) rfl (fun K hK => ?_) AllReadyH.nil
            go_simp
            (go_at_call 20; refine (same_b _ _ N _ _ _ _ hi6 (QvAt.ids (PS.rd (PQ.ps (LP.q (lp_of (by assumption))))))).mono ?_; rintro e w7 ⟨rfl, hbx⟩)
            try go_wp2_with fail
            refine hK.out _ _ ?_ (fun hHeld => ?_)
            · first | assumption | exact (lp_of (by assumption)).held hbx
            clear hK K
            try simp only [Act.put, List.setIfInBounds_toArray, List.set_cons_zero, List.set_cons_succ]
            refine wpAnyH_take (i := 27) (oi := { dst := some 168, op := Op.unOp UnOp.not 4 (Operand.tmp 167), type := 4, pos := "law.go:63", after := #[{ on := 26, ground := Ground.data }, { on := 21, ground := Ground.guard }], guard := some (21, false) }) (v := ?_) rfl (by kernel_rfl) (by kernel_rfl) (by kernel_rfl) (fun _ _ _ h => h) (Or.inl ⟨by rfl, ?_⟩) (by assumption) ?_
            rotate_left
            · intro w hSw
              try dsimp only at hSw
              go_simp
              first | done | with_reducible rfl
            try simp only [Act.put, List.setIfInBounds_toArray, List.set_cons_zero, List.set_cons_succ]
            refine wpAnyH_take (i := 28) (oi := { dst := some 169, op := Op.pick (Operand.tmp 162) (Operand.const (Value.bool true)) (Operand.tmp 168), type := 4, pos := "law.go:63", after := #[{ on := 21, ground := Ground.data }, { on := 27, ground := Ground.data }], guard := none }) (v := ?_) rfl (by kernel_rfl) (by kernel_rfl) (by kernel_rfl) (fun _ _ _ h => h) (Or.inl ⟨by rfl, ?_⟩) (by assumption) ?_
            rotate_left
            · intro w hSw
              try dsimp only at hSw
              go_simp
              first | done | with_reducible rfl
            try simp only [Act.put, List.setIfInBounds_toArray, List.set_cons_zero, List.set_cons_succ]
            refine wpAnyH_take (i := 29) (oi := { dst := some 170, op := Op.move (Operand.tmp 169), type := 4, pos := "law.go:63", after := #[{ on := 28, ground := Ground.data }, { on := 26, ground := Ground.chain }], guard := none }) (v := ?_) rfl (by kernel_rfl) (by kernel_rfl) (by kernel_rfl) (fun _ _ _ h => h) (Or.inl ⟨by rfl, ?_⟩) (by assumption) ?_
            rotate_left
            · intro w hSw
              try dsimp only at hSw
              go_simp
              first | done | with_reducible rfl
            try simp only [Act.put, List.setIfInBounds_toArray, List.set_cons_zero, List.set_cons_succ]
            refine wpAnyH_take (i := 30) (oi := { dst := some 171, op := Op.move (Operand.tmp 5), type := 24, pos := "law.go:63", after := #[{ on := 29, ground := Ground.guard }], guard := some (29, false) }) (v := ?_) rfl (by kernel_rfl) (by kernel_rfl) (by kernel_rfl) (fun _ _ _ h => h) (Or.inl ⟨by rfl, ?_⟩) (by assumption) ?_
            rotate_left
            · intro w hSw
              try dsimp only at hSw
              go_simp
              first | done | with_reducible rfl
            try simp only [Act.put, List.setIfInBounds_toArray, List.set_cons_zero, List.set_cons_succ]
            refine wpAnyH_take (i := 31) (oi := { dst := some 172, op := Op.fieldAddr 32 (Operand.tmp 8) 1, type := 0, pos := "law.go:63", after := #[{ on := 29, ground := Ground.guard }], guard := some (29, false) }) (v := ?_) rfl (by kernel_rfl) (by kernel_rfl) (by kernel_rfl) (fun _ _ _ h => h) (Or.inl ⟨by rfl, ?_⟩) (by assumption) ?_
            rotate_left
            · intro w hSw
              try dsimp only at hSw
              go_simp
              first | done | with_reducible rfl
            try simp only [Act.put, List.setIfInBounds_toArray, List.set_cons_zero, List.set_cons_succ]
            refine wpAnyH_take (i := 32) (oi := { dst := some 173, op := Op.load 3 (Operand.tmp 172), type := 3, pos := "law.go:63", after := #[{ on := 31, ground := Ground.data }, { on := 29, ground := Ground.guard }], guard := some (29, false) }) (v := ?_) rfl (by kernel_rfl) (by kernel_rfl) (by kernel_rfl) (fun _ _ _ h => h) (Or.inl ⟨by rfl, ?_⟩) (by assumption) ?_
            rotate_left
            · intro w hSw
              try dsimp only at hSw
              go_simp
              first | done | with_reducible rfl
            try simp only [Act.put, List.setIfInBounds_toArray, List.set_cons_zero, List.set_cons_succ]
            refine wpAnyH_take (i := 34) (oi := { dst := some 175, op := Op.move (Operand.tmp 21), type := 3, pos := "law.go:63", after := #[{ on := 29, ground := Ground.guard }], guard := some (29, false) }) (v := ?_) rfl (by kernel_rfl) (by kernel_rfl) (by kernel_rfl) (fun _ _ _ h => h) (Or.inl ⟨by rfl, ?_⟩) (by assumption) ?_
            rotate_left
            · intro w hSw
              try dsimp only at hSw
              go_simp
              first | done | with_reducible rfl
            try simp only [Act.put, List.setIfInBounds_toArray, List.set_cons_zero, List.set_cons_succ]
            refine wpAnyH_ready (rs := [33]) (by kernel_rfl) (by simp) ?_
            refine AllReadyH.cons (o := { dst := some 174, op := Op.call { callee := Callee.value (Operand.func 28), args := #[Operand.tmp 171, Operand.tmp 173], argTypes := #[24, 3] }, type := 3, pos := "law.go:63", after := #[{ on := 30, ground := Ground.data }, { on := 32, ground := Ground.data }, { on := 29, ground := Ground.chain }, { on := 29, ground := Ground.guard }], guard := some (29, false) }) rfl (fun K hK => ?_) AllReadyH.nil
            go_simp
            (go_at_call 28; refine (cp _ (LP.qat (lp_of (by assumption)))).mono ?_; rintro e w' ⟨rfl, hw'⟩; subst w')
            try go_wp2_with fail
            refine hK.out _ _ ?_ (fun hHeld => ?_)
            · first | assumption | exact (lp_of (by assumption)).held hbx
            clear hK K
            try simp only [Act.put, List.setIfInBounds_toArray, List.set_cons_zero, List.set_cons_succ]
            refine wpAnyH_take (i := 35) (oi := { dst := some 176, op := Op.binOp BinOp.neq 3 (Operand.tmp 174) (Operand.tmp 175) 3, type := 4, pos := "law.go:63", after := #[{ on := 33, ground := Ground.data }, { on := 34, ground := Ground.data }, { on := 29, ground := Ground.guard }], guard := some (29, false) }) (v := ?_) rfl (by kernel_rfl) (by kernel_rfl) (by kernel_rfl) (fun _ _ _ h => h) (Or.inl ⟨by rfl, ?_⟩) (by assumption) ?_
            rotate_left
            · intro w hSw
              try dsimp only at hSw
              go_simp
              first | done | with_reducible rfl
            try simp only [Act.put, List.setIfInBounds_toArray, List.set_cons_zero, List.set_cons_succ]
            refine wpAnyH_take (i := 36) (oi := { dst := some 177, op := Op.pick (Operand.tmp 170) (Operand.const (Value.bool true)) (Operand.tmp 176), type := 4, pos := "law.go:63", after := #[{ on := 29, ground := Ground.data }, { on := 35, ground := Ground.data }], guard := none }) (v := ?_) rfl (by kernel_rfl) (by kernel_rfl) (by kernel_rfl) (fun _ _ _ h => h) (Or.inl ⟨by rfl, ?_⟩) (by assumption) ?_
            rotate_left
            · intro w hSw
              try dsimp only at hSw
              go_simp
              first | done | with_reducible rfl
            try simp only [Act.put, List.setIfInBounds_toArray, List.set_cons_zero, List.set_cons_succ]
            refine wpAnyH_take (i := 37) (oi := { dst := some 178, op := Op.move (Operand.tmp 177), type := 4, pos := "law.go:63", after := #[{ on := 36, ground := Ground.data }, { on := 33, ground := Ground.chain }], guard := none }) (v := ?_) rfl (by kernel_rfl) (by kernel_rfl) (by kernel_rfl) (fun _ _ _ h => h) (Or.inl ⟨by rfl, ?_⟩) (by assumption) ?_
            rotate_left
            · intro w hSw
              try dsimp only at hSw
              go_simp
              first | done | with_reducible rfl
            try simp only [Act.put, List.setIfInBounds_toArray, List.set_cons_zero, List.set_cons_succ]
            refine wpAnyH_take (i := 38) (oi := { dst := some 179, op := Op.move (Operand.tmp 23), type := 4, pos := "law.go:63", after := #[{ on := 37, ground := Ground.guard }], guard := some (37, false) }) (v := ?_) rfl (by kernel_rfl) (by kernel_rfl) (by kernel_rfl) (fun _ _ _ h => h) (Or.inl ⟨by rfl, ?_⟩) (by assumption) ?_
            rotate_left
            · intro w hSw
              try dsimp only at hSw
              go_simp
              first | done | with_reducible rfl
            try simp only [Act.put, List.setIfInBounds_toArray, List.set_cons_zero, List.set_cons_succ]
            refine wpAnyH_take (i := 39) (oi := { dst := some 180, op := Op.move (Operand.tmp 21), type := 3, pos := "law.go:63", after := #[{ on := 37, ground := Ground.guard }], guard := some (37, false) }) (v := ?_) rfl (by kernel_rfl) (by kernel_rfl) (by kernel_rfl) (fun _ _ _ h => h) (Or.inl ⟨by rfl, ?_⟩) (by assumption) ?_
            rotate_left
            · intro w hSw
              try dsimp only at hSw
              go_simp
              first | done | with_reducible rfl
            try simp only [Act.put, List.setIfInBounds_toArray, List.set_cons_zero, List.set_cons_succ]
            refine wpAnyH_take (i := 40) (oi := { dst := some 181, op := Op.binOp BinOp.geq 3 (Operand.tmp 180) (Operand.const (Value.int IntKind.i64 0)) 3, type := 4, pos := "law.go:63", after := #[{ on := 39, ground := Ground.data }, { on := 37, ground := Ground.guard }], guard := some (37, false) }) (v := ?_) rfl (by kernel_rfl) (by kernel_rfl) (by kernel_rfl) (fun _ _ _ h => h) (Or.inl ⟨by rfl, ?_⟩) (by assumption) ?_
            rotate_left
            · intro w hSw
              try dsimp only at hSw
              go_simp
              first | done | with_reducible rfl
            try simp only [Act.put, List.setIfInBounds_toArray, List.set_cons_zero, List.set_cons_succ]
            refine wpAnyH_take (i := 41) (oi := { dst := some 182, op := Op.binOp BinOp.neq 4 (Operand.tmp 179) (Operand.tmp 181) 4, type := 4, pos := "law.go:63", after := #[{ on := 38, ground := Ground.data }, { on := 40, ground := Ground.data }, { on := 37, ground := Ground.guard }], guard := some (37, false) }) (v := ?_) rfl (by kernel_rfl) (by kernel_rfl) (by kernel_rfl) (fun _ _ _ h => h) (Or.inl ⟨by rfl, ?_⟩) (by assumption) ?_
            rotate_left
            · intro w hSw
              try dsimp only at hSw
              go_simp
              first | done | with_reducible rfl
            try simp only [Act.put, List.setIfInBounds_toArray, List.set_cons_zero, List.set_cons_succ]
            refine wpAnyH_take (i := 42) (oi := { dst := some 183, op := Op.pick (Operand.tmp 178) (Operand.const (Value.bool true)) (Operand.tmp 182), type := 4, pos := "law.go:63", after := #[{ on := 37, ground := Ground.data }, { on := 41, ground := Ground.data }], guard := none }) (v := ?_) rfl (by kernel_rfl) (by kernel_rfl) (by kernel_rfl) (fun _ _ _ h => h) (Or.inl ⟨by rfl, ?_⟩) (by assumption) ?_
            rotate_left
            · intro w hSw
              try dsimp only at hSw
              go_simp
              first | done | with_reducible rfl
            try simp only [Act.put, List.setIfInBounds_toArray, List.set_cons_zero, List.set_cons_succ]
            refine wpAnyH_take (i := 43) (oi := { dst := some 184, op := Op.move (Operand.tmp 183), type := 4, pos := "law.go:63", after := #[{ on := 42, ground := Ground.data }, { on := 37, ground := Ground.chain }], guard := none }) (v := ?_) rfl (by kernel_rfl) (by kernel_rfl) (by kernel_rfl) (fun _ _ _ h => h) (Or.inl ⟨by rfl, ?_⟩) (by assumption) ?_
            rotate_left
            · intro w hSw
              try dsimp only at hSw
              go_simp
              first | done | with_reducible rfl
            try simp only [Act.put, List.setIfInBounds_toArray, List.set_cons_zero, List.set_cons_succ]
            refine wpAnyH_take (i := 44) (oi := { dst := some 185, op := Op.move (Operand.tmp 23), type := 4, pos := "law.go:63", after := #[{ on := 43, ground := Ground.guard }], guard := some (43, false) }) (v := ?_) rfl (by kernel_rfl) (by kernel_rfl) (by kernel_rfl) (fun _ _ _ h => h) (Or.inl ⟨by rfl, ?_⟩) (by assumption) ?_
            rotate_left
            · intro w hSw
              try dsimp only at hSw
              go_simp
              first | done | with_reducible rfl
            try simp only [Act.put, List.setIfInBounds_toArray, List.set_cons_zero, List.set_cons_succ]
            refine wpAnyH_take (i := 45) (oi := { dst := some 186, op := Op.move (Operand.tmp 185), type := 4, pos := "law.go:63", after := #[{ on := 44, ground := Ground.data }, { on := 43, ground := Ground.chain }, { on := 43, ground := Ground.guard }], guard := some (43, false) }) (v := ?_) rfl (by kernel_rfl) (by kernel_rfl) (by kernel_rfl) (fun _ _ _ h => h) (Or.inl ⟨by rfl, ?_⟩) (by assumption) ?_
            rotate_left
            · intro w hSw
              try dsimp only at hSw
              go_simp
              first | done | with_reducible rfl
            try simp only [Act.put, List.setIfInBounds_toArray, List.set_cons_zero, List.set_cons_succ]
            refine wpAnyH_take (i := 46) (oi := { dst := some 187, op := Op.move (Operand.tmp 22), type := 3, pos := "law.go:63", after := #[{ on := 45, ground := Ground.guard }], guard := some (45, true) }) (v := undef) rfl (by kernel_rfl) (by kernel_rfl) (by kernel_rfl) (fun _ _ _ h => h) (Or.inr ⟨by rfl, rfl⟩) (by assumption) ?_
            try simp only [Act.put, List.setIfInBounds_toArray, List.set_cons_zero, List.set_cons_succ]
            refine wpAnyH_take (i := 47) (oi := { dst := some 188, op := Op.fieldAddr 28 (Operand.tmp 6) 2, type := 0, pos := "law.go:63", after := #[{ on := 45, ground := Ground.guard }], guard := some (45, true) }) (v := undef) rfl (by kernel_rfl) (by kernel_rfl) (by kernel_rfl) (fun _ _ _ h => h) (Or.inr ⟨by rfl, rfl⟩) (by assumption) ?_
            try simp only [Act.put, List.setIfInBounds_toArray, List.set_cons_zero, List.set_cons_succ]
            refine wpAnyH_take (i := 48) (oi := { dst := some 189, op := Op.load 26 (Operand.tmp 188), type := 26, pos := "law.go:63", after := #[{ on := 47, ground := Ground.data }, { on := 45, ground := Ground.guard }], guard := some (45, true) }) (v := undef) rfl (by kernel_rfl) (by kernel_rfl) (by kernel_rfl) (fun _ _ _ h => h) (Or.inr ⟨by rfl, rfl⟩) (by assumption) ?_
            try simp only [Act.put, List.setIfInBounds_toArray, List.set_cons_zero, List.set_cons_succ]
            refine wpAnyH_take (i := 49) (oi := { dst := some 190, op := Op.move (Operand.tmp 21), type := 3, pos := "law.go:63", after := #[{ on := 45, ground := Ground.guard }], guard := some (45, true) }) (v := undef) rfl (by kernel_rfl) (by kernel_rfl) (by kernel_rfl) (fun _ _ _ h => h) (Or.inr ⟨by rfl, rfl⟩) (by assumption) ?_
            try simp only [Act.put, List.setIfInBounds_toArray, List.set_cons_zero, List.set_cons_succ]
            refine wpAnyH_take (i := 50) (oi := { dst := some 191, op := Op.indexAddr 26 (Operand.tmp 189) (Operand.tmp 190), type := 0, pos := "law.go:63", after := #[{ on := 48, ground := Ground.data }, { on := 49, ground := Ground.data }, { on := 45, ground := Ground.guard }], guard := some (45, true) }) (v := undef) rfl (by kernel_rfl) (by kernel_rfl) (by kernel_rfl) (fun _ _ _ h => h) (Or.inr ⟨by rfl, rfl⟩) (by assumption) ?_
            try simp only [Act.put, List.setIfInBounds_toArray, List.set_cons_zero, List.set_cons_succ]
            refine wpAnyH_take (i := 51) (oi := { dst := some 192, op := Op.load 3 (Operand.tmp 191), type := 3, pos := "law.go:63", after := #[{ on := 50, ground := Ground.data }, { on := 45, ground := Ground.guard }], guard := some (45, true) }) (v := undef) rfl (by kernel_rfl) (by kernel_rfl) (by kernel_rfl) (fun _ _ _ h => h) (Or.inr ⟨by rfl, rfl⟩) (by assumption) ?_
            try simp only [Act.put, List.setIfInBounds_toArray, List.set_cons_zero, List.set_cons_succ]
            refine wpAnyH_take (i := 52) (oi := { dst := some 193, op := Op.binOp BinOp.neq 3 (Operand.tmp 187) (Operand.tmp 192) 3, type := 4, pos := "law.go:63", after := #[{ on := 46, ground := Ground.data }, { on := 51, ground := Ground.data }, { on := 45, ground := Ground.guard }], guard := some (45, true) }) (v := undef) rfl (by kernel_rfl) (by kernel_rfl) (by kernel_rfl) (fun _ _ _ h => h) (Or.inr ⟨by rfl, rfl⟩) (by assumption) ?_
            try simp only [Act.put, List.setIfInBounds_toArray, List.set_cons_zero, List.set_cons_succ]
            refine wpAnyH_take (i := 53) (oi := { dst := some 194, op := Op.pick (Operand.tmp 186) (Operand.tmp 193) (Operand.const (Value.bool false)), type := 4, pos := "law.go:63", after := #[{ on := 45, ground := Ground.data }, { on := 52, ground := Ground.data }, { on := 43, ground := Ground.guard }], guard := some (43, false) }) (v := ?_) rfl (by kernel_rfl) (by kernel_rfl) (by kernel_rfl) (fun _ _ _ h => h) (Or.inl ⟨by rfl, ?_⟩) (by assumption) ?_
            rotate_left
            · intro w hSw
              try dsimp only at hSw
              go_simp
              first | done | with_reducible rfl
            try simp only [Act.put, List.setIfInBounds_toArray, List.set_cons_zero, List.set_cons_succ]
            refine wpAnyH_take (i := 54) (oi := { dst := some 195, op := Op.pick (Operand.tmp 184) (Operand.const (Value.bool true)) (Operand.tmp 194), type := 4, pos := "law.go:63", after := #[{ on := 43, ground := Ground.data }, { on := 53, ground := Ground.data }], guard := none }) (v := ?_) rfl (by kernel_rfl) (by kernel_rfl) (by kernel_rfl) (fun _ _ _ h => h) (Or.inl ⟨by rfl, ?_⟩) (by assumption) ?_
            rotate_left
            · intro w hSw
              try dsimp only at hSw
              go_simp
              first | done | with_reducible rfl
            try simp only [Act.put, List.setIfInBounds_toArray, List.set_cons_zero, List.set_cons_succ]
            refine wpAnyH_done (by kernel_rfl) ?_ _
            all_goals (
              have LE := lp_of (w' := w7) (by assumption)
              have HBE : Hid (LP w1 w4 A2 g b z R L2 (.slice a2 N s2) (.slice a3 N s3) st w7) := LE
              go_wp2_with fail
              go_meet
              exact ⟨rfl, HBE.out⟩)
        case rest =>
          obtain ⟨rfl, hlp⟩ := hcut
          have hle := hlp.q.ps
          have HE : Hid (PS w1 wc A2 g b R L2 L2 (.slice a2 N s2) (.slice a3 N s3)) := hle
          obtain ⟨c0, c1', c2', _⟩ := blk3 hle.blk
          by_cases h0 : 0 < N
          · obtain ⟨b5, o5, rfl, hlt5, k5⟩ := hle.rd.ids.at_ 0 h0
            rw [fs_getD, Nat.add_zero] at k5
            have hd0 : decide (0 < N) = true := decide_eq_true h0
            have hd1 : ((N : Int) > 0) := by omega
            rw [hd0]
            generalize (nthW L2 0).1 = x0 at *
            clear hlp hle HL hd0
            go_wp2
            exact ⟨⟨i + 1, L2, A2, _, _, by simp, by omega, HD2.out, HE.out⟩, by simp [intOf]; omega⟩
          · have hN0 : N = 0 := by omega
            subst hN0
            clear hlp hle HL
            go_wp2
            exact ⟨⟨i + 1, L2, A2, _, _, by simp, by omega, HD2.out, HE.out⟩, by simp [intOf]; omega⟩
    · obtain rfl : n = i := by omega
      have HEND : Hid (Below w.heap.size w wr) := HB.out.trans (hps.keep.below HB.out.size (fun k hk => Nat.lt_of_lt_of_le hk HB.out.size))
      clear hps hc
      go_wp2
      go_ret
      exact ⟨rfl, HEND.out⟩

end Go.Proofs.Ytcndgcfdopjjfaa
