/-
  FrontPlays's walk: what a client's front answers, and has, in whatever row, is what the document's has. Conditions: the steps lie where they are said to lie; the tables read as they are laid.
-/
import Derived.Test.YtegjaoaoiojhfaaDoorPlaysP
import Derived.Deep.RegionHeld3
namespace Go.Proofs.YtegjaoaoiojhfaaDoor
open Go.ChangeShapes Go.WideShapes Go.ChangeAt Go.RowKit

set_option maxHeartbeats 8000000 in
set_option maxRecDepth 100000 in
theorem plays_walk (a : Option Addr) (len cap : Nat) (ss : List Stp) (w : World) (hs : StepsAt w a len cap ss) (hn : Tabs w) :
    Calls Tryd.prog 3 #[.slice a len cap] w fun e w' => e = .returned (.bool true) ∧ Below w.heap.size w w' := by
  obtain ⟨n, hmin⟩ : ∃ n, min len 100 = n := ⟨_, rfl⟩
  have HS := Hid.mk' hs
  have HT := Hid.mk' hn
  have hlv := lives_any w hn
  have hlen := hs.hlen
  have HM : Hid ((trs (ss.take n)).length = n) := by
    show _ = _
    rw [trs_length, List.length_take]
    omega
  clear hs hn hlen
  go_enter Tryd.func3, Tryd.ntmps3
  go_wp2_with fail
  refine hlv.mono ?_
  rintro e w1 ⟨rfl, hb1⟩
  have HB1 := Hid.mk' hb1
  have hnew := new_any w1 (HT.out.below hb1)
  have HPOS : Hid (2 < w1.heap.size) := (HT.out.below hb1).pos
  clear hb1 hlv HT
  go_wp2_with fail
  refine hnew.mono ?_
  rintro e w1b ⟨rfl, hf2, hb2, hsz⟩
  have HSZ := Hid.mk' hsz
  clear hsz
  go_upto_region 5 with fail
  have hb2b : Below w1b.heap.size w1b (w1b.alloc (.cells #[.int .i64 0, .slice none 0 0] 28)) := (Below.refl _ w1b).alloc (Nat.le_refl _) _
  have HRB := Hid.mk' (heap_alloc_new w1b (.cells #[.int .i64 0, .slice none 0 0] 28))
  have HB2 : Hid (Below w.heap.size w (w1b.alloc (.cells #[.int .i64 0, .slice none 0 0] 28))) := HB1.out.trans ((hb2.trans (hb2b.mono hb2.size)).mono HB1.out.size)
  have HF2 := Hid.mk' (hf2.belowN hb2b)
  have hea := early_own a len cap n ss (w1b.alloc (.cells #[.int .i64 0, .slice none 0 0] 28)) (((HS.out.below HB1.out).below hb2).below hb2b) hmin
  have HG0 : Hid (w.heap.size ≤ w1.heap.size ∧ w1.heap.size < w1b.heap.size ∧ w1b.heap.size < (w1b.alloc (.cells #[.int .i64 0, .slice none 0 0] 28)).heap.size) := ⟨HB1.out.size, by have := HSZ.out; omega, by simp⟩
  clear hf2 hb2 hb2b hnew HSZ HS HB1
  generalize w1b.alloc (.cells #[.int .i64 0, .slice none 0 0] 28) = w2 at *
  generalize w1b.heap.size = rb at *
  generalize w1.heap.size = g at *
  go_wp2_with fail
  refine hea.mono ?_
  rintro e w3 ⟨v, rfl, ho3, hb3⟩
  have hf3 := HF2.out.belowN hb3
  obtain ⟨av, cv, rfl, hnc, hcm, hrd⟩ := own_steps ho3 HM.out
  unfold maxLen at hcm
  have HRD := Hid.mk' hrd
  have HB3 : Hid (Below w.heap.size w w3) := HB2.out.trans (hb3.mono HB2.out.size)
  have hps : ∃ P A : Nat → Prop, Hid (PS w3 w3 P A g rb n0 n0 none 0 0) ∧ Hid (∀ j, w2.heap.size ≤ j ∧ j < w3.heap.size → P j) ∧ Hid (∀ j, j < g → P j) := by
    have hg := HG0.out
    have hrl := lt_of_heap HRB.out
    have hrb3 := (hb3.block rb hrl).trans HRB.out
    refine ⟨fun k => k < g ∨ w2.heap.size ≤ k ∧ k < w3.heap.size, _, ⟨hf3, fun k hk => ?_, Keep.refl _ _, hrb3, .inl (.inr ⟨Nat.le_refl _, hrl⟩), FrsAt.nil _, fun x e => (by cases e), fun e => ?_, by have := HPOS.out; omega, by have := HPOS.out; omega⟩, fun j hj => .inr hj, fun j hj => .inl hj⟩
    · rcases hk with hk | hk
      · exact .inl (.inl hk)
      · exact .inr hk
    · rcases e with e | e
      · omega
      · omega
  obtain ⟨P, A, HPS, HA, HA0⟩ := hps
  generalize w2.heap.size = z2 at *
  clear hb3 hea HB2 HF2 ho3 hrd hf3 HRB HPOS
  generalize trs (ss.take n) = ts at *
  go_wp2
  go_loopw [5] (fun v5 wr => ∃ (i : Nat) (s : Ft) (A : Nat → Prop) (a : Option Addr) (k c : Nat), v5 = .int .i64 i ∧ i ≤ n ∧ Hid (Inv s) ∧ Hid (PS w3 wr P A g rb s s a k c)) (fun v5 _ => n - (intOf v5).toNat)
  case atStart => exact ⟨0, n0, A, none, 0, 0, rfl, Nat.zero_le _, inv0, HPS⟩
  case round =>
    clear HPS
    obtain ⟨i, s, A, a0, m0, c0, rfl, hi1, HI, HPS⟩ := hrel
    by_cases hc : i < n
    · obtain ⟨gs, rfl, hz, hlt, x0, x1, x2⟩ := HRD.out i hc
      obtain ⟨⟨kd, k, d⟩, hst⟩ : ∃ q, ts.getD i s0 = q := ⟨_, rfl⟩
      rw [hst] at x0 x1 x2
      dsimp only at x0 x1 x2
      have x0 := HPS.out.keep.cell x0 (HA.out gs ⟨hz, hlt⟩)
      have x1 := HPS.out.keep.cell x1 (HA.out gs ⟨hz, hlt⟩)
      have x2 := HPS.out.keep.cell x2 (HA.out gs ⟨hz, hlt⟩)
      clear hst hz hlt
      have hb5 : Below wr.heap.size wr (wr.alloc (.cells #[.int .i64 kd, .int .i64 k, .string d] 33)) := (Below.refl _ wr).alloc (Nat.le_refl _) _
      have g5 := heap_alloc_new wr (.cells #[.int .i64 kd, .int .i64 k, .string d] 33)
      obtain ⟨A5, HPQ⟩ : ∃ A', Hid (PQ w3 (wr.alloc (.cells #[.int .i64 kd, .int .i64 k, .string d] 33)) P A' g rb wr.heap.size s s a0 m0 c0 kd k d) := ⟨_, HPS.out.new hb5, g5, .inr ⟨Nat.le_refl _, lt_of_heap g5⟩, by have := lt_of_heap HPS.out.rbl; omega⟩
      obtain ⟨e0, e1, e2, -⟩ := blk3 g5
      clear hb5 g5 HPS
      go_upto_region 10 with fail
      generalize wr.alloc (.cells #[.int .i64 kd, .int .i64 k, .string d] 33) = w5 at *
      generalize wr.heap.size = q at *
      go_upto_block 2 with (go_at_call 12; refine (kind_any _ _ _ _).mono ?_; rintro e w6 ⟨rfl, hb6⟩)
      obtain ⟨A6, HPQ6⟩ : ∃ A', Hid (PQ w3 w6 P A' g rb q s s a0 m0 c0 kd k d) := ⟨_, HPQ.out.new hb6⟩
      clear HPQ hb6 e0 e1 e2 x0 x1 x2
      obtain ⟨kk, hkk⟩ : ∃ kk, kindI kd = kk := ⟨_, rfl⟩
      have HKK : Hid (kk = 0 ∨ kk = 1 ∨ kk = 2 ∨ kk = 3 ∨ kk = 4 ∨ kk = 5) := by
        have := kindI_of kd
        rw [hkk] at this
        exact this
      have HKD : Hid (∀ w' : World, Calls Tryd.prog 12 #[.agg #[.int .i64 kd, .int .i64 k, .string d]] w' fun e w'' => e = .returned (.int .i64 kk) ∧ Below w'.heap.size w' w'') := fun w' => by rw [← hkk]; exact kind_any _ _ _ _
      rw [hkk]
      clear hkk
      go_cut [7, 8, 9, 10, 11, 12, 13, 14, 15, 16, 17, 18] from 24 to 113 (fun s7 _ _ _ _ _ _ _ _ _ _ _ wx => ∃ (t : Ft) (A' : Nat → Prop) (a' : Option Addr) (m' c' : Nat), s7 = .bool true ∧ Inv t ∧ PS w3 wx P A' g rb t t a' m' c')
      case first =>
        obtain ⟨y0, y1, y2, -⟩ := blk3 HPQ6.out.st
        obtain ⟨r0, r1, -⟩ := blk2 HPQ6.out.ps.rbl
        have hk2 := HKK.out
        by_cases h0 : kk = 0
        · subst h0
          have HRT := Hid.mk' (rtake_any HI.out _ _ _ k d _ HPQ6.out.ps.frs)
          have HTK : Hid (∀ w' A', FIn w' A' g s → Calls Tryd.prog 14 #[.pointer (some ⟨g, 0, none⟩), .agg #[.int .i64 k, .string d]] w' fun e w'' => e = .returned (.int .i64 (tkw s k)) ∧ FIn w'' A' g (tk s ⟨k, d⟩) ∧ Keep A' w' w'') := fun w' A' h => take_w h HI.out k d
          have HIT := Hid.mk' (inv_tk HI.out ⟨k, d⟩)
          clear hk2 HKK HKD
          generalize tk s ⟨k, d⟩ = T at *
          generalize tkw s k = W at *
          go_wp2_with fail
          refine HRT.out.mono ?_
          rintro e w7 ⟨a7, n7, c7, rfl, hf7, ho7, hb7⟩
          obtain ⟨A7, HPQ7, HO7⟩ : ∃ A', Hid (PQ w3 w7 P A' g rb q s s a0 m0 c0 kd k d) ∧ Hid (∀ x, a7 = some x → A' x.block ∧ x.block ≠ rb) := ⟨_, HPQ6.out.new hb7, HPQ6.out.ps.orig ho7⟩
          have HF7 := Hid.mk' hf7
          clear hf7 ho7 hb7 HRT HPQ6 y0 y1 y2 r0 r1
          go_upto_region 17 with fail
          have hb8 : Below w7.heap.size w7 (w7.alloc (.cells #[.int .i64 T.st, .slice a7 n7 c7] 28)) := (Below.refl _ w7).alloc (Nat.le_refl _) _
          obtain ⟨e0, e1, -⟩ := blk2 (heap_alloc_new w7 (.cells #[.int .i64 T.st, .slice a7 n7 c7] 28))
          obtain ⟨A8, HPQ8, HO8⟩ : ∃ A', Hid (PQ w3 (w7.alloc (.cells #[.int .i64 T.st, .slice a7 n7 c7] 28)) P A' g rb q s s a0 m0 c0 kd k d) ∧ Hid (∀ x, a7 = some x → A' x.block ∧ x.block ≠ rb) := ⟨_, HPQ7.out.new hb8, fun x e => ⟨.inl (HO7.out x e).1, (HO7.out x e).2⟩⟩
          have HF8 := Hid.mk' (HF7.out.below hb8)
          clear hb8 HPQ7 HO7 HF7
          generalize w7.alloc (.cells #[.int .i64 T.st, .slice a7 n7 c7] 28) = w8 at *
          obtain ⟨r0, r1, -⟩ := blk2 HPQ8.out.ps.rbl
          have f0 := fz2 HPQ8.out.ps.rbl 0
          have f1 := fz2 HPQ8.out.ps.rbl 1
          go_upto_region 18 with fail
          have HPQ9 := Hid.mk' (HPQ8.out.setr (u' := T) T.st rfl HF8.out HO8.out)
          clear HPQ8 HF8 HO8 e0 e1 r0 r1 f0 f1
          generalize (w8.setCell ⟨rb, 0, none⟩ (.int .i64 T.st)).setCell ⟨rb, 1, none⟩ (.slice a7 n7 c7) = w9 at *
          obtain ⟨y0, y1, y2, -⟩ := blk3 HPQ9.out.st
          go_wp2_with fail
          refine (HTK.out _ _ HPQ9.out.ps.fin).mono ?_
          rintro e w10 ⟨rfl, hf, hk⟩
          have HPS10 := Hid.mk' (HPQ9.out.ps.front hf hk)
          clear hf hk HTK HPQ9 y0 y1 y2
          go_wp2_with fail
          go_meet
          exact ⟨T, A8, a7, n7, c7, by simp, HIT.out, HPS10.out⟩
        by_cases h1 : kk = 1
        · subst h1
          have HRT := Hid.mk' (rnext_any HI.out _ _ _ _ HPQ6.out.ps.frs)
          have HTK : Hid (∀ w' A', FIn w' A' g s → Calls Tryd.prog 16 #[.pointer (some ⟨g, 0, none⟩)] w' fun e w'' => e = .returned (.tuple #[.agg #[.int .i64 (nxF s).k, .string (nxF s).s], .int .i64 (nxW s), .bool (nxB s)]) ∧ FIn w'' A' g (nxT s) ∧ Keep A' w' w'') := fun w' A' h => next_w h HI.out
          have HIT := Hid.mk' (inv_nxT HI.out)
          clear hk2 HKK HKD h0
          generalize nxT s = T at *
          generalize nxW s = W at *
          generalize nxB s = b at *
          generalize nxF s = F at *
          obtain ⟨fk, fs⟩ := F
          dsimp only at *
          go_wp2_with fail
          refine HRT.out.mono ?_
          rintro e w7 ⟨a7, n7, c7, rfl, hf7, ho7, hb7⟩
          obtain ⟨A7, HPQ7, HO7⟩ : ∃ A', Hid (PQ w3 w7 P A' g rb q s s a0 m0 c0 kd k d) ∧ Hid (∀ x, a7 = some x → A' x.block ∧ x.block ≠ rb) := ⟨_, HPQ6.out.new hb7, HPQ6.out.ps.orig ho7⟩
          have HF7 := Hid.mk' hf7
          clear hf7 ho7 hb7 HRT HPQ6 y0 y1 y2 r0 r1
          go_upto_region 21 with fail
          obtain ⟨hb8, g10, g11⟩ := nx_boxes w7 (.int .i64 T.st) (.slice a7 n7 c7) fk fs
          obtain ⟨e0, e1, -⟩ := blk2 g10
          have n11 : w7.heap.size + 1 ≠ rb := by have := lt_of_heap HPQ7.out.ps.rbl; omega
          have n10 : w7.heap.size ≠ rb := by have := lt_of_heap HPQ7.out.ps.rbl; omega
          obtain ⟨A8, HPQ8, HO8, HQ8⟩ : ∃ A', Hid (PQ w3 ((w7.alloc (.cells #[.int .i64 T.st, .slice a7 n7 c7] 28)).alloc (.cells #[.int .i64 fk, .string fs] 31)) P A' g rb q s s a0 m0 c0 kd k d) ∧ Hid (∀ x, a7 = some x → A' x.block ∧ x.block ≠ rb) ∧ Hid (A' (w7.heap.size + 1)) := ⟨_, HPQ7.out.new hb8, fun x e => ⟨.inl (HO7.out x e).1, (HO7.out x e).2⟩, .inr ⟨by omega, lt_of_heap g11⟩⟩
          have HF8 := Hid.mk' (HF7.out.below hb8)
          have HG11 := Hid.mk' g11
          clear hb8 HPQ7 HO7 HF7 g10 g11
          generalize (w7.alloc (.cells #[.int .i64 T.st, .slice a7 n7 c7] 28)).alloc (.cells #[.int .i64 fk, .string fs] 31) = w8 at *
          generalize w7.heap.size + 1 = q11 at *
          generalize w7.heap.size = q10 at *
          obtain ⟨r0, r1, -⟩ := blk2 HPQ8.out.ps.rbl
          have f0 := fz2 HPQ8.out.ps.rbl 0
          have f1 := fz2 HPQ8.out.ps.rbl 1
          go_upto_region 22 with fail
          have HPQ9 := Hid.mk' (HPQ8.out.setr (u' := T) T.st rfl HF8.out HO8.out)
          have hk9 : Keep (fun j => j ≠ rb) w8 ((w8.setCell ⟨rb, 0, none⟩ (.int .i64 T.st)).setCell ⟨rb, 1, none⟩ (.slice a7 n7 c7)) := ((Keep.refl _ _).setCell (fun hn => hn rfl) _).setCell (fun hn => hn rfl) _
          have HG11' := Hid.mk' ((hk9.block q11 (lt_of_heap HG11.out) n11).trans HG11.out)
          clear HPQ8 HF8 HO8 e0 e1 r0 r1 f0 f1 hk9 HG11
          generalize (w8.setCell ⟨rb, 0, none⟩ (.int .i64 T.st)).setCell ⟨rb, 1, none⟩ (.slice a7 n7 c7) = w9 at *
          go_wp2_with fail
          refine (HTK.out _ _ HPQ9.out.ps.fin).mono ?_
          rintro e w10 ⟨rfl, hf, hk⟩
          have HPS10 := Hid.mk' (HPQ9.out.ps.front hf hk)
          have g11 := (hk.block q11 (lt_of_heap HG11'.out) HQ8.out).trans HG11'.out
          clear hf hk HTK HPQ9 HG11'
          go_upto_region 23 with fail
          have hb11 : Below w10.heap.size w10 (w10.alloc (.cells #[.int .i64 fk, .string fs] 31)) := (Below.refl _ w10).alloc (Nat.le_refl _) _
          obtain ⟨e0, e1, -⟩ := blk2 (heap_alloc_new w10 (.cells #[.int .i64 fk, .string fs] 31))
          obtain ⟨z0, z1, -⟩ := blk2 ((hb11.block q11 (lt_of_heap g11)).trans g11)
          obtain ⟨A11, HPS11⟩ : ∃ A', Hid (PS w3 (w10.alloc (.cells #[.int .i64 fk, .string fs] 31)) P A' g rb T T a7 n7 c7) := ⟨_, HPS10.out.new hb11⟩
          clear hb11 g11 HPS10
          generalize w10.alloc (.cells #[.int .i64 fk, .string fs] 31) = w11 at *
          generalize w10.heap.size = q14 at *
          go_wp2_with fail
          go_meet
          exact ⟨T, A11, a7, n7, c7, by simp, HIT.out, HPS11.out⟩
        have h2 : kk = 2 ∨ kk = 3 ∨ kk = 4 ∨ kk = 5 := by omega
        clear hk2 HKK h0 h1
        rcases h2 with rfl | rfl | rfl | rfl
        · have HGO : Hid (∀ w' : World, FrsAt w' a0 m0 c0 s.hl → Calls Tryd.prog 17 #[.agg #[.int .i64 s.st, .slice a0 m0 c0], .int .i64 0] w' fun e w'' => ∃ a' n' c', e = .returned (.tuple #[.agg #[.int .i64 (goT 0 s).st, .slice a' n' c'], .bool (goB 0 s.st)]) ∧ FrsAt w'' a' n' c' (goT 0 s).hl ∧ Orig w' w'' a0 a' ∧ Below w'.heap.size w' w'') := fun w' h => rgo_any s 0 (by decide) a0 m0 c0 w' h
          have HCL : Hid (∀ w' A', FIn w' A' g s → Calls Tryd.prog 18 #[.pointer (some ⟨g, 0, none⟩), .int .i64 0] w' fun e w'' => e = .returned (.bool (goB 0 s.st)) ∧ FIn w'' A' g (goT 0 s) ∧ Keep A' w' w'') := fun w' A' h => call_w h HI.out 0
          have HIG : Hid (Inv (goT 0 s)) := inv_goT HI.out
          generalize goT 0 s = T at *
          generalize goB 0 s.st = B at *
          go_upto_region 12 with fail
          go_cut [17, 18] from 36 to 43 (fun v17 v18 wx => ∃ (z : Nat) (a7 : Option Addr) (n7 c7 : Nat), v17 = .pointer (some ⟨z, 0, none⟩) ∧ v18 = .bool B ∧ GoDone w3 P g rb q s T a0 m0 c0 kd k d z a7 n7 c7 wx)
          case first =>
            have HS5 : Hid (S5 w6.drew rb q s.st a0 m0 c0 kd k d) := ⟨⟨r0, r1⟩, y0, y1, y2⟩
            generalize hst : s.st = S at *
            have HSS := Hid.mk' hst
            clear hst
            clear r0 r1 y0 y1 y2
            have hS := HS5.out
            unfold S5 at hS
            have hbd : Below w6.heap.size w6 w6.drew := below_drewN (Below.refl _ _) 1
            have hq6 : rb < w6.heap.size ∧ q < w6.heap.size := ⟨lt_of_heap HPQ6.out.ps.rbl, lt_of_heap HPQ6.out.st⟩
            have hf6 := HPQ6.out.ps.frs
            go_region_held3 (fun w' => (w'.cell? ⟨rb, 0, none⟩ = some (.int .i64 S) ∧ w'.cell? ⟨rb, 1, none⟩ = some (.slice a0 m0 c0)) ∧ w'.cell? ⟨q, 0, none⟩ = some (.int .i64 kd) ∧ w'.cell? ⟨q, 1, none⟩ = some (.int .i64 k) ∧ w'.cell? ⟨q, 2, none⟩ = some (.string d))
              (first | assumption | exact s5_below (by assumption) hbx | exact s5_below (by assumption) ((Below.refl _ _).alloc (Nat.le_refl _) _) | exact s5_set (by assumption) (by assumption) (by assumption) | exact s5_other (by assumption) hq8.1 hq8.2 | go_keep)
              (first
                | (go_at_call 12; refine (HKD.out (w6.drew.alloc (.cells #[.int .i64 0, .slice none 0 0] 28))).mono ?_; rintro e w7a ⟨rfl, hbx⟩; obtain ⟨hB7, hf7, hq7, g17, zr, zq⟩ := k_with hbx hq6.1 hq6.2 hf6)
                | (go_at_call 12; refine (HKD.out w6.drew).mono ?_; rintro e w7b ⟨rfl, hbx⟩; obtain ⟨hB7, hf7, hq7⟩ := k_without hbx hq6.1 hq6.2 hf6)
                | (go_at_call 17; refine (HGO.out (w7b.alloc (.cells #[.int .i64 0, .slice none 0 0] 28)) (hf7.below ((Below.refl _ _).alloc (Nat.le_refl _) _))).mono ?_; rintro e w8 ⟨a7, n7, c7, rfl, hf8, ho8, hbx⟩; obtain ⟨hB8, ho8', hq8, z0, z1, zf0, zf1, zr, zq, HZB⟩ := g_with hbx ho8 hq7.1 hq7.2)
                | (go_at_call 17; refine (HGO.out w7b hf7).mono ?_; rintro e w8 ⟨a7, n7, c7, rfl, hf8, ho8, hbx⟩; have hB8 := hbx; have ho8' := ho8; have hq8 := g_lt hbx hq7.1 hq7.2)
                | (go_at_call 17; refine (HGO.out w7a hf7).mono ?_; rintro e w8 ⟨a7, n7, c7, rfl, hf8, ho8, hbx⟩; have hB8 := hbx; have ho8' := ho8; have hq8 := g_lt hbx hq7.1 hq7.2; obtain ⟨z0, z1, zf0, zf1, HZB⟩ := g_kept hbx g17))
            · go_wp2_with fail
              go_meet
              exact ⟨_, a7, n7, c7, rfl, by simp, done_last HPQ6.out hB7 hB8 ho8' hf8⟩
            · go_wp2_with fail
              go_meet
              exact ⟨_, a7, n7, c7, rfl, by simp, done_set HPQ6.out (hB7.trans (hB8.mono hB7.size)) (ho8'.wide hB7.size) hf8 HZB.out hB7.size (fun x e => by
                rcases ho8 x e with ⟨y, hy, hyb⟩ | ⟨h1, _⟩
                · have := HPQ6.out.ps.fin.guard _ (HPQ6.out.ps.own y hy).1
                  have := hB7.size
                  omega
                · rw [World.size_alloc] at h1
                  omega)⟩
            · go_wp2_with fail
              go_meet
              exact ⟨_, a7, n7, c7, rfl, by simp, done_set HPQ6.out (hB7.trans (hB8.mono hB7.size)) (ho8'.wide hB7.size) hf8 HZB.out (Nat.le_refl _) (fun x e => by
                have hl := lt_of_heap g17
                rcases ho8 x e with ⟨y, hy, hyb⟩ | ⟨h1, _⟩
                · have := HPQ6.out.ps.fin.guard _ (HPQ6.out.ps.own y hy).1
                  omega
                · omega)⟩
          case rest =>
            clear HPQ6 HGO
            obtain ⟨z, a7, n7, c7, rfl, rfl, A9, hpq, x0, x1, hf9, ho9⟩ := hcut
            have HPQ9 := Hid.mk' hpq
            have HF9 := Hid.mk' hf9
            have HO9 := Hid.mk' ho9
            clear hpq hf9 ho9 r0 r1 y0 y1 y2
            obtain ⟨r0, r1, -⟩ := blk2 HPQ9.out.ps.rbl
            have f0 := fz2 HPQ9.out.ps.rbl 0
            have f1 := fz2 HPQ9.out.ps.rbl 1
            go_upto_region 14 with fail
            have HPQA := Hid.mk' (HPQ9.out.setr (u' := T) T.st rfl HF9.out HO9.out)
            clear HPQ9 HF9 HO9 x0 x1 r0 r1 f0 f1
            generalize (wc.setCell ⟨rb, 0, none⟩ (.int .i64 T.st)).setCell ⟨rb, 1, none⟩ (.slice a7 n7 c7) = wA at *
            obtain ⟨y0, y1, y2, -⟩ := blk3 HPQA.out.st
            go_wp2_with fail
            refine (HKD.out _).mono ?_
            rintro e wB ⟨rfl, hbB⟩
            obtain ⟨AB, HPQB⟩ : ∃ A', Hid (PQ w3 wB P A' g rb q s T a7 n7 c7 kd k d) := ⟨_, HPQA.out.new hbB⟩
            clear hbB HPQA y0 y1 y2
            go_wp2_with fail
            refine (HCL.out _ _ HPQB.out.ps.fin).mono ?_
            rintro e wC ⟨rfl, hf, hk⟩
            have HPSC := Hid.mk' (HPQB.out.ps.front hf hk)
            clear hf hk HPQB HCL
            go_wp2_with fail
            go_meet
            exact ⟨T, AB, a7, n7, c7, by simp, HIG.out, HPSC.out⟩
        · have HGO : Hid (∀ w' : World, FrsAt w' a0 m0 c0 s.hl → Calls Tryd.prog 17 #[.agg #[.int .i64 s.st, .slice a0 m0 c0], .int .i64 1] w' fun e w'' => ∃ a' n' c', e = .returned (.tuple #[.agg #[.int .i64 (goT 1 s).st, .slice a' n' c'], .bool (goB 1 s.st)]) ∧ FrsAt w'' a' n' c' (goT 1 s).hl ∧ Orig w' w'' a0 a' ∧ Below w'.heap.size w' w'') := fun w' h => rgo_any s 1 (by decide) a0 m0 c0 w' h
          have HCL : Hid (∀ w' A', FIn w' A' g s → Calls Tryd.prog 18 #[.pointer (some ⟨g, 0, none⟩), .int .i64 1] w' fun e w'' => e = .returned (.bool (goB 1 s.st)) ∧ FIn w'' A' g (goT 1 s) ∧ Keep A' w' w'') := fun w' A' h => call_w h HI.out 1
          have HIG : Hid (Inv (goT 1 s)) := inv_goT HI.out
          generalize goT 1 s = T at *
          generalize goB 1 s.st = B at *
          go_upto_region 12 with fail
          go_cut [17, 18] from 36 to 43 (fun v17 v18 wx => ∃ (z : Nat) (a7 : Option Addr) (n7 c7 : Nat), v17 = .pointer (some ⟨z, 0, none⟩) ∧ v18 = .bool B ∧ GoDone w3 P g rb q s T a0 m0 c0 kd k d z a7 n7 c7 wx)
          case first =>
            have HS5 : Hid (S5 w6.drew rb q s.st a0 m0 c0 kd k d) := ⟨⟨r0, r1⟩, y0, y1, y2⟩
            generalize hst : s.st = S at *
            have HSS := Hid.mk' hst
            clear hst
            clear r0 r1 y0 y1 y2
            have hS := HS5.out
            unfold S5 at hS
            have hbd : Below w6.heap.size w6 w6.drew := below_drewN (Below.refl _ _) 1
            have hq6 : rb < w6.heap.size ∧ q < w6.heap.size := ⟨lt_of_heap HPQ6.out.ps.rbl, lt_of_heap HPQ6.out.st⟩
            have hf6 := HPQ6.out.ps.frs
            go_region_held3 (fun w' => (w'.cell? ⟨rb, 0, none⟩ = some (.int .i64 S) ∧ w'.cell? ⟨rb, 1, none⟩ = some (.slice a0 m0 c0)) ∧ w'.cell? ⟨q, 0, none⟩ = some (.int .i64 kd) ∧ w'.cell? ⟨q, 1, none⟩ = some (.int .i64 k) ∧ w'.cell? ⟨q, 2, none⟩ = some (.string d))
              (first | assumption | exact s5_below (by assumption) hbx | exact s5_below (by assumption) ((Below.refl _ _).alloc (Nat.le_refl _) _) | exact s5_set (by assumption) (by assumption) (by assumption) | exact s5_other (by assumption) hq8.1 hq8.2 | go_keep)
              (first
                | (go_at_call 12; refine (HKD.out (w6.drew.alloc (.cells #[.int .i64 0, .slice none 0 0] 28))).mono ?_; rintro e w7a ⟨rfl, hbx⟩; obtain ⟨hB7, hf7, hq7, g17, zr, zq⟩ := k_with hbx hq6.1 hq6.2 hf6)
                | (go_at_call 12; refine (HKD.out w6.drew).mono ?_; rintro e w7b ⟨rfl, hbx⟩; obtain ⟨hB7, hf7, hq7⟩ := k_without hbx hq6.1 hq6.2 hf6)
                | (go_at_call 17; refine (HGO.out (w7b.alloc (.cells #[.int .i64 0, .slice none 0 0] 28)) (hf7.below ((Below.refl _ _).alloc (Nat.le_refl _) _))).mono ?_; rintro e w8 ⟨a7, n7, c7, rfl, hf8, ho8, hbx⟩; obtain ⟨hB8, ho8', hq8, z0, z1, zf0, zf1, zr, zq, HZB⟩ := g_with hbx ho8 hq7.1 hq7.2)
                | (go_at_call 17; refine (HGO.out w7b hf7).mono ?_; rintro e w8 ⟨a7, n7, c7, rfl, hf8, ho8, hbx⟩; have hB8 := hbx; have ho8' := ho8; have hq8 := g_lt hbx hq7.1 hq7.2)
                | (go_at_call 17; refine (HGO.out w7a hf7).mono ?_; rintro e w8 ⟨a7, n7, c7, rfl, hf8, ho8, hbx⟩; have hB8 := hbx; have ho8' := ho8; have hq8 := g_lt hbx hq7.1 hq7.2; obtain ⟨z0, z1, zf0, zf1, HZB⟩ := g_kept hbx g17))
            · go_wp2_with fail
              go_meet
              exact ⟨_, a7, n7, c7, rfl, by simp, done_last HPQ6.out hB7 hB8 ho8' hf8⟩
            · go_wp2_with fail
              go_meet
              exact ⟨_, a7, n7, c7, rfl, by simp, done_set HPQ6.out (hB7.trans (hB8.mono hB7.size)) (ho8'.wide hB7.size) hf8 HZB.out hB7.size (fun x e => by
                rcases ho8 x e with ⟨y, hy, hyb⟩ | ⟨h1, _⟩
                · have := HPQ6.out.ps.fin.guard _ (HPQ6.out.ps.own y hy).1
                  have := hB7.size
                  omega
                · rw [World.size_alloc] at h1
                  omega)⟩
            · go_wp2_with fail
              go_meet
              exact ⟨_, a7, n7, c7, rfl, by simp, done_set HPQ6.out (hB7.trans (hB8.mono hB7.size)) (ho8'.wide hB7.size) hf8 HZB.out (Nat.le_refl _) (fun x e => by
                have hl := lt_of_heap g17
                rcases ho8 x e with ⟨y, hy, hyb⟩ | ⟨h1, _⟩
                · have := HPQ6.out.ps.fin.guard _ (HPQ6.out.ps.own y hy).1
                  omega
                · omega)⟩
          case rest =>
            clear HPQ6 HGO
            obtain ⟨z, a7, n7, c7, rfl, rfl, A9, hpq, x0, x1, hf9, ho9⟩ := hcut
            have HPQ9 := Hid.mk' hpq
            have HF9 := Hid.mk' hf9
            have HO9 := Hid.mk' ho9
            clear hpq hf9 ho9 r0 r1 y0 y1 y2
            obtain ⟨r0, r1, -⟩ := blk2 HPQ9.out.ps.rbl
            have f0 := fz2 HPQ9.out.ps.rbl 0
            have f1 := fz2 HPQ9.out.ps.rbl 1
            go_upto_region 14 with fail
            have HPQA := Hid.mk' (HPQ9.out.setr (u' := T) T.st rfl HF9.out HO9.out)
            clear HPQ9 HF9 HO9 x0 x1 r0 r1 f0 f1
            generalize (wc.setCell ⟨rb, 0, none⟩ (.int .i64 T.st)).setCell ⟨rb, 1, none⟩ (.slice a7 n7 c7) = wA at *
            obtain ⟨y0, y1, y2, -⟩ := blk3 HPQA.out.st
            go_wp2_with fail
            refine (HKD.out _).mono ?_
            rintro e wB ⟨rfl, hbB⟩
            obtain ⟨AB, HPQB⟩ : ∃ A', Hid (PQ w3 wB P A' g rb q s T a7 n7 c7 kd k d) := ⟨_, HPQA.out.new hbB⟩
            clear hbB HPQA y0 y1 y2
            go_wp2_with fail
            refine (HCL.out _ _ HPQB.out.ps.fin).mono ?_
            rintro e wC ⟨rfl, hf, hk⟩
            have HPSC := Hid.mk' (HPQB.out.ps.front hf hk)
            clear hf hk HPQB HCL
            go_wp2_with fail
            go_meet
            exact ⟨T, AB, a7, n7, c7, by simp, HIG.out, HPSC.out⟩
        · have HGO : Hid (∀ w' : World, FrsAt w' a0 m0 c0 s.hl → Calls Tryd.prog 17 #[.agg #[.int .i64 s.st, .slice a0 m0 c0], .int .i64 2] w' fun e w'' => ∃ a' n' c', e = .returned (.tuple #[.agg #[.int .i64 (goT 2 s).st, .slice a' n' c'], .bool (goB 2 s.st)]) ∧ FrsAt w'' a' n' c' (goT 2 s).hl ∧ Orig w' w'' a0 a' ∧ Below w'.heap.size w' w'') := fun w' h => rgo_any s 2 (by decide) a0 m0 c0 w' h
          have HCL : Hid (∀ w' A', FIn w' A' g s → Calls Tryd.prog 18 #[.pointer (some ⟨g, 0, none⟩), .int .i64 2] w' fun e w'' => e = .returned (.bool (goB 2 s.st)) ∧ FIn w'' A' g (goT 2 s) ∧ Keep A' w' w'') := fun w' A' h => call_w h HI.out 2
          have HIG : Hid (Inv (goT 2 s)) := inv_goT HI.out
          generalize goT 2 s = T at *
          generalize goB 2 s.st = B at *
          go_upto_region 12 with fail
          go_cut [17, 18] from 36 to 43 (fun v17 v18 wx => ∃ (z : Nat) (a7 : Option Addr) (n7 c7 : Nat), v17 = .pointer (some ⟨z, 0, none⟩) ∧ v18 = .bool B ∧ GoDone w3 P g rb q s T a0 m0 c0 kd k d z a7 n7 c7 wx)
          case first =>
            have HS5 : Hid (S5 w6.drew rb q s.st a0 m0 c0 kd k d) := ⟨⟨r0, r1⟩, y0, y1, y2⟩
            generalize hst : s.st = S at *
            have HSS := Hid.mk' hst
            clear hst
            clear r0 r1 y0 y1 y2
            have hS := HS5.out
            unfold S5 at hS
            have hbd : Below w6.heap.size w6 w6.drew := below_drewN (Below.refl _ _) 1
            have hq6 : rb < w6.heap.size ∧ q < w6.heap.size := ⟨lt_of_heap HPQ6.out.ps.rbl, lt_of_heap HPQ6.out.st⟩
            have hf6 := HPQ6.out.ps.frs
            go_region_held3 (fun w' => (w'.cell? ⟨rb, 0, none⟩ = some (.int .i64 S) ∧ w'.cell? ⟨rb, 1, none⟩ = some (.slice a0 m0 c0)) ∧ w'.cell? ⟨q, 0, none⟩ = some (.int .i64 kd) ∧ w'.cell? ⟨q, 1, none⟩ = some (.int .i64 k) ∧ w'.cell? ⟨q, 2, none⟩ = some (.string d))
              (first | assumption | exact s5_below (by assumption) hbx | exact s5_below (by assumption) ((Below.refl _ _).alloc (Nat.le_refl _) _) | exact s5_set (by assumption) (by assumption) (by assumption) | exact s5_other (by assumption) hq8.1 hq8.2 | go_keep)
              (first
                | (go_at_call 12; refine (HKD.out (w6.drew.alloc (.cells #[.int .i64 0, .slice none 0 0] 28))).mono ?_; rintro e w7a ⟨rfl, hbx⟩; obtain ⟨hB7, hf7, hq7, g17, zr, zq⟩ := k_with hbx hq6.1 hq6.2 hf6)
                | (go_at_call 12; refine (HKD.out w6.drew).mono ?_; rintro e w7b ⟨rfl, hbx⟩; obtain ⟨hB7, hf7, hq7⟩ := k_without hbx hq6.1 hq6.2 hf6)
                | (go_at_call 17; refine (HGO.out (w7b.alloc (.cells #[.int .i64 0, .slice none 0 0] 28)) (hf7.below ((Below.refl _ _).alloc (Nat.le_refl _) _))).mono ?_; rintro e w8 ⟨a7, n7, c7, rfl, hf8, ho8, hbx⟩; obtain ⟨hB8, ho8', hq8, z0, z1, zf0, zf1, zr, zq, HZB⟩ := g_with hbx ho8 hq7.1 hq7.2)
                | (go_at_call 17; refine (HGO.out w7b hf7).mono ?_; rintro e w8 ⟨a7, n7, c7, rfl, hf8, ho8, hbx⟩; have hB8 := hbx; have ho8' := ho8; have hq8 := g_lt hbx hq7.1 hq7.2)
                | (go_at_call 17; refine (HGO.out w7a hf7).mono ?_; rintro e w8 ⟨a7, n7, c7, rfl, hf8, ho8, hbx⟩; have hB8 := hbx; have ho8' := ho8; have hq8 := g_lt hbx hq7.1 hq7.2; obtain ⟨z0, z1, zf0, zf1, HZB⟩ := g_kept hbx g17))
            · go_wp2_with fail
              go_meet
              exact ⟨_, a7, n7, c7, rfl, by simp, done_last HPQ6.out hB7 hB8 ho8' hf8⟩
            · go_wp2_with fail
              go_meet
              exact ⟨_, a7, n7, c7, rfl, by simp, done_set HPQ6.out (hB7.trans (hB8.mono hB7.size)) (ho8'.wide hB7.size) hf8 HZB.out hB7.size (fun x e => by
                rcases ho8 x e with ⟨y, hy, hyb⟩ | ⟨h1, _⟩
                · have := HPQ6.out.ps.fin.guard _ (HPQ6.out.ps.own y hy).1
                  have := hB7.size
                  omega
                · rw [World.size_alloc] at h1
                  omega)⟩
            · go_wp2_with fail
              go_meet
              exact ⟨_, a7, n7, c7, rfl, by simp, done_set HPQ6.out (hB7.trans (hB8.mono hB7.size)) (ho8'.wide hB7.size) hf8 HZB.out (Nat.le_refl _) (fun x e => by
                have hl := lt_of_heap g17
                rcases ho8 x e with ⟨y, hy, hyb⟩ | ⟨h1, _⟩
                · have := HPQ6.out.ps.fin.guard _ (HPQ6.out.ps.own y hy).1
                  omega
                · omega)⟩
          case rest =>
            clear HPQ6 HGO
            obtain ⟨z, a7, n7, c7, rfl, rfl, A9, hpq, x0, x1, hf9, ho9⟩ := hcut
            have HPQ9 := Hid.mk' hpq
            have HF9 := Hid.mk' hf9
            have HO9 := Hid.mk' ho9
            clear hpq hf9 ho9 r0 r1 y0 y1 y2
            obtain ⟨r0, r1, -⟩ := blk2 HPQ9.out.ps.rbl
            have f0 := fz2 HPQ9.out.ps.rbl 0
            have f1 := fz2 HPQ9.out.ps.rbl 1
            go_upto_region 14 with fail
            have HPQA := Hid.mk' (HPQ9.out.setr (u' := T) T.st rfl HF9.out HO9.out)
            clear HPQ9 HF9 HO9 x0 x1 r0 r1 f0 f1
            generalize (wc.setCell ⟨rb, 0, none⟩ (.int .i64 T.st)).setCell ⟨rb, 1, none⟩ (.slice a7 n7 c7) = wA at *
            obtain ⟨y0, y1, y2, -⟩ := blk3 HPQA.out.st
            go_wp2_with fail
            refine (HKD.out _).mono ?_
            rintro e wB ⟨rfl, hbB⟩
            obtain ⟨AB, HPQB⟩ : ∃ A', Hid (PQ w3 wB P A' g rb q s T a7 n7 c7 kd k d) := ⟨_, HPQA.out.new hbB⟩
            clear hbB HPQA y0 y1 y2
            go_wp2_with fail
            refine (HCL.out _ _ HPQB.out.ps.fin).mono ?_
            rintro e wC ⟨rfl, hf, hk⟩
            have HPSC := Hid.mk' (HPQB.out.ps.front hf hk)
            clear hf hk HPQB HCL
            go_wp2_with fail
            go_meet
            exact ⟨T, AB, a7, n7, c7, by simp, HIG.out, HPSC.out⟩
        · have HGO : Hid (∀ w' : World, FrsAt w' a0 m0 c0 s.hl → Calls Tryd.prog 17 #[.agg #[.int .i64 s.st, .slice a0 m0 c0], .int .i64 3] w' fun e w'' => ∃ a' n' c', e = .returned (.tuple #[.agg #[.int .i64 (goT 3 s).st, .slice a' n' c'], .bool (goB 3 s.st)]) ∧ FrsAt w'' a' n' c' (goT 3 s).hl ∧ Orig w' w'' a0 a' ∧ Below w'.heap.size w' w'') := fun w' h => rgo_any s 3 (by decide) a0 m0 c0 w' h
          have HCL : Hid (∀ w' A', FIn w' A' g s → Calls Tryd.prog 18 #[.pointer (some ⟨g, 0, none⟩), .int .i64 3] w' fun e w'' => e = .returned (.bool (goB 3 s.st)) ∧ FIn w'' A' g (goT 3 s) ∧ Keep A' w' w'') := fun w' A' h => call_w h HI.out 3
          have HIG : Hid (Inv (goT 3 s)) := inv_goT HI.out
          generalize goT 3 s = T at *
          generalize goB 3 s.st = B at *
          go_upto_region 12 with fail
          go_cut [17, 18] from 36 to 43 (fun v17 v18 wx => ∃ (z : Nat) (a7 : Option Addr) (n7 c7 : Nat), v17 = .pointer (some ⟨z, 0, none⟩) ∧ v18 = .bool B ∧ GoDone w3 P g rb q s T a0 m0 c0 kd k d z a7 n7 c7 wx)
          case first =>
            have HS5 : Hid (S5 w6.drew rb q s.st a0 m0 c0 kd k d) := ⟨⟨r0, r1⟩, y0, y1, y2⟩
            generalize hst : s.st = S at *
            have HSS := Hid.mk' hst
            clear hst
            clear r0 r1 y0 y1 y2
            have hS := HS5.out
            unfold S5 at hS
            have hbd : Below w6.heap.size w6 w6.drew := below_drewN (Below.refl _ _) 1
            have hq6 : rb < w6.heap.size ∧ q < w6.heap.size := ⟨lt_of_heap HPQ6.out.ps.rbl, lt_of_heap HPQ6.out.st⟩
            have hf6 := HPQ6.out.ps.frs
            go_region_held3 (fun w' => (w'.cell? ⟨rb, 0, none⟩ = some (.int .i64 S) ∧ w'.cell? ⟨rb, 1, none⟩ = some (.slice a0 m0 c0)) ∧ w'.cell? ⟨q, 0, none⟩ = some (.int .i64 kd) ∧ w'.cell? ⟨q, 1, none⟩ = some (.int .i64 k) ∧ w'.cell? ⟨q, 2, none⟩ = some (.string d))
              (first | assumption | exact s5_below (by assumption) hbx | exact s5_below (by assumption) ((Below.refl _ _).alloc (Nat.le_refl _) _) | exact s5_set (by assumption) (by assumption) (by assumption) | exact s5_other (by assumption) hq8.1 hq8.2 | go_keep)
              (first
                | (go_at_call 12; refine (HKD.out (w6.drew.alloc (.cells #[.int .i64 0, .slice none 0 0] 28))).mono ?_; rintro e w7a ⟨rfl, hbx⟩; obtain ⟨hB7, hf7, hq7, g17, zr, zq⟩ := k_with hbx hq6.1 hq6.2 hf6)
                | (go_at_call 12; refine (HKD.out w6.drew).mono ?_; rintro e w7b ⟨rfl, hbx⟩; obtain ⟨hB7, hf7, hq7⟩ := k_without hbx hq6.1 hq6.2 hf6)
                | (go_at_call 17; refine (HGO.out (w7b.alloc (.cells #[.int .i64 0, .slice none 0 0] 28)) (hf7.below ((Below.refl _ _).alloc (Nat.le_refl _) _))).mono ?_; rintro e w8 ⟨a7, n7, c7, rfl, hf8, ho8, hbx⟩; obtain ⟨hB8, ho8', hq8, z0, z1, zf0, zf1, zr, zq, HZB⟩ := g_with hbx ho8 hq7.1 hq7.2)
                | (go_at_call 17; refine (HGO.out w7b hf7).mono ?_; rintro e w8 ⟨a7, n7, c7, rfl, hf8, ho8, hbx⟩; have hB8 := hbx; have ho8' := ho8; have hq8 := g_lt hbx hq7.1 hq7.2)
                | (go_at_call 17; refine (HGO.out w7a hf7).mono ?_; rintro e w8 ⟨a7, n7, c7, rfl, hf8, ho8, hbx⟩; have hB8 := hbx; have ho8' := ho8; have hq8 := g_lt hbx hq7.1 hq7.2; obtain ⟨z0, z1, zf0, zf1, HZB⟩ := g_kept hbx g17))
            · go_wp2_with fail
              go_meet
              exact ⟨_, a7, n7, c7, rfl, by simp, done_last HPQ6.out hB7 hB8 ho8' hf8⟩
            · go_wp2_with fail
              go_meet
              exact ⟨_, a7, n7, c7, rfl, by simp, done_set HPQ6.out (hB7.trans (hB8.mono hB7.size)) (ho8'.wide hB7.size) hf8 HZB.out hB7.size (fun x e => by
                rcases ho8 x e with ⟨y, hy, hyb⟩ | ⟨h1, _⟩
                · have := HPQ6.out.ps.fin.guard _ (HPQ6.out.ps.own y hy).1
                  have := hB7.size
                  omega
                · rw [World.size_alloc] at h1
                  omega)⟩
            · go_wp2_with fail
              go_meet
              exact ⟨_, a7, n7, c7, rfl, by simp, done_set HPQ6.out (hB7.trans (hB8.mono hB7.size)) (ho8'.wide hB7.size) hf8 HZB.out (Nat.le_refl _) (fun x e => by
                have hl := lt_of_heap g17
                rcases ho8 x e with ⟨y, hy, hyb⟩ | ⟨h1, _⟩
                · have := HPQ6.out.ps.fin.guard _ (HPQ6.out.ps.own y hy).1
                  omega
                · omega)⟩
          case rest =>
            clear HPQ6 HGO
            obtain ⟨z, a7, n7, c7, rfl, rfl, A9, hpq, x0, x1, hf9, ho9⟩ := hcut
            have HPQ9 := Hid.mk' hpq
            have HF9 := Hid.mk' hf9
            have HO9 := Hid.mk' ho9
            clear hpq hf9 ho9 r0 r1 y0 y1 y2
            obtain ⟨r0, r1, -⟩ := blk2 HPQ9.out.ps.rbl
            have f0 := fz2 HPQ9.out.ps.rbl 0
            have f1 := fz2 HPQ9.out.ps.rbl 1
            go_upto_region 14 with fail
            have HPQA := Hid.mk' (HPQ9.out.setr (u' := T) T.st rfl HF9.out HO9.out)
            clear HPQ9 HF9 HO9 x0 x1 r0 r1 f0 f1
            generalize (wc.setCell ⟨rb, 0, none⟩ (.int .i64 T.st)).setCell ⟨rb, 1, none⟩ (.slice a7 n7 c7) = wA at *
            obtain ⟨y0, y1, y2, -⟩ := blk3 HPQA.out.st
            go_wp2_with fail
            refine (HKD.out _).mono ?_
            rintro e wB ⟨rfl, hbB⟩
            obtain ⟨AB, HPQB⟩ : ∃ A', Hid (PQ w3 wB P A' g rb q s T a7 n7 c7 kd k d) := ⟨_, HPQA.out.new hbB⟩
            clear hbB HPQA y0 y1 y2
            go_wp2_with fail
            refine (HCL.out _ _ HPQB.out.ps.fin).mono ?_
            rintro e wC ⟨rfl, hf, hk⟩
            have HPSC := Hid.mk' (HPQB.out.ps.front hf hk)
            clear hf hk HPQB HCL
            go_wp2_with fail
            go_meet
            exact ⟨T, AB, a7, n7, c7, by simp, HIG.out, HPSC.out⟩
      case rest =>
        clear HPQ6 HKD HKK HI
        obtain ⟨t, A2, a2, m2, c2, rfl, hIt, hQ⟩ := hcut
        have HIT := Hid.mk' hIt
        have HPS := Hid.mk' hQ
        obtain ⟨r0, r1, -⟩ := blk2 hQ.rbl
        have hst := state_w hQ.fin.drew
        have hhd := held_w hQ.fin.drew m2 hQ.frs.hlen
        clear hQ hIt
        go_wp2
        go_region_held3 (fun w' => w'.cell? ⟨rb, 0, none⟩ = some (.int .i64 t.st) ∧ w'.cell? ⟨rb, 1, none⟩ = some (.slice a2 m2 c2)) (first | assumption | go_keep)
          (first
            | (go_at_call 19; refine hst.mono ?_; rintro e w' ⟨rfl, hw'⟩; subst w')
            | (go_at_call 20; refine hhd.mono ?_; rintro e w' ⟨rfl, hw'⟩; subst w'))
        go_wp2
        exact ⟨⟨i + 1, t, A2, a2, m2, c2, by simp, by omega, HIT, HPS.out.drew⟩, by simp [intOf]; omega⟩
    · obtain rfl : n = i := by omega
      go_wp2
      go_ret
      exact ⟨rfl, HB3.out.trans (HPS.out.keep.below HB3.out.size (fun j hj => HA0.out j (by have := HG0.out; omega)))⟩

end Go.Proofs.YtegjaoaoiojhfaaDoor
