/-
  FrontHeld's walk: never are more than 4 frames held, and such only while it waits, ends, or has some left; of one that is closed none is. Conditions: the steps lie where they are said to lie; the tables read as they are laid.
-/
import Derived.Test.YtegjaoaoiojhfaaDoorPassesP
import Derived.Deep.CutBlock
namespace Go.Proofs.YtegjaoaoiojhfaaDoor
open Go.ChangeShapes Go.WideShapes Go.ChangeAt Go.RowKit

theorem hq_take {s : Ft} (hI : Inv s) (x : Fr) :
    (tkw s x.k = 3 → (tk s x).hl.length = s.hl.length + 1 ∧ (tk s x).st = s.st ∧ (s.st = 2 ∨ s.st = 4)) ∧ (tkw s x.k ≠ 3 → (tk s x).hl.length ≠ s.hl.length + 1) ∧ (s.st = 6 → tkw s x.k = 0 ∧ (tk s x).st = 6) := by
  obtain ⟨t1, t2, t3, t4, t5, t6, t7, t8⟩ := tab_all s.st x.k hI.lo hI.hi
  refine ⟨fun h => ?_, fun h => ?_, fun h => ?_⟩
  · rcases tk_cases hI x.k with ⟨h1, h2, h3, h4, h5⟩ | ⟨h1, h2, h3⟩
    · omega
    · rw [h3] at h
      obtain ⟨a, b, _⟩ := t3 h
      have e : tkx s x.k ≠ 6 := by omega
      refine ⟨?_, by show tkx s x.k = s.st; omega, a⟩
      show (tkh s x).length = _
      unfold tkh
      rw [if_neg e, if_pos (by omega)]
      simp
  · show (tkh s x).length ≠ _
    unfold tkh
    split
    · simp
    · omega
  · have h4 := t4 h
    rcases tk_cases hI x.k with ⟨h1, _⟩ | ⟨_, h2, h3⟩
    · omega
    · exact ⟨by omega, by show tkx s x.k = 6; omega⟩
theorem hq_next {s : Ft} (hI : Inv s) : s.st = 6 → nxW s = 0 ∧ (nxT s).st = 6 := by
  intro h
  have hb : nxB s = false := by simp [nxB, hI.cl h]
  unfold nxW nxT
  rw [hb]
  exact ⟨rfl, h⟩
theorem nxB_eq (s : Ft) : nxB s = (decide (0 < s.hl.length) && (s.st != 2 && s.st != 4)) := by
  unfold nxB
  cases h : s.hl with
  | nil => rfl
  | cons a l => simp [bne]
theorem hq_call {s : Ft} (m : Int) (hm : m = 0 ∨ m = 1 ∨ m = 2 ∨ m = 3) : s.st = 6 → (goT m s).st = 6 := by
  intro h
  have hb : goB m s.st = false := by rw [h]; rcases hm with rfl | rfl | rfl | rfl <;> decide
  unfold goT
  rw [hb]
  exact h

/-- The front at g, while a step of the law's is worked off: the step lies at q; what is none of its own is as it was. -/
structure HQ (w3 w : World) (A : Nat → Prop) (g q : Nat) (t : Ft) (kd k : Int) (d : ByteArray) : Prop where
  fin : FIn w (fun j => A j ∨ j = q) g t
  keep : Keep A w3 w
  st : w.heap[q]? = some (.cells #[.int .i64 kd, .int .i64 k, .string d] 33 (0, 0))
section
variable {w3 w w' : World} {A : Nat → Prop} {g q : Nat} {t : Ft} {kd k : Int} {d : ByteArray}
theorem HQ.below (h : HQ w3 w A g q t kd k d) (hb : Below w.heap.size w w') : HQ w3 w' A g q t kd k d :=
  ⟨h.fin.below hb, h.keep.trans (keep_below hb), (hb.block q (lt_of_heap h.st)).trans h.st⟩
theorem HQ.step (h : HQ w3 w A g q t kd k d) {t' : Ft} (hf : FIn w' (fun j => A j ∨ j = q) g t') (hk : Keep (fun j => A j ∨ j = q) w w') : HQ w3 w' A g q t' kd k d :=
  ⟨hf, h.keep.trans (hk.mono fun _ _ e => .inl e), (hk.block q (lt_of_heap h.st) (.inr rfl)).trans h.st⟩
end

set_option maxHeartbeats 8000000 in
set_option maxRecDepth 100000 in
theorem held_walk (a : Option Addr) (len cap : Nat) (ss : List Stp) (w : World) (hs : StepsAt w a len cap ss) (hn : Tabs w) :
    Calls Tryd.prog 6 #[.slice a len cap] w fun e w' => e = .returned (.bool true) ∧ Below w.heap.size w w' := by
  obtain ⟨n, hmin⟩ : ∃ n, min len 100 = n := ⟨_, rfl⟩
  have HS := Hid.mk' hs
  have HT := Hid.mk' hn
  have hlv := lives_any w hn
  have hlen := hs.hlen
  have HM : Hid ((trs (ss.take n)).length = n) := by
    show _ = _
    rw [trs_length, List.length_take]
    omega
  clear hs hn hlen
  go_enter Tryd.func6, Tryd.ntmps6
  go_wp2_with fail
  refine hlv.mono ?_
  rintro e w1 ⟨rfl, hb1⟩
  have HB1 := Hid.mk' hb1
  have hnew := new_any w1 (HT.out.below hb1)
  clear hb1 hlv HT
  go_wp2_with fail
  refine hnew.mono ?_
  rintro e w2 ⟨rfl, hf2, hb2, -⟩
  have HB2 : Hid (Below w.heap.size w w2) := HB1.out.trans (hb2.mono HB1.out.size)
  have HF2 := Hid.mk' hf2
  have hea := early_own a len cap n ss w2 ((HS.out.below HB1.out).below hb2) hmin
  have HG0 : Hid (w.heap.size ≤ w1.heap.size) := HB1.out.size
  clear hf2 hb2 hnew HS HB1
  generalize w1.heap.size = g at *
  go_wp2_with fail
  refine hea.mono ?_
  rintro e w3 ⟨v, rfl, ho3, hb3⟩
  have hf3 := HF2.out.belowN hb3
  obtain ⟨av, cv, rfl, hnc, hcm, hrd⟩ := own_steps ho3 HM.out
  unfold maxLen at hcm
  have HRD := Hid.mk' hrd
  have HB3 : Hid (Below w.heap.size w w3) := HB2.out.trans (hb3.mono HB2.out.size)
  have HA : Hid (∀ j, w2.heap.size ≤ j ∧ j < w3.heap.size → (fun k => k < g ∨ w2.heap.size ≤ k ∧ k < w3.heap.size) j) := fun j hj => .inr hj
  have HA0 : Hid (∀ j, j < g → (fun k => k < g ∨ w2.heap.size ≤ k ∧ k < w3.heap.size) j) := fun j hj => .inl hj
  generalize (fun k => k < g ∨ w2.heap.size ≤ k ∧ k < w3.heap.size) = A at *
  have HF3 : Hid (FIn w3 A g n0) := hf3
  generalize w2.heap.size = z2 at *
  clear hb3 hea HB2 HF2 ho3 hrd hf3
  generalize trs (ss.take n) = ts at *
  go_wp2
  go_loopw [5, 4] (fun v5 v4 wr => ∃ (i : Nat) (s : Ft), v5 = .int .i64 i ∧ v4 = .bool (s.st == 6) ∧ i ≤ n ∧ Hid (Inv s) ∧ Hid (FIn wr A g s) ∧ Hid (Keep A w3 wr)) (fun v5 _ _ => n - (intOf v5).toNat)
  case atStart => exact ⟨0, n0, rfl, rfl, Nat.zero_le _, inv0, HF3, Keep.refl _ _⟩
  case round =>
    clear HF3
    obtain ⟨i, s, rfl, rfl, hi1, HI, HF, HK⟩ := hrel
    by_cases hc : i < n
    · obtain ⟨gs, rfl, hz, hlt, x0, x1, x2⟩ := HRD.out i hc
      obtain ⟨⟨kd, k, d⟩, hst⟩ : ∃ q, ts.getD i s0 = q := ⟨_, rfl⟩
      rw [hst] at x0 x1 x2
      dsimp only at x0 x1 x2
      have x0 := HK.out.cell x0 (HA.out gs ⟨hz, hlt⟩)
      have x1 := HK.out.cell x1 (HA.out gs ⟨hz, hlt⟩)
      have x2 := HK.out.cell x2 (HA.out gs ⟨hz, hlt⟩)
      clear hst hz hlt
      have hb5 : Below wr.heap.size wr (wr.alloc (.cells #[.int .i64 kd, .int .i64 k, .string d] 33)) := (Below.refl _ wr).alloc (Nat.le_refl _) _
      have g5 := heap_alloc_new wr (.cells #[.int .i64 kd, .int .i64 k, .string d] 33)
      have hPQ : HQ w3 (wr.alloc (.cells #[.int .i64 kd, .int .i64 k, .string d] 33)) A g wr.heap.size s kd k d := by
        have hag := HF.out.guard
        refine ⟨HF.out.keep (keep_below hb5) (fun j hj => ?_) (fun j hj => ?_) (.inl HF.out.a1) (.inl HF.out.a2), HK.out.trans (keep_below hb5), g5⟩
        · rcases hj with hj | rfl
          · exact .inl hj
          · exact .inr (Nat.le_refl _)
        · rcases hj with hj | rfl
          · exact Nat.lt_of_lt_of_le (hag j hj) hb5.size
          · simp only [World.size_alloc]; omega
      have HPQ := Hid.mk' hPQ
      have HA12 : Hid (A 1 ∧ A 2) := ⟨HF.out.a1, HF.out.a2⟩
      obtain ⟨c0, c1, c2, -⟩ := blk3 g5
      clear hb5 g5 HF HK hPQ
      go_upto_region 10 with fail
      generalize wr.alloc (.cells #[.int .i64 kd, .int .i64 k, .string d] 33) = w5 at *
      generalize wr.heap.size = q at *
      obtain ⟨S, hS⟩ : ∃ S, s.st = S := ⟨_, rfl⟩
      obtain ⟨m, hm⟩ : ∃ m, s.hl.length = m := ⟨_, rfl⟩
      have hsw := state_n HPQ.out.fin S hS
      have hhw := held_w HPQ.out.fin m hm
      have hm4 : m ≤ 4 := by have := HI.out.le; omega
      have HSS := Hid.mk' hS
      have HMM := Hid.mk' hm
      rw [hS]
      clear hS hm
      go_upto_block 2 with (first
        | (go_at_call 19; refine hsw.mono ?_; rintro e w' ⟨rfl, hw'⟩; subst w')
        | (go_at_call 20; refine hhw.mono ?_; rintro e w' ⟨rfl, hw'⟩; subst w')
        | (go_at_call 12; refine (kind_any _ _ _ _).mono ?_; rintro e w6 ⟨rfl, hb6⟩))
      have HPQ6 := Hid.mk' (HPQ.out.below hb6)
      clear HPQ hb6 c0 c1 c2 x0 x1 x2 hsw hhw
      obtain ⟨kk, hkk⟩ : ∃ kk, kindI kd = kk := ⟨_, rfl⟩
      have HKK : Hid (kk = 0 ∨ kk = 1 ∨ kk = 2 ∨ kk = 3 ∨ kk = 4 ∨ kk = 5) := by
        have := kindI_of kd
        rw [hkk] at this
        exact this
      have HKD : Hid (∀ w' : World, Calls Tryd.prog 12 #[.agg #[.int .i64 kd, .int .i64 k, .string d]] w' fun e w'' => e = .returned (.int .i64 kk) ∧ Below w'.heap.size w' w'') := fun w' => by rw [← hkk]; exact kind_any _ _ _ _
      rw [hkk]
      clear hkk
      go_cut [9, 10, 11, 12] from 18 to 114 (fun v9 _ _ _ wx => ∃ (t : Ft) (W : Int), v9 = .int .i64 W ∧ Inv t ∧ (S = 6 → W = 0 ∧ t.st = 6) ∧ HQ w3 wx A g q t kd k d)
      case first =>
        obtain ⟨y0, y1, y2, -⟩ := blk3 HPQ6.out.st
        have hk2 := HKK.out
        by_cases h0 : kk = 0
        · subst h0
          have HTK := Hid.mk' (take_w HPQ6.out.fin HI.out k d)
          have hq := hq_take HI.out ⟨k, d⟩
          have HIT := Hid.mk' (inv_tk HI.out ⟨k, d⟩)
          rw [HSS.out, HMM.out] at hq
          clear hk2 HKK HKD
          dsimp only at hq
          generalize tk s ⟨k, d⟩ = T at *
          generalize tkw s k = W at *
          obtain ⟨q1, q2, q3⟩ := hq
          have HQ3 := Hid.mk' q3
          obtain ⟨N, hN⟩ : ∃ N, T.hl.length = N := ⟨_, rfl⟩
          obtain ⟨X, hX⟩ : ∃ X, T.st = X := ⟨_, rfl⟩
          rw [hN, hX] at q1
          rw [hN] at q2
          have HN := Hid.mk' hN
          have HX := Hid.mk' hX
          clear q3 hN hX
          by_cases hW : W = 3
          · obtain ⟨a1, a2, a3⟩ := q1 hW
            subst hW
            subst a2
            have hNe : ((N : Int) == (m : Int) + 1) = true := by simp; omega
            clear q1 q2 a1
            go_wp2_with fail
            refine HTK.out.mono ?_
            rintro e w7 ⟨rfl, hf, hk⟩
            have HPQ7 := Hid.mk' (HPQ6.out.step hf hk)
            have hst := state_n hf X HX.out
            have hhd := held_w hf N HN.out
            clear hf hk HTK HPQ6 y0 y1 y2
            rcases a3 with rfl | rfl
            all_goals
              go_wp2_with (first
                | (go_at_call 19; refine hst.mono ?_; rintro e w' ⟨rfl, hw'⟩; subst w')
                | (go_at_call 20; refine hhd.mono ?_; rintro e w' ⟨rfl, hw'⟩; subst w'))
              go_meet
              exact ⟨T, 3, rfl, HIT.out, HQ3.out, HPQ7.out⟩
          · have hne := q2 hW
            have hNe : ((N : Int) == (m : Int) + 1) = false := by simp; omega
            have hb3 : (W == 3) = false := beq_eq_false_iff_ne.2 hW
            clear q1 q2 hne hW
            go_wp2_with fail
            refine HTK.out.mono ?_
            rintro e w7 ⟨rfl, hf, hk⟩
            have HPQ7 := Hid.mk' (HPQ6.out.step hf hk)
            have hhd := held_w hf N HN.out
            clear hf hk HTK HPQ6 y0 y1 y2
            go_wp2_with (first
              | (go_at_call 20; refine hhd.mono ?_; rintro e w' ⟨rfl, hw'⟩; subst w'))
            go_meet
            exact ⟨T, W, rfl, HIT.out, HQ3.out, HPQ7.out⟩
        by_cases h1 : kk = 1
        · subst h1
          have HNX := Hid.mk' (next_w HPQ6.out.fin HI.out)
          have hbb := nxB_eq s
          have hq := hq_next HI.out
          rw [HSS.out] at hq
          rw [HSS.out, HMM.out] at hbb
          have HQ3 := Hid.mk' hq
          have HIT := Hid.mk' (inv_nxT HI.out)
          clear hk2 HKK HKD y0 y1 y2 h0 hq
          generalize nxF s = F at *
          generalize nxW s = W at *
          generalize nxB s = b at *
          generalize nxT s = T at *
          obtain ⟨fk, fs⟩ := F
          dsimp only at *
          go_wp2_with fail
          refine HNX.out.mono ?_
          rintro e w7 ⟨rfl, hf, hk⟩
          have HPQ7 := Hid.mk' (HPQ6.out.step hf hk)
          clear hf hk HNX HPQ6
          go_upto_region 20 with fail
          have hb8 : Below w7.heap.size w7 (w7.alloc (.cells #[.int .i64 fk, .string fs] 31)) := (Below.refl _ w7).alloc (Nat.le_refl _) _
          have HPQ8 := Hid.mk' (HPQ7.out.below hb8)
          clear hb8 HPQ7
          generalize w7.alloc (.cells #[.int .i64 fk, .string fs] 31) = w8 at *
          have h4 : (b = false ∧ (m = 0 ∨ (0 : Int) < (m : Int) ∧ (S = 2 ∨ S = 4))) ∨ (b = true ∧ (0 : Int) < (m : Int) ∧ (S != 2) = true ∧ (S != 4) = true) := by
            by_cases e0 : m = 0
            · left
              subst e0
              exact ⟨by simpa using hbb, .inl rfl⟩
            · have hp : (0 : Int) < (m : Int) := by omega
              have hd : decide (0 < m) = true := by simp; omega
              rw [hd] at hbb
              by_cases e2 : S = 2
              · left
                subst e2
                exact ⟨by simpa using hbb, .inr ⟨hp, .inl rfl⟩⟩
              · by_cases e4 : S = 4
                · left
                  subst e4
                  exact ⟨by simpa using hbb, .inr ⟨hp, .inr rfl⟩⟩
                · right
                  exact ⟨by rw [hbb]; simp [bne, beq_eq_false_iff_ne.2 e2, beq_eq_false_iff_ne.2 e4], hp, by simpa using e2, by simpa using e4⟩
          clear hbb
          rcases h4 with ⟨rfl, rfl | ⟨h4, rfl | rfl⟩⟩ | ⟨rfl, h4, h5, h6⟩
          · go_wp2_with fail
            go_meet
            exact ⟨T, W, rfl, HIT.out, HQ3.out, HPQ8.out⟩
          · go_wp2_with fail
            go_meet
            exact ⟨T, W, rfl, HIT.out, HQ3.out, HPQ8.out⟩
          · go_wp2_with fail
            go_meet
            exact ⟨T, W, rfl, HIT.out, HQ3.out, HPQ8.out⟩
          · go_wp2_with fail
            go_meet
            exact ⟨T, W, rfl, HIT.out, HQ3.out, HPQ8.out⟩
        have h2 : kk = 2 ∨ kk = 3 ∨ kk = 4 ∨ kk = 5 := by omega
        clear hk2 HKK h0 h1
        have HCL : Hid (∀ (m : Int) (w' : World), FIn w' (fun j => A j ∨ j = q) g s → Calls Tryd.prog 18 #[.pointer (some ⟨g, 0, none⟩), .int .i64 m] w' fun e w'' => e = .returned (.bool (goB m s.st)) ∧ FIn w'' (fun j => A j ∨ j = q) g (goT m s) ∧ Keep (fun j => A j ∨ j = q) w' w'') := fun m w' h => call_w h HI.out m
        have HIG : Hid (∀ m, Inv (goT m s)) := fun m => inv_goT HI.out
        have HPC : Hid (∀ (m : Int), (m = 0 ∨ m = 1 ∨ m = 2 ∨ m = 3) → S = 6 → (goT m s).st = 6) := fun m hm h => hq_call m hm (by rw [HSS.out]; exact h)
        rcases h2 with rfl | rfl | rfl | rfl
        · go_wp2_with fail
          refine (HKD.out _).mono ?_
          rintro e w7 ⟨rfl, hb7⟩
          have HPQ7 := Hid.mk' (HPQ6.out.below hb7)
          clear hb7 HPQ6 y0 y1 y2
          go_wp2_with fail
          refine (HCL.out 0 _ HPQ7.out.fin).mono ?_
          rintro e w8 ⟨rfl, hf, hk⟩
          have HPQ8 := Hid.mk' (HPQ7.out.step hf hk)
          clear hf hk HPQ7 HCL
          go_wp2_with fail
          go_meet
          exact ⟨goT 0 s, 0, rfl, HIG.out 0, fun h => ⟨rfl, HPC.out 0 (by decide) h⟩, HPQ8.out⟩
        · go_wp2_with fail
          refine (HKD.out _).mono ?_
          rintro e w7 ⟨rfl, hb7⟩
          have HPQ7 := Hid.mk' (HPQ6.out.below hb7)
          clear hb7 HPQ6 y0 y1 y2
          go_wp2_with fail
          refine (HCL.out 1 _ HPQ7.out.fin).mono ?_
          rintro e w8 ⟨rfl, hf, hk⟩
          have HPQ8 := Hid.mk' (HPQ7.out.step hf hk)
          clear hf hk HPQ7 HCL
          go_wp2_with fail
          go_meet
          exact ⟨goT 1 s, 0, rfl, HIG.out 1, fun h => ⟨rfl, HPC.out 1 (by decide) h⟩, HPQ8.out⟩
        · go_wp2_with fail
          refine (HKD.out _).mono ?_
          rintro e w7 ⟨rfl, hb7⟩
          have HPQ7 := Hid.mk' (HPQ6.out.below hb7)
          clear hb7 HPQ6 y0 y1 y2
          go_wp2_with fail
          refine (HCL.out 2 _ HPQ7.out.fin).mono ?_
          rintro e w8 ⟨rfl, hf, hk⟩
          have HPQ8 := Hid.mk' (HPQ7.out.step hf hk)
          clear hf hk HPQ7 HCL
          go_wp2_with fail
          go_meet
          exact ⟨goT 2 s, 0, rfl, HIG.out 2, fun h => ⟨rfl, HPC.out 2 (by decide) h⟩, HPQ8.out⟩
        · go_wp2_with fail
          refine (HKD.out _).mono ?_
          rintro e w7 ⟨rfl, hb7⟩
          have HPQ7 := Hid.mk' (HPQ6.out.below hb7)
          clear hb7 HPQ6 y0 y1 y2
          go_wp2_with fail
          refine (HCL.out 3 _ HPQ7.out.fin).mono ?_
          rintro e w8 ⟨rfl, hf, hk⟩
          have HPQ8 := Hid.mk' (HPQ7.out.step hf hk)
          clear hf hk HPQ7 HCL
          go_wp2_with fail
          go_meet
          exact ⟨goT 3 s, 0, rfl, HIG.out 3, fun h => ⟨rfl, HPC.out 3 (by decide) h⟩, HPQ8.out⟩
      case rest =>
        clear HPQ6 HKD HKK HI
        obtain ⟨t, W, rfl, hIt, hP, hQ⟩ := hcut
        have HIT := Hid.mk' hIt
        have HFN : Hid (FIn wc A g t) := hQ.fin.fewer (fun _ h => .inl h) HA12.out.1 HA12.out.2
        have HKN := Hid.mk' hQ.keep
        obtain ⟨X, hX⟩ : ∃ X, t.st = X := ⟨_, rfl⟩
        obtain ⟨N, hN⟩ : ∃ N, t.hl.length = N := ⟨_, rfl⟩
        have hst := state_n hQ.fin X hX
        have hhd := held_w hQ.fin N hN
        have hN4 : N ≤ 4 := by have := hIt.le; omega
        have hN4' : (N : Int) ≤ 4 := by omega
        have HX := Hid.mk' hX
        rw [hX] at hP
        by_cases h6 : S = 6
        · obtain ⟨rfl, rfl⟩ := hP h6
          have hN0 : N = 0 := by rw [← hN, hIt.cl hX]; rfl
          subst h6
          subst hN0
          clear hIt hQ hX hP hN
          go_wp2_with (first
            | (go_at_call 19; refine hst.mono ?_; rintro e w' ⟨rfl, hw'⟩; subst w')
            | (go_at_call 20; refine hhd.mono ?_; rintro e w' ⟨rfl, hw'⟩; subst w'))
          exact ⟨⟨i + 1, t, by simp, by rw [HX.out]; rfl, by omega, HIT, HFN, HKN⟩, by simp [intOf]; omega⟩
        · have b6 : (S == 6) = false := beq_eq_false_iff_ne.2 h6
          clear hIt hQ hX hP hN
          go_wp2_with (first
            | (go_at_call 19; refine hst.mono ?_; rintro e w' ⟨rfl, hw'⟩; subst w')
            | (go_at_call 20; refine hhd.mono ?_; rintro e w' ⟨rfl, hw'⟩; subst w'))
          exact ⟨⟨i + 1, t, by simp, by rw [HX.out], by omega, HIT, HFN, HKN⟩, by simp [intOf]; omega⟩
    · obtain rfl : n = i := by omega
      go_wp2
      go_ret
      exact ⟨rfl, HB3.out.trans (HK.out.below HB3.out.size (fun j hj => HA0.out j (by have := HG0.out; omega)))⟩

end Go.Proofs.YtegjaoaoiojhfaaDoor
