/-
  FrontPasses's walk: what is passed on lies between Bound and the Commit or Rollback behind it. Conditions: the steps lie where they are said to lie; the tables read as they are laid.
-/
import Derived.Test.YtegjaoaoiojhfaaDoorPassesP
import Derived.Deep.CutBlock
namespace Go.Proofs.YtegjaoaoiojhfaaDoor
open Go.ChangeShapes Go.WideShapes Go.ChangeAt Go.RowKit

/-- The front at g, while a step of the law's is worked off: the step lies at q, its frame at p; what is none of its own is as it was. -/
structure PQ (w3 w : World) (A : Nat → Prop) (g q p : Nat) (t : Ft) (kd k : Int) (d : ByteArray) (kx : Int) : Prop where
  fin : FIn w (fun j => A j ∨ j = q ∨ j = p) g t
  keep : Keep A w3 w
  st : w.heap[q]? = some (.cells #[.int .i64 kd, .int .i64 k, .string d] 33 (0, 0))
  fr : ∃ u, w.heap[p]? = some (.cells #[.int .i64 kx, u] 31 (0, 0))
  ap : ¬ A p
  q1 : q ≠ 1
  q2 : q ≠ 2
  p1 : p ≠ 1
  p2 : p ≠ 2
  qp : q ≠ p
section
variable {w3 w w' : World} {A : Nat → Prop} {g q p : Nat} {t : Ft} {kd k kx : Int} {d : ByteArray}
theorem PQ.below (h : PQ w3 w A g q p t kd k d kx) (hb : Below w.heap.size w w') : PQ w3 w' A g q p t kd k d kx :=
  ⟨h.fin.below hb, h.keep.trans (keep_below hb), (hb.block q (lt_of_heap h.st)).trans h.st, by obtain ⟨u, hu⟩ := h.fr; exact ⟨u, (hb.block p (lt_of_heap hu)).trans hu⟩, h.ap, h.q1, h.q2, h.p1, h.p2, h.qp⟩
theorem PQ.step (h : PQ w3 w A g q p t kd k d kx) {t' : Ft} (hf : FIn w' (fun j => A j ∨ j = q ∨ j = p) g t') (hk : Keep (fun j => A j ∨ j = q ∨ j = p) w w') : PQ w3 w' A g q p t' kd k d kx :=
  ⟨hf, h.keep.trans (hk.mono fun _ _ e => .inl e), (hk.block q (lt_of_heap h.st) (.inr (.inl rfl))).trans h.st, by obtain ⟨u, hu⟩ := h.fr; exact ⟨u, (hk.block p (lt_of_heap hu) (.inr (.inr rfl))).trans hu⟩, h.ap, h.q1, h.q2, h.p1, h.p2, h.qp⟩
theorem PQ.poke (h : PQ w3 w A g q p t kd k d kx) (k' : Int) (v : Value) : PQ w3 ((w.setCell ⟨p, 0, none⟩ (.int .i64 k')).setCell ⟨p, 1, none⟩ v) A g q p t kd k d k' := by
  obtain ⟨u, hu⟩ := h.fr
  obtain ⟨f, hk⟩ := h.fin.poke (q := p) (.inr (.inr rfl)) h.p1 h.p2 (.int .i64 k') v
  exact ⟨f, h.keep.trans (hk _ h.ap), ((hk (fun j => j ≠ p) (fun e => e rfl)).block q (lt_of_heap h.st) h.qp).trans h.st, ⟨v, (put2 hu _ _).1⟩, h.ap, h.q1, h.q2, h.p1, h.p2, h.qp⟩
end

set_option maxHeartbeats 8000000 in
set_option maxRecDepth 100000 in
theorem passes_walk (a : Option Addr) (len cap : Nat) (ss : List Stp) (w : World) (hs : StepsAt w a len cap ss) (hn : Tabs w) :
    Calls Tryd.prog 5 #[.slice a len cap] w fun e w' => e = .returned (.bool true) ∧ Below w.heap.size w w' := by
  obtain ⟨n, hmin⟩ : ∃ n, min len 100 = n := ⟨_, rfl⟩
  have HS := Hid.mk' hs
  have HT := Hid.mk' hn
  have hlv := lives_any w hn
  have hlen := hs.hlen
  have HM : Hid ((trs (ss.take n)).length = n) := by
    show _ = _
    rw [trs_length, List.length_take]
    omega
  clear hs hn hlen
  go_enter Tryd.func5, Tryd.ntmps5
  go_wp2_with fail
  refine hlv.mono ?_
  rintro e w1 ⟨rfl, hb1⟩
  have HB1 := Hid.mk' hb1
  have hnew := new_any w1 (HT.out.below hb1)
  clear hb1 hlv HT
  go_wp2_with fail
  refine hnew.mono ?_
  rintro e w2 ⟨rfl, hf2, hb2, -⟩
  have HB2 : Hid (Below w.heap.size w w2) := HB1.out.trans (hb2.mono HB1.out.size)
  have HF2 := Hid.mk' hf2
  have hea := early_own a len cap n ss w2 ((HS.out.below HB1.out).below hb2) hmin
  have HG0 : Hid (w.heap.size ≤ w1.heap.size) := HB1.out.size
  clear hf2 hb2 hnew HS HB1
  generalize w1.heap.size = g at *
  go_wp2_with fail
  refine hea.mono ?_
  rintro e w3 ⟨v, rfl, ho3, hb3⟩
  have hf3 := HF2.out.belowN hb3
  obtain ⟨av, cv, rfl, hnc, hcm, hrd⟩ := own_steps ho3 HM.out
  unfold maxLen at hcm
  have HRD := Hid.mk' hrd
  have HB3 : Hid (Below w.heap.size w w3) := HB2.out.trans (hb3.mono HB2.out.size)
  have HA : Hid (∀ j, w2.heap.size ≤ j ∧ j < w3.heap.size → (fun k => k < g ∨ w2.heap.size ≤ k ∧ k < w3.heap.size) j) := fun j hj => .inr hj
  have HA0 : Hid (∀ j, j < g → (fun k => k < g ∨ w2.heap.size ≤ k ∧ k < w3.heap.size) j) := fun j hj => .inl hj
  generalize (fun k => k < g ∨ w2.heap.size ≤ k ∧ k < w3.heap.size) = A at *
  have HF3 : Hid (FIn w3 A g n0) := hf3
  generalize w2.heap.size = z2 at *
  clear hb3 hea HB2 HF2 ho3 hrd hf3
  generalize trs (ss.take n) = ts at *
  go_wp2
  go_loopw [5, 4] (fun v5 v4 wr => ∃ (i : Nat) (s : Ft), v5 = .int .i64 i ∧ v4 = .bool (s.st == 3) ∧ i ≤ n ∧ Hid (Inv s) ∧ Hid (FIn wr A g s) ∧ Hid (Keep A w3 wr)) (fun v5 _ _ => n - (intOf v5).toNat)
  case atStart => exact ⟨0, n0, rfl, rfl, Nat.zero_le _, inv0, HF3, Keep.refl _ _⟩
  case round =>
    clear HF3
    obtain ⟨i, s, rfl, rfl, hi1, HI, HF, HK⟩ := hrel
    by_cases hc : i < n
    · obtain ⟨gs, rfl, hz, hlt, x0, x1, x2⟩ := HRD.out i hc
      obtain ⟨⟨kd, k, d⟩, hst⟩ : ∃ q, ts.getD i s0 = q := ⟨_, rfl⟩
      rw [hst] at x0 x1 x2
      dsimp only at x0 x1 x2
      have x0 := HK.out.cell x0 (HA.out gs ⟨hz, hlt⟩)
      have x1 := HK.out.cell x1 (HA.out gs ⟨hz, hlt⟩)
      have x2 := HK.out.cell x2 (HA.out gs ⟨hz, hlt⟩)
      clear hst hz hlt
      obtain ⟨hb5, g5, g6⟩ := two_boxes wr kd k d
      have hPQ : PQ w3 ((wr.alloc (.cells #[.int .i64 kd, .int .i64 k, .string d] 33)).alloc (.cells #[.int .i64 k, .string d] 31)) A g wr.heap.size (wr.heap.size + 1) s kd k d k := by
        have hpos := HF.out.tabs.pos
        have hag := HF.out.guard
        refine ⟨HF.out.keep (keep_below hb5) (fun j hj => ?_) (fun j hj => ?_) (.inl HF.out.a1) (.inl HF.out.a2), HK.out.trans (keep_below hb5), g5, ⟨_, g6⟩, fun e => ?_, by omega, by omega, by omega, by omega, by omega⟩
        · rcases hj with hj | rfl | rfl
          · exact .inl hj
          · exact .inr (Nat.le_refl _)
          · exact .inr (by omega)
        · rcases hj with hj | rfl | rfl
          · exact Nat.lt_of_lt_of_le (hag j hj) hb5.size
          · simp only [World.size_alloc]; omega
          · simp only [World.size_alloc]; omega
        · have := hag _ e
          omega
      have HPQ := Hid.mk' hPQ
      have HA12 : Hid (A 1 ∧ A 2) := ⟨HF.out.a1, HF.out.a2⟩
      obtain ⟨c0, c1, c2, -⟩ := blk3 g5
      clear hb5 g5 g6 HF HK hPQ
      go_upto_region 11 with fail
      generalize (wr.alloc (.cells #[.int .i64 kd, .int .i64 k, .string d] 33)).alloc (.cells #[.int .i64 k, .string d] 31) = w5 at *
      generalize wr.heap.size + 1 = p at *
      generalize wr.heap.size = q at *
      go_upto_block 2 with (go_at_call 12; refine (kind_any _ _ _ _).mono ?_; rintro e w6 ⟨rfl, hb6⟩)
      have HPQ6 := Hid.mk' (HPQ.out.below hb6)
      clear HPQ hb6 c0 c1 c2 x0 x1 x2
      obtain ⟨kk, hkk⟩ : ∃ kk, kindI kd = kk := ⟨_, rfl⟩
      have HKK : Hid (kk = 0 ∨ kk = 1 ∨ kk = 2 ∨ kk = 3 ∨ kk = 4 ∨ kk = 5) := by
        have := kindI_of kd
        rw [hkk] at this
        exact this
      have HKD : Hid (∀ w' : World, Calls Tryd.prog 12 #[.agg #[.int .i64 kd, .int .i64 k, .string d]] w' fun e w'' => e = .returned (.int .i64 kk) ∧ Below w'.heap.size w' w'') := fun w' => by rw [← hkk]; exact kind_any _ _ _ _
      rw [hkk]
      clear hkk
      go_cut [4, 8, 9, 10, 11] from 17 to 99 (fun v4 v8 _ _ _ wx => ∃ (t : Ft) (o : Bool) (W kx : Int), v4 = .bool o ∧ v8 = .int .i64 W ∧ Inv t ∧ Pq o kx W t.st ∧ PQ w3 wx A g q p t kd k d kx)
      case first =>
        obtain ⟨y0, y1, y2, -⟩ := blk3 HPQ6.out.st
        have hk2 := HKK.out
        by_cases h0 : kk = 0
        · subst h0
          have HTK := Hid.mk' (take_w HPQ6.out.fin HI.out k d)
          have HPT := Hid.mk' (pq_take HI.out k)
          have HIT := Hid.mk' (inv_tk HI.out ⟨k, d⟩)
          clear hk2 HKK HKD
          go_wp2_with fail
          refine HTK.out.mono ?_
          rintro e w7 ⟨rfl, hf, hk⟩
          have HPQ7 := Hid.mk' (HPQ6.out.step hf hk)
          clear hf hk HTK HPQ6 y0 y1 y2
          go_wp2_with fail
          go_meet
          exact ⟨_, _, _, _, rfl, rfl, HIT.out, HPT.out, HPQ7.out⟩
        by_cases h1 : kk = 1
        · subst h1
          have HNX := Hid.mk' (next_w HPQ6.out.fin HI.out)
          have HPT := Hid.mk' (pq_next HI.out)
          have HIT := Hid.mk' (inv_nxT HI.out)
          have HNW : Hid (nxB s = false → nxW s = 0) := nxW_no
          clear hk2 HKK HKD y0 y1 y2 h0
          generalize nxF s = F at *
          generalize nxW s = W at *
          generalize nxB s = b at *
          generalize nxT s = t at *
          obtain ⟨fk, fs⟩ := F
          dsimp only at *
          go_wp2_with fail
          refine HNX.out.mono ?_
          rintro e w7 ⟨rfl, hf, hk⟩
          have HPQ7 := Hid.mk' (HPQ6.out.step hf hk)
          clear hf hk HNX HPQ6
          go_upto_region 18 with fail
          have hb8 : Below w7.heap.size w7 (w7.alloc (.cells #[.int .i64 fk, .string fs] 31)) := (Below.refl _ w7).alloc (Nat.le_refl _) _
          obtain ⟨z0, z1, -⟩ := blk2 (heap_alloc_new w7 (.cells #[.int .i64 fk, .string fs] 31))
          have HPQ8 := Hid.mk' (HPQ7.out.below hb8)
          clear hb8 HPQ7
          generalize w7.alloc (.cells #[.int .i64 fk, .string fs] 31) = w8 at *
          obtain ⟨u, hu⟩ := HPQ8.out.fr
          obtain ⟨c0, c1, -⟩ := blk2 hu
          have e0 := fz2 hu 0
          have e1 := fz2 hu 1
          have HPQ9 := Hid.mk' (HPQ8.out.poke fk (.string fs))
          clear hu HPQ8
          cases b with
          | false =>
            obtain rfl := HNW.out rfl
            go_wp2_with fail
            go_meet
            exact ⟨_, _, _, _, rfl, rfl, HIT.out, HPT.out, HPQ9.out⟩
          | true =>
            go_wp2_with fail
            go_meet
            exact ⟨_, _, _, _, rfl, rfl, HIT.out, HPT.out, HPQ9.out⟩
        have h2 : kk = 2 ∨ kk = 3 ∨ kk = 4 ∨ kk = 5 := by omega
        clear hk2 HKK h0 h1
        have HCL : Hid (∀ (m : Int) (w' : World), FIn w' (fun j => A j ∨ j = q ∨ j = p) g s → Calls Tryd.prog 18 #[.pointer (some ⟨g, 0, none⟩), .int .i64 m] w' fun e w'' => e = .returned (.bool (goB m s.st)) ∧ FIn w'' (fun j => A j ∨ j = q ∨ j = p) g (goT m s) ∧ Keep (fun j => A j ∨ j = q ∨ j = p) w' w'') := fun m w' h => call_w h HI.out m
        have HIG : Hid (∀ m, Inv (goT m s)) := fun m => inv_goT HI.out
        have HPC : Hid (∀ (m : Int) (o : Bool), (m = 0 ∨ m = 1 ∨ m = 2 ∨ m = 3) → o = (if goB m s.st = true then (m == 0) else (s.st == 3)) → Pq o k 0 (goT m s).st) := fun m o hm ho => pq_call m k o hm ho
        rcases h2 with rfl | rfl | rfl | rfl
        · go_wp2_with fail
          refine (HKD.out _).mono ?_
          rintro e w7 ⟨rfl, hb7⟩
          have HPQ7 := Hid.mk' (HPQ6.out.below hb7)
          clear hb7 HPQ6 y0 y1 y2
          go_wp2_with fail
          refine (HCL.out 0 _ HPQ7.out.fin).mono ?_
          rintro e w8 ⟨rfl, hf, hk⟩
          have HPQ8 := Hid.mk' (HPQ7.out.step hf hk)
          clear hf hk HPQ7 HCL
          cases hb : goB 0 s.st with
          | true =>
            have HPC2 := Hid.mk' (HPC.out 0 true (by decide) (by rw [hb]; rfl))
            obtain ⟨y0, y1, y2, -⟩ := blk3 HPQ8.out.st
            clear hb HPC
            go_wp2_with fail
            refine (HKD.out _).mono ?_
            rintro e w9 ⟨rfl, hb9⟩
            have HPQ9 := Hid.mk' (HPQ8.out.below hb9)
            clear hb9 HPQ8 y0 y1 y2
            go_wp2_with fail
            go_meet
            exact ⟨goT 0 s, true, 0, k, rfl, rfl, HIG.out 0, HPC2.out, HPQ9.out⟩
          | false =>
            have HPC2 := Hid.mk' (HPC.out 0 (s.st == 3) (by decide) (by rw [hb]; rfl))
            clear hb HPC
            go_wp2_with fail
            go_meet
            exact ⟨goT 0 s, s.st == 3, 0, k, rfl, rfl, HIG.out 0, HPC2.out, HPQ8.out⟩
        · go_wp2_with fail
          refine (HKD.out _).mono ?_
          rintro e w7 ⟨rfl, hb7⟩
          have HPQ7 := Hid.mk' (HPQ6.out.below hb7)
          clear hb7 HPQ6 y0 y1 y2
          go_wp2_with fail
          refine (HCL.out 1 _ HPQ7.out.fin).mono ?_
          rintro e w8 ⟨rfl, hf, hk⟩
          have HPQ8 := Hid.mk' (HPQ7.out.step hf hk)
          clear hf hk HPQ7 HCL
          cases hb : goB 1 s.st with
          | true =>
            have HPC2 := Hid.mk' (HPC.out 1 false (by decide) (by rw [hb]; rfl))
            obtain ⟨y0, y1, y2, -⟩ := blk3 HPQ8.out.st
            clear hb HPC
            go_wp2_with fail
            refine (HKD.out _).mono ?_
            rintro e w9 ⟨rfl, hb9⟩
            have HPQ9 := Hid.mk' (HPQ8.out.below hb9)
            clear hb9 HPQ8 y0 y1 y2
            go_wp2_with fail
            go_meet
            exact ⟨goT 1 s, false, 0, k, rfl, rfl, HIG.out 1, HPC2.out, HPQ9.out⟩
          | false =>
            have HPC2 := Hid.mk' (HPC.out 1 (s.st == 3) (by decide) (by rw [hb]; rfl))
            clear hb HPC
            go_wp2_with fail
            go_meet
            exact ⟨goT 1 s, s.st == 3, 0, k, rfl, rfl, HIG.out 1, HPC2.out, HPQ8.out⟩
        · go_wp2_with fail
          refine (HKD.out _).mono ?_
          rintro e w7 ⟨rfl, hb7⟩
          have HPQ7 := Hid.mk' (HPQ6.out.below hb7)
          clear hb7 HPQ6 y0 y1 y2
          go_wp2_with fail
          refine (HCL.out 2 _ HPQ7.out.fin).mono ?_
          rintro e w8 ⟨rfl, hf, hk⟩
          have HPQ8 := Hid.mk' (HPQ7.out.step hf hk)
          clear hf hk HPQ7 HCL
          cases hb : goB 2 s.st with
          | true =>
            have HPC2 := Hid.mk' (HPC.out 2 false (by decide) (by rw [hb]; rfl))
            obtain ⟨y0, y1, y2, -⟩ := blk3 HPQ8.out.st
            clear hb HPC
            go_wp2_with fail
            refine (HKD.out _).mono ?_
            rintro e w9 ⟨rfl, hb9⟩
            have HPQ9 := Hid.mk' (HPQ8.out.below hb9)
            clear hb9 HPQ8 y0 y1 y2
            go_wp2_with fail
            go_meet
            exact ⟨goT 2 s, false, 0, k, rfl, rfl, HIG.out 2, HPC2.out, HPQ9.out⟩
          | false =>
            have HPC2 := Hid.mk' (HPC.out 2 (s.st == 3) (by decide) (by rw [hb]; rfl))
            clear hb HPC
            go_wp2_with fail
            go_meet
            exact ⟨goT 2 s, s.st == 3, 0, k, rfl, rfl, HIG.out 2, HPC2.out, HPQ8.out⟩
        · go_wp2_with fail
          refine (HKD.out _).mono ?_
          rintro e w7 ⟨rfl, hb7⟩
          have HPQ7 := Hid.mk' (HPQ6.out.below hb7)
          clear hb7 HPQ6 y0 y1 y2
          go_wp2_with fail
          refine (HCL.out 3 _ HPQ7.out.fin).mono ?_
          rintro e w8 ⟨rfl, hf, hk⟩
          have HPQ8 := Hid.mk' (HPQ7.out.step hf hk)
          clear hf hk HPQ7 HCL
          cases hb : goB 3 s.st with
          | true =>
            have HPC2 := Hid.mk' (HPC.out 3 false (by decide) (by rw [hb]; rfl))
            obtain ⟨y0, y1, y2, -⟩ := blk3 HPQ8.out.st
            clear hb HPC
            go_wp2_with fail
            refine (HKD.out _).mono ?_
            rintro e w9 ⟨rfl, hb9⟩
            have HPQ9 := Hid.mk' (HPQ8.out.below hb9)
            clear hb9 HPQ8 y0 y1 y2
            go_wp2_with fail
            go_meet
            exact ⟨goT 3 s, false, 0, k, rfl, rfl, HIG.out 3, HPC2.out, HPQ9.out⟩
          | false =>
            have HPC2 := Hid.mk' (HPC.out 3 (s.st == 3) (by decide) (by rw [hb]; rfl))
            clear hb HPC
            go_wp2_with fail
            go_meet
            exact ⟨goT 3 s, s.st == 3, 0, k, rfl, rfl, HIG.out 3, HPC2.out, HPQ8.out⟩
      case rest =>
        clear HPQ6 HKD HKK HI
        obtain ⟨t, o, W, kx, rfl, rfl, hIt, hP, hQ⟩ := hcut
        have HIT := Hid.mk' hIt
        have HFN : Hid (FIn wc A g t) := hQ.fin.fewer (fun _ h => .inl h) HA12.out.1 HA12.out.2
        have HKN := Hid.mk' hQ.keep
        obtain ⟨u, hu⟩ := hQ.fr
        obtain ⟨X, hX⟩ : ∃ X, t.st = X := ⟨_, rfl⟩
        have hst := state_n hQ.fin X hX
        obtain ⟨c0, -, -⟩ := blk2 hu
        rw [hX] at hP
        have HX := Hid.mk' hX
        obtain ⟨p4, p5, pe⟩ := hP
        clear hIt hQ hu hX
        by_cases h4 : W = 4
        · subst h4
          obtain ⟨rfl, k1, k2, k3⟩ := p4 rfl
          clear p4 p5 pe
          go_wp2_with (go_at_call 19; refine hst.mono ?_; rintro e w' ⟨rfl, hw'⟩; subst w')
          exact ⟨⟨i + 1, t, by simp, by rw [HX.out], by omega, HIT, HFN, HKN⟩, by simp [intOf]; omega⟩
        · have b4 : (W == 4) = false := beq_eq_false_iff_ne.2 h4
          clear p4
          by_cases h5 : W = 5 ∨ W = 6 ∨ W = 7 ∨ W = 8
          · obtain rfl := p5 h5
            clear p5 pe
            rcases h5 with rfl | rfl | rfl | rfl
            all_goals
              go_wp2_with (go_at_call 19; refine hst.mono ?_; rintro e w' ⟨rfl, hw'⟩; subst w')
              exact ⟨⟨i + 1, t, by simp, by rw [HX.out]; rfl, by omega, HIT, HFN, HKN⟩, by simp [intOf]; omega⟩
          · obtain rfl := pe (by omega)
            have b5 : (W == 5) = false := beq_eq_false_iff_ne.2 (by omega)
            have b6 : (W == 6) = false := beq_eq_false_iff_ne.2 (by omega)
            have b7 : (W == 7) = false := beq_eq_false_iff_ne.2 (by omega)
            have b8 : (W == 8) = false := beq_eq_false_iff_ne.2 (by omega)
            clear p5 pe h4 h5
            go_wp2_with (go_at_call 19; refine hst.mono ?_; rintro e w' ⟨rfl, hw'⟩; subst w')
            exact ⟨⟨i + 1, t, by simp, by rw [HX.out], by omega, HIT, HFN, HKN⟩, by simp [intOf]; omega⟩
    · obtain rfl : n = i := by omega
      go_wp2
      go_ret
      exact ⟨rfl, HB3.out.trans (HK.out.below HB3.out.size (fun j hj => HA0.out j (by have := HG0.out; omega)))⟩

end Go.Proofs.YtegjaoaoiojhfaaDoor
