/-
  DrainsPlays's walk: what drains answer, and have, in whatever row, is what the document's drains say: it returns true and turns nothing that was there. Conditions: the steps lie where they are said to lie.
-/
import Derived.Test.YthobihlnjcphaaaPlaysP
import Derived.Deep.RegionWith
namespace Go.Proofs.Ythobihlnjcphaaa
open Go.ChangeShapes Go.WideShapes Go.ChangeAt Go.RowKit

set_option maxHeartbeats 8000000 in
set_option maxRecDepth 100000 in
theorem plays_walk (a : Option Addr) (len cap : Nat) (ss : List Stp) (w : World) (hs : StepsAt w a len cap ss) :
    Calls Try.prog 3 #[.slice a len cap] w fun e w' => e = .returned (.bool true) ∧ Below w.heap.size w w' := by
  obtain ⟨n, hn⟩ : ∃ n, min len 80 = n := ⟨_, rfl⟩
  have hn8 : n ≤ 80 := by omega
  have HN := Hid.mk' hn
  have HS0 := Hid.mk' hs
  clear hs hn
  go_enter Try.func3, Try.ntmps3
  go_wp2_with fail
  refine (lives_any _).mono ?_
  rintro e w1 ⟨rfl, hb1⟩
  go_wp2_with fail
  refine (new_any _).mono ?_
  rintro e w2 ⟨rfl, hq2, hb2⟩
  go_upto_region 5 with fail
  have hbb : Below w2.heap.size w2 (w2.alloc (.cells #[.slice none 0 0, .slice none 0 0, .slice none 0 0] 29)) := (Below.refl _ w2).alloc (Nat.le_refl _) _
  have hblk := heap_alloc_new w2 (.cells #[.slice none 0 0, .slice none 0 0, .slice none 0 0] 29)
  generalize w2.alloc (.cells #[.slice none 0 0, .slice none 0 0, .slice none 0 0] 29) = w2b at *
  have hea := early_any a len cap n ss _ (((HS0.out.below hb1).below hb2).below hbb) HN.out
  go_wp2_with fail
  refine hea.mono ?_
  rintro e w3 ⟨a3, c3, rfl, hs3, hnm3, -, ha3, hb3⟩
  have hl3 := hs3.hle
  have hm3 := hs3.hcap
  unfold maxLen at hm3
  have HB : Hid (Below w.heap.size w w3) := below_trans (below_trans (below_trans hb1 hb2) hbb) hb3
  have HNM := Hid.mk' hnm3
  have HMS : Hid (∀ j, j < n → ∀ wr, Keep (fun k => k < w.heap.size) w wr → StrsAt wr ((trs (ss.take n)).getD j s0).ma ((trs (ss.take n)).getD j s0).ml ((trs (ss.take n)).getD j s0).mc ((trs (ss.take n)).getD j s0).ms) := fun j hj wr hk => early_ms HS0.out HN.out hj hk
  have hZ1 := hb1.size
  have hZ2 := hb2.size
  have hZb := hbb.size
  have hZ3 := hb3.size
  have hlt := lt_of_heap hblk
  generalize trs (ss.take n) = ts at *
  have HS := Hid.mk' hs3
  have hP : ∃ P A : Nat → Prop, (∀ k, k < w.heap.size → P k) ∧ (∀ x, a3 = some x → P x.block) ∧ PS w3 w3 P A w1.heap.size w2.heap.size [] [] [] [] (.slice none 0 0) (.slice none 0 0) (.slice none 0 0) := by
    refine ⟨fun k => k < w1.heap.size ∨ (w2b.heap.size ≤ k ∧ k < w3.heap.size), fun k => (k < w1.heap.size ∨ (w2.heap.size ≤ k ∧ k < w2b.heap.size)) ∨ (w2b.heap.size ≤ k ∧ k < w3.heap.size), fun k hk => .inl (by omega), fun x hx => .inr (ha3 x hx), (hq2.below hbb).below hb3, fun k hk => ?_, .inl (.inr ⟨Nat.le_refl _, by omega⟩), fun hk => ?_, (hb3.block _ hlt).trans hblk, RfAt.nil _, fun k e => by simp [Value.ownBlock] at e, Keep.refl _ _⟩
    · rcases hk with hk | hk
      · exact .inl (.inl hk)
      · exact .inr hk
    · rcases hk with hk | hk <;> omega
  obtain ⟨P, A0, hPw, hPa, hps⟩ := hP
  have HPW := Hid.mk' hPw
  have HPA := Hid.mk' hPa
  clear hs3 hnm3 hb1 hb2 hb3 hq2 ha3 HN HS0 hea hbb hblk hlt hZ1 hZ2 hZb hZ3 hPw hPa
  generalize w1.heap.size = g at *
  generalize w2.heap.size = b at *
  go_wp2
  go_loopw [5] (fun v5 wr => ∃ (i : Nat) (L M : List Dr) (A : Nat → Prop) (x y z : Value), v5 = .int .i64 i ∧ i ≤ n ∧ Hid (Inv L M) ∧ M.length ≤ i ∧ Hid (PS w3 wr P A g b L M L M x y z)) (fun v5 _ => n + 1 - (intOf v5).toNat)
  case atStart => exact ⟨0, [], [], _, _, _, _, rfl, Nat.zero_le _, Inv.nil, Nat.zero_le _, hps⟩
  case round =>
    clear hps
    obtain ⟨i, L, M, A, x, y, z, rfl, hi, HV, hM, HPS⟩ := hrel
    by_cases hin : i < n
    · obtain ⟨bq, off, rfl, hbq, hcc, -, -⟩ := HS.out.rd i hin
      have hsz := HNM.out i hin
      have hbA := HPA.out _ rfl
      have x0 := HPS.out.keep.cell (hcc 0 _ rfl) hbA
      have x1 := HPS.out.keep.cell (hcc 1 _ rfl) hbA
      have x2 := HPS.out.keep.cell (hcc 2 _ rfl) hbA
      have x3 := HPS.out.keep.cell (hcc 3 _ rfl) hbA
      rw [Nat.add_zero] at x0
      have HMI : Hid (∀ wr, Keep P w3 wr → StrsAt wr (ts.getD i s0).ma (ts.getD i s0).ml (ts.getD i s0).mc (ts.getD i s0).ms) := fun wr hk => HMS.out i hin wr ((keep_below HB.out).trans (hk.mono fun k _ h => HPW.out k h))
      generalize ts.getD i s0 = st at *
      have hO : ∃ B : Nat → Prop, PQ w3 (wr.alloc (.cells #[.int .i64 st.kd, .int .i64 st.n, .string st.nm, .slice st.ma st.ml st.mc] 32)) P B g b wr.heap.size L M L M x y z st := by
        have hba : Below wr.heap.size wr (wr.alloc (.cells #[.int .i64 st.kd, .int .i64 st.n, .string st.nm, .slice st.ma st.ml st.mc] 32)) := (Below.refl _ wr).alloc (Nat.le_refl _) _
        exact ⟨_, HPS.out.below hba, .inr ⟨Nat.le_refl _, by simp⟩, heap_alloc_new _ _⟩
      obtain ⟨B, hO⟩ := hO
      have HO := Hid.mk' hO
      have hin' : (i : Int) < (n : Int) := by omega
      have HSZ := Hid.mk' hsz
      have HMM := Hid.mk' hM
      clear hcc hO HPS hsz
      go_upto_region 10 with fail
      generalize wr.alloc (.cells #[.int .i64 st.kd, .int .i64 st.n, .string st.nm, .slice st.ma st.ml st.mc] 32) = w6 at *
      generalize wr.heap.size = s at *
      obtain ⟨y0, y1, y2, y3, -⟩ := HO.out.st.cells
      clear x0 x1 x2 x3
      go_upto_block 2 with (go_at_call 11; refine (kind_step _ _ _ _ _).mono ?_; rintro e w7 ⟨rfl, hb7⟩)
      have HO7 := Hid.mk' (HO.out.same hb7)
      clear HO y0 y1 y2 y3 hb7
      go_cut [7, 8, 9, 10, 11, 12, 13, 14, 15, 16, 17, 18] from 39 to 117 (fun s7 _ _ _ _ _ _ _ _ _ _ _ wx => ∃ (L2 M2 : List Dr) (A2 : Nat → Prop) (x2 y2 z2 : Value), s7 = .bool true ∧ Inv L2 M2 ∧ M2.length ≤ i + 1 ∧ PQ w3 wx P A2 g b s L2 M2 L2 M2 x2 y2 z2 st)
      case first =>
        obtain ⟨y0, y1, y2, y3, hz⟩ := HO7.out.st.cells
        obtain ⟨c0, c1, c2, _⟩ := blk3 HO7.out.ps.blk
        have hkk := kindI_of st.kd
        generalize kindI st.kd = kk at *
        have HS20 : Hid (st.nm.size ≤ maxLen) := by
          have := HSZ.out
          show _ ≤ _
          unfold maxLen
          omega
        have HFW : Hid (L.length ≤ 16) := HV.out.few
        obtain ⟨⟨a0, n0, rfl, _⟩, ⟨a1, n1, rfl, _⟩, ⟨a2, n2, rfl, _⟩⟩ := HO7.out.ps.rd
        generalize (nms L).length = l0 at *
        generalize (nms M).length = l1 at *
        generalize (M.map Prod.snd).length = l2 at *
        rcases hkk with rfl | rfl | rfl | rfl | rfl
        · have HRS := Hid.mk' (rask_any w7 _ _ _ L M st.nm HS20.out HO7.out.ps.rd)
          go_wp2_with fail
          refine HRS.out.mono ?_
          rintro e w8 ⟨v0, rfl, hv8, hf8, hb8⟩
          have hq10 := HO7.out.next hb8 hv8 ⟨hf8, fun k hk => .inl (.inr (.inl hk)), fun k hk => .inl (.inr (.inr hk))⟩
          have HQ9 := Hid.mk' ((HO7.out.same hb8).same ((Below.refl _ w8).alloc (Nat.le_refl _) (.cells #[v0, .slice a1 l1 n1, .slice a2 l2 n2] 29)))
          obtain ⟨⟨a3, s3, rfl, _⟩, -, -⟩ := hv8
          generalize (nms (askL st.nm L M)).length = m0 at *
          have z8 := heap_alloc_new w8 (.cells #[.slice a3 m0 s3, .slice a1 l1 n1, .slice a2 l2 n2] 29)
          have HQ10 := Hid.mk' hq10
          have HI10 : Hid (Inv (askL st.nm L M) (M)) := HV.out.asked _
          have HM10 : Hid ((M).length ≤ i + 1) := by have := HMM.out; show _ ≤ _; omega
          clear HRS y1 y2 y3 c0 c1 c2 hb8 hq10 hf8
          go_upto_region 14 with fail
          generalize w8.alloc (.cells #[.slice a3 m0 s3, .slice a1 l1 n1, .slice a2 l2 n2] 29) = w9 at *
          obtain ⟨z0, z1, z2, _⟩ := blk3 z8
          obtain ⟨d0, d1, d2, _⟩ := blk3 HQ9.out.ps.blk
          have f0 := fz3 HQ9.out.ps.blk 0
          have f1 := fz3 HQ9.out.ps.blk 1
          have f2 := fz3 HQ9.out.ps.blk 2
          clear HQ9 z8
          go_upto_region 15 with fail
          generalize ((w9.setCell ⟨b, 0, none⟩ (.slice a3 m0 s3)).setCell ⟨b, 1, none⟩ (.slice a1 l1 n1)).setCell ⟨b, 2, none⟩ (.slice a2 l2 n2) = w10 at *
          obtain ⟨x0, x1, x2, x3, _⟩ := HQ10.out.st.cells
          have HSW := Hid.mk' (ask_w w10 _ g L M st.nm HQ10.out.ps.d HS20.out)
          clear z0 z1 z2 d0 d1 d2 f0 f1 f2
          go_wp2_with fail
          refine HSW.out.mono ?_
          rintro e w11 ⟨rfl, hq11, hk11⟩
          have HQ11 := Hid.mk' (HQ10.out.step hq11 hk11)
          clear HSW hq11 hk11 x0 x1 x2 x3
          go_wp2_with fail
          go_meet
          exact ⟨_, _, _, _, _, _, by simp, HI10.out, HM10.out, HQ11.out⟩
        · have HRS := Hid.mk' (rbeg_any w7 _ _ _ L M st.nm st.n HS20.out HO7.out.ps.rd (by have := HFW.out; omega) (by omega))
          go_wp2_with fail
          refine HRS.out.mono ?_
          rintro e w8 ⟨v0, v1, v2, rfl, hv8, hf8, hb8⟩
          have hq10 := HO7.out.next hb8 hv8 hf8
          have HQ9 := Hid.mk' ((HO7.out.same hb8).same ((Below.refl _ w8).alloc (Nat.le_refl _) (.cells #[v0, v1, v2] 29)))
          obtain ⟨⟨a3, s3, rfl, _⟩, ⟨a4, s4, rfl, _⟩, ⟨a5, s5, rfl, _⟩⟩ := hv8
          generalize (nms (begL st.nm L M)).length = m0 at *
          generalize (nms (begM st.nm st.n M)).length = m1 at *
          generalize ((begM st.nm st.n M).map Prod.snd).length = m2 at *
          have z8 := heap_alloc_new w8 (.cells #[.slice a3 m0 s3, .slice a4 m1 s4, .slice a5 m2 s5] 29)
          have HQ10 := Hid.mk' hq10
          have HI10 : Hid (Inv (begL st.nm L M) (begM st.nm st.n M)) := HV.out.begun _ _
          have HM10 : Hid ((begM st.nm st.n M).length ≤ i + 1) := by have := HMM.out; have := begM_len st.nm st.n M; show _ ≤ _; omega
          clear HRS y1 y2 y3 c0 c1 c2 hb8 hq10 hf8
          go_upto_region 18 with fail
          generalize w8.alloc (.cells #[.slice a3 m0 s3, .slice a4 m1 s4, .slice a5 m2 s5] 29) = w9 at *
          obtain ⟨z0, z1, z2, _⟩ := blk3 z8
          obtain ⟨d0, d1, d2, _⟩ := blk3 HQ9.out.ps.blk
          have f0 := fz3 HQ9.out.ps.blk 0
          have f1 := fz3 HQ9.out.ps.blk 1
          have f2 := fz3 HQ9.out.ps.blk 2
          clear HQ9 z8
          go_upto_region 19 with fail
          generalize ((w9.setCell ⟨b, 0, none⟩ (.slice a3 m0 s3)).setCell ⟨b, 1, none⟩ (.slice a4 m1 s4)).setCell ⟨b, 2, none⟩ (.slice a5 m2 s5) = w10 at *
          obtain ⟨x0, x1, x2, x3, _⟩ := HQ10.out.st.cells
          have HSW := Hid.mk' (beg_w w10 _ g L M st.nm st.n HQ10.out.ps.d HV.out HS20.out (by have := HMM.out; omega))
          clear z0 z1 z2 d0 d1 d2 f0 f1 f2
          go_wp2_with fail
          refine HSW.out.mono ?_
          rintro e w11 ⟨rfl, hq11, hk11⟩
          have HQ11 := Hid.mk' (HQ10.out.step hq11 hk11)
          clear HSW hq11 hk11 x0 x1 x2 x3
          go_wp2_with fail
          go_meet
          exact ⟨_, _, _, _, _, _, by simp, HI10.out, HM10.out, HQ11.out⟩
        · have HRS := Hid.mk' (rend_any w7 _ _ _ L M st.nm HO7.out.ps.rd (by have := HFW.out; omega) (by omega))
          go_wp2_with fail
          refine HRS.out.mono ?_
          rintro e w8 ⟨v0, v1, v2, rfl, hv8, hf8, hb8⟩
          have hq10 := HO7.out.next hb8 hv8 hf8
          have HQ9 := Hid.mk' ((HO7.out.same hb8).same ((Below.refl _ w8).alloc (Nat.le_refl _) (.cells #[v0, v1, v2] 29)))
          obtain ⟨⟨a3, s3, rfl, _⟩, ⟨a4, s4, rfl, _⟩, ⟨a5, s5, rfl, _⟩⟩ := hv8
          generalize (nms (wo st.nm L)).length = m0 at *
          generalize (nms (wo st.nm M)).length = m1 at *
          generalize ((wo st.nm M).map Prod.snd).length = m2 at *
          have z8 := heap_alloc_new w8 (.cells #[.slice a3 m0 s3, .slice a4 m1 s4, .slice a5 m2 s5] 29)
          have HQ10 := Hid.mk' hq10
          have HI10 : Hid (Inv (wo st.nm L) (wo st.nm M)) := HV.out.ended _
          have HM10 : Hid ((wo st.nm M).length ≤ i + 1) := by have := HMM.out; have := wo_len st.nm M; show _ ≤ _; omega
          clear HRS y1 y2 y3 c0 c1 c2 hb8 hq10 hf8
          go_upto_region 22 with fail
          generalize w8.alloc (.cells #[.slice a3 m0 s3, .slice a4 m1 s4, .slice a5 m2 s5] 29) = w9 at *
          obtain ⟨z0, z1, z2, _⟩ := blk3 z8
          obtain ⟨d0, d1, d2, _⟩ := blk3 HQ9.out.ps.blk
          have f0 := fz3 HQ9.out.ps.blk 0
          have f1 := fz3 HQ9.out.ps.blk 1
          have f2 := fz3 HQ9.out.ps.blk 2
          clear HQ9 z8
          go_upto_region 23 with fail
          generalize ((w9.setCell ⟨b, 0, none⟩ (.slice a3 m0 s3)).setCell ⟨b, 1, none⟩ (.slice a4 m1 s4)).setCell ⟨b, 2, none⟩ (.slice a5 m2 s5) = w10 at *
          obtain ⟨x0, x1, x2, x3, _⟩ := HQ10.out.st.cells
          have HSW := Hid.mk' (end_w w10 _ g L M st.nm HQ10.out.ps.d HV.out)
          clear z0 z1 z2 d0 d1 d2 f0 f1 f2
          go_wp2_with fail
          refine HSW.out.mono ?_
          rintro e w11 ⟨rfl, hq11, hk11⟩
          have HQ11 := Hid.mk' (HQ10.out.step hq11 hk11)
          clear HSW hq11 hk11 x0 x1 x2 x3
          go_wp2_with fail
          go_meet
          exact ⟨_, _, _, _, _, _, by simp, HI10.out, HM10.out, HQ11.out⟩
        · obtain ⟨Q, hQ⟩ : ∃ Q, (if fB st.ms L = true then (nthD L 0).1 else ⟨#[]⟩) = Q := ⟨_, rfl⟩
          have HQQ := Hid.mk' hQ
          have hrs := rfirst_any w7 _ _ _ st.ma st.ml st.mc L M st.ms HO7.out.ps.rd (HMI.out _ HO7.out.ps.keep)
          rw [hQ] at hrs
          have HRS := Hid.mk' hrs
          clear hQ hrs
          go_wp2_with fail
          refine HRS.out.mono ?_
          rintro e w8 ⟨v0, rfl, hv8, hf8, hb8⟩
          have hq10 := HO7.out.next hb8 hv8 ⟨hf8, fun k hk => .inl (.inr (.inl hk)), fun k hk => .inl (.inr (.inr hk))⟩
          have HQ9 := Hid.mk' ((HO7.out.same hb8).same ((Below.refl _ w8).alloc (Nat.le_refl _) (.cells #[v0, .slice a1 l1 n1, .slice a2 l2 n2] 29)))
          obtain ⟨⟨a3, s3, rfl, _⟩, -, -⟩ := hv8
          generalize (nms (if fB st.ms L = true then L.drop 1 else L)).length = m0 at *
          have z8 := heap_alloc_new w8 (.cells #[.slice a3 m0 s3, .slice a1 l1 n1, .slice a2 l2 n2] 29)
          have HQ10 := Hid.mk' hq10
          have HI10 : Hid (Inv (if fB st.ms L = true then L.drop 1 else L) (M)) := HV.out.firsted _
          have HM10 : Hid ((M).length ≤ i + 1) := by have := HMM.out; show _ ≤ _; omega
          clear HRS y1 y2 y3 c0 c1 c2 hb8 hq10 hf8
          go_upto_region 26 with fail
          generalize w8.alloc (.cells #[.slice a3 m0 s3, .slice a1 l1 n1, .slice a2 l2 n2] 29) = w9 at *
          obtain ⟨z0, z1, z2, _⟩ := blk3 z8
          obtain ⟨d0, d1, d2, _⟩ := blk3 HQ9.out.ps.blk
          have f0 := fz3 HQ9.out.ps.blk 0
          have f1 := fz3 HQ9.out.ps.blk 1
          have f2 := fz3 HQ9.out.ps.blk 2
          clear HQ9 z8
          go_upto_region 27 with fail
          generalize ((w9.setCell ⟨b, 0, none⟩ (.slice a3 m0 s3)).setCell ⟨b, 1, none⟩ (.slice a1 l1 n1)).setCell ⟨b, 2, none⟩ (.slice a2 l2 n2) = w10 at *
          obtain ⟨x0, x1, x2, x3, _⟩ := HQ10.out.st.cells
          have HOF := Hid.mk' (of_any st.ma st.ml st.mc w10)
          clear z0 z1 z2 d0 d1 d2 f0 f1 f2
          go_wp2_with fail
          refine HOF.out.mono ?_
          rintro e w11 ⟨rfl, hw11⟩
          have hb11 : Below w10.heap.size w10 w11 := by subst hw11; exact (Below.refl _ w10).alloc (Nat.le_refl _) _
          have hc11 : w11.cell? ⟨w10.heap.size, 0, none⟩ = some (.slice st.ma st.ml st.mc) := by subst hw11; exact blkc (heap_alloc_new w10 (.cells #[.slice st.ma st.ml st.mc] 26))
          clear hw11
          have hq11 := HQ10.out.same hb11
          have hsw := first_of w11 _ g w10.heap.size L M st.ma st.ml st.mc st.ms hq11.ps.d HV.out hc11 (HMI.out _ hq11.ps.keep)
          rw [HQQ.out] at hsw
          have HSW := Hid.mk' hsw
          clear hsw
          have HQ11 := Hid.mk' hq11
          clear HOF hb11 hc11 hq11 x0 x1 x2 x3
          unfold ofv at HSW ⊢
          go_wp2_with fail
          refine HSW.out.mono ?_
          rintro e w12 ⟨rfl, hq12, hk12⟩
          have HQ12 := Hid.mk' (HQ11.out.step hq12 hk12)
          clear HSW hq12 hk12
          go_wp2_with fail
          go_meet
          exact ⟨_, _, _, _, _, _, by simp, HI10.out, HM10.out, HQ12.out⟩
        · go_wp2_with fail
          go_meet
          exact ⟨_, _, _, _, _, _, rfl, HV.out, by have := HMM.out; omega, HO7.out⟩
      case rest =>
        clear HO7 HV
        obtain ⟨L2, M2, A2, x2, y2, z2, rfl, hV2, hM2, hq⟩ := hcut
        have HV2 := Hid.mk' hV2
        have HM2 := Hid.mk' hM2
        have HQ := Hid.mk' hq
        clear hV2 hM2 hq
        obtain ⟨y0, y1, y2', y3, hz⟩ := HQ.out.st.cells
        obtain ⟨c0, c1, c2, _⟩ := blk3 HQ.out.ps.blk
        obtain ⟨⟨a0, n0, rfl, _⟩, ⟨a1, n1, rfl, _⟩, ⟨a2, n2, rfl, _⟩⟩ := HQ.out.ps.rd
        have HPL := Hid.mk' (place_any a1 _ n1 (nms M2) st.nm wc HQ.out.ps.rd.un.strs)
        have HDE := Hid.mk' (dead_w wc A2 g L2 M2 st.nm HQ.out.ps.d HV2.out)
        go_wp2_with fail
        refine HPL.out.mono ?_
        rintro e w' ⟨rfl, hw'⟩
        subst w'
        clear HPL y0 y1 y2' y3 c0 c1 c2 hz
        generalize hKK : plc st.nm (nms M2) = KK
        have HKK := Hid.mk' hKK
        obtain ⟨y0, y1, y2', y3, hz⟩ := HQ.out.st.cells
        go_wp2_with fail
        refine HDE.out.mono ?_
        rintro e w8 ⟨rfl, hb8⟩
        have HQ8 := Hid.mk' (HQ.out.same hb8)
        clear HDE HQ y0 y1 y2' y3 hz hb8 hKK
        generalize hDD : deadI st.nm M2 = DD
        generalize hII : isIn st.nm M2 = II
        have HDI : Hid (deadI st.nm M2 = DD ∧ isIn st.nm M2 = II) := ⟨hDD, hII⟩
        clear hDD hII
        have HL : Hid (LP w3 w8 P A2 g b s L2 M2 (.slice a0 (nms L2).length n0) (.slice a1 (nms M2).length n1) (.slice a2 (M2.map Prod.snd).length n2) st w8) := ⟨HQ8.out, Below.refl _ _⟩
        clear HQ8
        have hz0 := HL.out.wt.hle
        have hz1 := HL.out.wt.hcap
        have hz2 := HL.out.un.hle
        have hz3 := HL.out.un.hcap
        have hz4 := HL.out.zs.hle
        have hz5 := HL.out.zs.hcap
        unfold maxLen at hz1 hz3 hz5
        have HNN : Hid ((nms M2).length = M2.length ∧ (M2.map Prod.snd).length = M2.length) := ⟨nms_length M2, List.length_map _⟩
        generalize (nms L2).length = N0 at *
        generalize (nms M2).length = N1 at *
        generalize (M2.map Prod.snd).length = N2 at *
        go_upto_region 31 with fail
        go_cut [189] from 130 to 188 (fun v189 wx => v189 = .bool false ∧ LP w3 w8 P A2 g b s L2 M2 (.slice a0 N0 n0) (.slice a1 N1 n1) (.slice a2 N2 n2) st wx)
        case first =>
          obtain ⟨PL, hPP⟩ : ∃ PL, plc st.nm (nms L2) = PL := ⟨_, rfl⟩
          have HPP := Hid.mk' hPP
          clear hPP
          cases hI : II with
          | true =>
            have hmem : st.nm ∈ nms M2 := isIn_iff.1 (HDI.out.2.trans hI)
            obtain ⟨F, hF⟩ : ∃ F, fidx st.nm (nms M2) = F := ⟨_, rfl⟩
            have hFM : F < (nms M2).length := by rw [← hF]; exact (fidx_mem _ _).2 hmem
            rw [nms_length] at hFM
            have hFN : F < N2 := by have := HL.out.zs.hlen; rw [List.length_map] at this; omega
            have hFN1 : F < N1 := by have := HL.out.un.hlen; rw [nms_length] at this; omega
            obtain ⟨b5, o5, rfl, -, hcF⟩ := HL.out.zs.at_ F hFN
            obtain ⟨b1, o1, rfl, -, -⟩ := HL.out.un.at_ F hFN1
            have hDF : (M2.map Prod.snd).getD F 0 = DD := by
              rw [snd_getD, ← HDI.out.1]
              unfold deadI
              rw [HDI.out.2, hI, if_pos rfl, hF]
            rw [hDF] at hcF
            have hKF : KK = ((F : Nat) : Int) := by rw [← HKK.out, plc_mem hmem, hF]
            subst hKF
            have hge : (0 : Int) ≤ ((F : Nat) : Int) := by omega
            have hlF : ((F : Nat) : Int) < (N2 : Int) := by omega
            subst hI
            have HCW : Hid (∀ w', LP w3 w8 P A2 g b s L2 M2 (.slice a0 N0 n0) (.slice (some ⟨b1, o1, none⟩) N1 n1) (.slice (some ⟨b5, o5, none⟩) N2 n2) st w' → Calls Try.prog 24 #[.pointer (some ⟨g, 0, none⟩)] w' fun e w'' => e = .returned (.slice (some ⟨w'.heap.size, 0, none⟩) L2.length L2.length) ∧ StrsAt w'' (some ⟨w'.heap.size, 0, none⟩) L2.length L2.length (nms L2) ∧ Below w'.heap.size w' w'') := fun w' h => waits_w w' A2 g L2 M2 h.dat (by have := HV2.out.few; omega)
            have HCU : Hid (∀ w', LP w3 w8 P A2 g b s L2 M2 (.slice a0 N0 n0) (.slice (some ⟨b1, o1, none⟩) N1 n1) (.slice (some ⟨b5, o5, none⟩) N2 n2) st w' → Calls Try.prog 25 #[.pointer (some ⟨g, 0, none⟩)] w' fun e w'' => e = .returned (.slice (some ⟨w'.heap.size, 0, none⟩) M2.length M2.length) ∧ StrsAt w'' (some ⟨w'.heap.size, 0, none⟩) M2.length M2.length (nms M2) ∧ Below w'.heap.size w' w'') := fun w' h => under_w w' A2 g L2 M2 h.dat (by have := HM2.out; omega)
            have HSW : Hid (∀ (w' : World) (a : Option Addr) (n c : Nat), LP w3 w8 P A2 g b s L2 M2 (.slice a0 N0 n0) (.slice (some ⟨b1, o1, none⟩) N1 n1) (.slice (some ⟨b5, o5, none⟩) N2 n2) st w' → StrsAt w' a n c (nms L2) → Calls Try.prog 23 #[.slice a n c, .slice a0 N0 n0] w' fun e w'' => e = .returned (.bool true) ∧ Below w'.heap.size w' w'') := fun w' a n c h hs => same_is _ _ _ _ _ _ _ w' hs h.wt
            have HSU : Hid (∀ (w' : World) (a : Option Addr) (n c : Nat), LP w3 w8 P A2 g b s L2 M2 (.slice a0 N0 n0) (.slice (some ⟨b1, o1, none⟩) N1 n1) (.slice (some ⟨b5, o5, none⟩) N2 n2) st w' → StrsAt w' a n c (nms M2) → Calls Try.prog 23 #[.slice a n c, .slice (some ⟨b1, o1, none⟩) N1 n1] w' fun e w'' => e = .returned (.bool true) ∧ Below w'.heap.size w' w'') := fun w' a n c h hs => same_is _ _ _ _ _ _ _ w' hs h.un
            have HCD : Hid (∀ w', LP w3 w8 P A2 g b s L2 M2 (.slice a0 N0 n0) (.slice (some ⟨b1, o1, none⟩) N1 n1) (.slice (some ⟨b5, o5, none⟩) N2 n2) st w' → Calls Try.prog 26 #[.pointer (some ⟨g, 0, none⟩), .int .i64 st.n] w' fun e w'' => ∃ a n c, e = .returned (.slice a n c) ∧ StrsAt w'' a n c (dueL st.n M2) ∧ Below w'.heap.size w' w'') := fun w' h => due_e w' A2 g L2 M2 st.n h.dat (by have := HM2.out; omega)
            have HCR : Hid (∀ w', LP w3 w8 P A2 g b s L2 M2 (.slice a0 N0 n0) (.slice (some ⟨b1, o1, none⟩) N1 n1) (.slice (some ⟨b5, o5, none⟩) N2 n2) st w' → Calls Try.prog 27 #[.agg #[.slice a0 N0 n0, .slice (some ⟨b1, o1, none⟩) N1 n1, .slice (some ⟨b5, o5, none⟩) N2 n2], .int .i64 st.n] w' fun e w'' => ∃ a n c, e = .returned (.slice a n c) ∧ StrsAt w'' a n c (dueL st.n M2) ∧ Below w'.heap.size w' w'') := fun w' h => rdue_e w' _ _ _ _ _ _ _ _ _ M2 st.n h.un h.zs (by have := HM2.out; omega)
            have HCA : Hid (∀ w', LP w3 w8 P A2 g b s L2 M2 (.slice a0 N0 n0) (.slice (some ⟨b1, o1, none⟩) N1 n1) (.slice (some ⟨b5, o5, none⟩) N2 n2) st w' → Calls Try.prog 28 #[.pointer (some ⟨g, 0, none⟩), .string st.nm] w' fun e w'' => e = .returned (.int .i64 PL) ∧ Below w'.heap.size w' w'') := fun w' h => by rw [← HPP.out]; exact ahead_w w' A2 g L2 M2 st.nm h.dat
            have HCP : Hid (∀ w', LP w3 w8 P A2 g b s L2 M2 (.slice a0 N0 n0) (.slice (some ⟨b1, o1, none⟩) N1 n1) (.slice (some ⟨b5, o5, none⟩) N2 n2) st w' → Calls Try.prog 21 #[.slice a0 N0 n0, .string st.nm] w' fun e w'' => e = .returned (.int .i64 PL) ∧ Below w'.heap.size w' w'') := fun w' h => by rw [← HPP.out]; exact (place_any a0 N0 n0 (nms L2) st.nm w' h.wt).mono fun _ _ ⟨h1, h2⟩ => ⟨h1, h2 ▸ Below.refl _ _⟩
            clear hmem hF hFM hFN1 hDF HKK HDI HMM HSZ HMI HNN hz0 hz1 hz2 hz3
            refine wp_region_held_drew (S := fun w' => w'.cell? ⟨b5, o5 + F, none⟩ = some (.int .i64 DD) ∧ w'.cell? ⟨b, 0, none⟩ = some (.slice a0 N0 n0) ∧ w'.cell? ⟨b, 1, none⟩ = some (.slice (some ⟨b1, o1, none⟩) N1 n1) ∧ w'.cell? ⟨b, 2, none⟩ = some (.slice (some ⟨b5, o5, none⟩) N2 n2) ∧ w'.cell? ⟨s, 1, none⟩ = some (.int .i64 st.n) ∧ w'.cell? ⟨s, 2, none⟩ = some (.string st.nm) ∧ LP w3 w8 P A2 g b s L2 M2 (.slice a0 N0 n0) (.slice (some ⟨b1, o1, none⟩) N1 n1) (.slice (some ⟨b5, o5, none⟩) N2 n2) st w') (by kernel_rfl) ?_ (fun hHeld => ?_)
            · exact LP.held5 HL.out hcF (below_drewN (Below.refl _ _) 1)
            refine wpAnyH_take (i := 0) (oi := { dst := some 130, op := Op.move (Operand.tmp 7), type := 4, pos := "law.go:78", after := #[], guard := none }) (v := ?_) rfl (by kernel_rfl) (by kernel_rfl) (by kernel_rfl) (fun _ _ _ h => h) (Or.inl ⟨by rfl, ?_⟩) (by assumption) ?_
            rotate_left
            · intro w hSw
              try dsimp only at hSw
              go_simp
              first | done | with_reducible rfl
            try simp only [Act.put, List.setIfInBounds_toArray, List.set_cons_zero, List.set_cons_succ]
            refine wpAnyH_take (i := 1) (oi := { dst := some 131, op := Op.unOp UnOp.not 4 (Operand.tmp 130), type := 4, pos := "law.go:78", after := #[{ on := 0, ground := Ground.data }], guard := none }) (v := ?_) rfl (by kernel_rfl) (by kernel_rfl) (by kernel_rfl) (fun _ _ _ h => h) (Or.inl ⟨by rfl, ?_⟩) (by assumption) ?_
            rotate_left
            · intro w hSw
              try dsimp only at hSw
              go_simp
              first | done | with_reducible rfl
            try simp only [Act.put, List.setIfInBounds_toArray, List.set_cons_zero, List.set_cons_succ]
            refine wpAnyH_take (i := 2) (oi := { dst := some 132, op := Op.move (Operand.tmp 131), type := 4, pos := "law.go:78", after := #[{ on := 1, ground := Ground.data }], guard := none }) (v := ?_) rfl (by kernel_rfl) (by kernel_rfl) (by kernel_rfl) (fun _ _ _ h => h) (Or.inl ⟨by rfl, ?_⟩) (by assumption) ?_
            rotate_left
            · intro w hSw
              try dsimp only at hSw
              go_simp
              first | done | with_reducible rfl
            try simp only [Act.put, List.setIfInBounds_toArray, List.set_cons_zero, List.set_cons_succ]
            refine wpAnyH_take (i := 3) (oi := { dst := some 133, op := Op.move (Operand.tmp 3), type := 24, pos := "law.go:78", after := #[{ on := 2, ground := Ground.guard }], guard := some (2, false) }) (v := ?_) rfl (by kernel_rfl) (by kernel_rfl) (by kernel_rfl) (fun _ _ _ h => h) (Or.inl ⟨by rfl, ?_⟩) (by assumption) ?_
            rotate_left
            · intro w hSw
              try dsimp only at hSw
              go_simp
              first | done | with_reducible rfl
            try simp only [Act.put, List.setIfInBounds_toArray, List.set_cons_zero, List.set_cons_succ]
            refine wpAnyH_take (i := 5) (oi := { dst := some 135, op := Op.fieldAddr 29 (Operand.tmp 4) 0, type := 0, pos := "law.go:78", after := #[{ on := 2, ground := Ground.guard }], guard := some (2, false) }) (v := ?_) rfl (by kernel_rfl) (by kernel_rfl) (by kernel_rfl) (fun _ _ _ h => h) (Or.inl ⟨by rfl, ?_⟩) (by assumption) ?_
            rotate_left
            · intro w hSw
              try dsimp only at hSw
              go_simp
              first | done | with_reducible rfl
            try simp only [Act.put, List.setIfInBounds_toArray, List.set_cons_zero, List.set_cons_succ]
            refine wpAnyH_take (i := 6) (oi := { dst := some 136, op := Op.load 26 (Operand.tmp 135), type := 26, pos := "law.go:78", after := #[{ on := 5, ground := Ground.data }, { on := 2, ground := Ground.guard }], guard := some (2, false) }) (v := ?_) rfl (by kernel_rfl) (by kernel_rfl) (by kernel_rfl) (fun _ _ _ h => h) (Or.inl ⟨by rfl, ?_⟩) (by assumption) ?_
            rotate_left
            · intro w hSw
              try dsimp only at hSw
              go_simp
              first | done | with_reducible rfl
            try simp only [Act.put, List.setIfInBounds_toArray, List.set_cons_zero, List.set_cons_succ]
            refine wpAnyH_ready (rs := [4]) (by kernel_rfl) (by simp) ?_
            refine AllReadyH.cons (o := { dst := some 134, op := Op.call { callee := Callee.value (Operand.func 24), args := #[Operand.tmp 133], argTypes := #[24] }, type := 26, pos := "law.go:78", after := #[{ on := 3, ground := Ground.data }, { on := 2, ground := Ground.chain }, { on := 2, ground := Ground.guard }], guard := some (2, false) }) rfl (fun K hK => ?_) AllReadyH.nil
            go_simp
            (go_at_call 24; refine (HCW.out _ (lp5_of (by assumption))).mono ?_; rintro e w9 ⟨rfl, hs9, hbx⟩)
            try go_wp2_with fail
            refine hK.out _ _ ?_ (fun hHeld => ?_)
            · first | assumption | exact LP.held5 (lp5_of (by assumption)) (lp5_c (by assumption)) hbx
            clear hK K
            try simp only [Act.put, List.setIfInBounds_toArray, List.set_cons_zero, List.set_cons_succ]
            refine wpAnyH_ready (rs := [7]) (by kernel_rfl) (by simp) ?_
            refine AllReadyH.cons (o := { dst := some 137, op := Op.call { callee := Callee.value (Operand.func 23), args := #[Operand.tmp 134, Operand.tmp 136], argTypes := #[26, 26] }, type := 4, pos := "law.go:78", after := #[{ on := 4, ground := Ground.data }, { on := 6, ground := Ground.data }, { on := 4, ground := Ground.chain }, { on := 2, ground := Ground.guard }], guard := some (2, false) }) rfl (fun K hK => ?_) AllReadyH.nil
            go_simp
            (go_at_call 23; refine (HSW.out _ _ _ _ (lp5_of (by assumption)) hs9).mono ?_; rintro e w10 ⟨rfl, hbx⟩)
            try go_wp2_with fail
            refine hK.out _ _ ?_ (fun hHeld => ?_)
            · first | assumption | exact LP.held5 (lp5_of (by assumption)) (lp5_c (by assumption)) hbx
            clear hK K
            try simp only [Act.put, List.setIfInBounds_toArray, List.set_cons_zero, List.set_cons_succ]
            refine wpAnyH_take (i := 8) (oi := { dst := some 138, op := Op.unOp UnOp.not 4 (Operand.tmp 137), type := 4, pos := "law.go:78", after := #[{ on := 7, ground := Ground.data }, { on := 2, ground := Ground.guard }], guard := some (2, false) }) (v := ?_) rfl (by kernel_rfl) (by kernel_rfl) (by kernel_rfl) (fun _ _ _ h => h) (Or.inl ⟨by rfl, ?_⟩) (by assumption) ?_
            rotate_left
            · intro w hSw
              try dsimp only at hSw
              go_simp
              first | done | with_reducible rfl
            try simp only [Act.put, List.setIfInBounds_toArray, List.set_cons_zero, List.set_cons_succ]
            refine wpAnyH_take (i := 9) (oi := { dst := some 139, op := Op.pick (Operand.tmp 132) (Operand.const (Value.bool true)) (Operand.tmp 138), type := 4, pos := "law.go:78", after := #[{ on := 2, ground := Ground.data }, { on := 8, ground := Ground.data }], guard := none }) (v := ?_) rfl (by kernel_rfl) (by kernel_rfl) (by kernel_rfl) (fun _ _ _ h => h) (Or.inl ⟨by rfl, ?_⟩) (by assumption) ?_
            rotate_left
            · intro w hSw
              try dsimp only at hSw
              go_simp
              first | done | with_reducible rfl
            try simp only [Act.put, List.setIfInBounds_toArray, List.set_cons_zero, List.set_cons_succ]
            refine wpAnyH_take (i := 10) (oi := { dst := some 140, op := Op.move (Operand.tmp 139), type := 4, pos := "law.go:78", after := #[{ on := 9, ground := Ground.data }, { on := 7, ground := Ground.chain }], guard := none }) (v := ?_) rfl (by kernel_rfl) (by kernel_rfl) (by kernel_rfl) (fun _ _ _ h => h) (Or.inl ⟨by rfl, ?_⟩) (by assumption) ?_
            rotate_left
            · intro w hSw
              try dsimp only at hSw
              go_simp
              first | done | with_reducible rfl
            try simp only [Act.put, List.setIfInBounds_toArray, List.set_cons_zero, List.set_cons_succ]
            refine wpAnyH_take (i := 11) (oi := { dst := some 141, op := Op.move (Operand.tmp 3), type := 24, pos := "law.go:78", after := #[{ on := 10, ground := Ground.guard }], guard := some (10, false) }) (v := ?_) rfl (by kernel_rfl) (by kernel_rfl) (by kernel_rfl) (fun _ _ _ h => h) (Or.inl ⟨by rfl, ?_⟩) (by assumption) ?_
            rotate_left
            · intro w hSw
              try dsimp only at hSw
              go_simp
              first | done | with_reducible rfl
            try simp only [Act.put, List.setIfInBounds_toArray, List.set_cons_zero, List.set_cons_succ]
            refine wpAnyH_take (i := 13) (oi := { dst := some 143, op := Op.fieldAddr 29 (Operand.tmp 4) 1, type := 0, pos := "law.go:78", after := #[{ on := 10, ground := Ground.guard }], guard := some (10, false) }) (v := ?_) rfl (by kernel_rfl) (by kernel_rfl) (by kernel_rfl) (fun _ _ _ h => h) (Or.inl ⟨by rfl, ?_⟩) (by assumption) ?_
            rotate_left
            · intro w hSw
              try dsimp only at hSw
              go_simp
              first | done | with_reducible rfl
            try simp only [Act.put, List.setIfInBounds_toArray, List.set_cons_zero, List.set_cons_succ]
            refine wpAnyH_take (i := 14) (oi := { dst := some 144, op := Op.load 26 (Operand.tmp 143), type := 26, pos := "law.go:78", after := #[{ on := 13, ground := Ground.data }, { on := 10, ground := Ground.guard }], guard := some (10, false) }) (v := ?_) rfl (by kernel_rfl) (by kernel_rfl) (by kernel_rfl) (fun _ _ _ h => h) (Or.inl ⟨by rfl, ?_⟩) (by assumption) ?_
            rotate_left
            · intro w hSw
              try dsimp only at hSw
              go_simp
              first | done | with_reducible rfl
            try simp only [Act.put, List.setIfInBounds_toArray, List.set_cons_zero, List.set_cons_succ]
            refine wpAnyH_ready (rs := [12]) (by kernel_rfl) (by simp) ?_
            refine AllReadyH.cons (o := { dst := some 142, op := Op.call { callee := Callee.value (Operand.func 25), args := #[Operand.tmp 141], argTypes := #[24] }, type := 26, pos := "law.go:78", after := #[{ on := 11, ground := Ground.data }, { on := 10, ground := Ground.chain }, { on := 10, ground := Ground.guard }], guard := some (10, false) }) rfl (fun K hK => ?_) AllReadyH.nil
            go_simp
            (clear hs9; go_at_call 25; refine (HCU.out _ (lp5_of (by assumption))).mono ?_; rintro e w11 ⟨rfl, hs11, hbx⟩)
            try go_wp2_with fail
            refine hK.out _ _ ?_ (fun hHeld => ?_)
            · first | assumption | exact LP.held5 (lp5_of (by assumption)) (lp5_c (by assumption)) hbx
            clear hK K
            try simp only [Act.put, List.setIfInBounds_toArray, List.set_cons_zero, List.set_cons_succ]
            refine wpAnyH_ready (rs := [15]) (by kernel_rfl) (by simp) ?_
            refine AllReadyH.cons (o := { dst := some 145, op := Op.call { callee := Callee.value (Operand.func 23), args := #[Operand.tmp 142, Operand.tmp 144], argTypes := #[26, 26] }, type := 4, pos := "law.go:78", after := #[{ on := 12, ground := Ground.data }, { on := 14, ground := Ground.data }, { on := 12, ground := Ground.chain }, { on := 10, ground := Ground.guard }], guard := some (10, false) }) rfl (fun K hK => ?_) AllReadyH.nil
            go_simp
            (go_at_call 23; refine (HSU.out _ _ _ _ (lp5_of (by assumption)) hs11).mono ?_; rintro e w12 ⟨rfl, hbx⟩)
            try go_wp2_with fail
            refine hK.out _ _ ?_ (fun hHeld => ?_)
            · first | assumption | exact LP.held5 (lp5_of (by assumption)) (lp5_c (by assumption)) hbx
            clear hK K
            try simp only [Act.put, List.setIfInBounds_toArray, List.set_cons_zero, List.set_cons_succ]
            refine wpAnyH_take (i := 16) (oi := { dst := some 146, op := Op.unOp UnOp.not 4 (Operand.tmp 145), type := 4, pos := "law.go:78", after := #[{ on := 15, ground := Ground.data }, { on := 10, ground := Ground.guard }], guard := some (10, false) }) (v := ?_) rfl (by kernel_rfl) (by kernel_rfl) (by kernel_rfl) (fun _ _ _ h => h) (Or.inl ⟨by rfl, ?_⟩) (by assumption) ?_
            rotate_left
            · intro w hSw
              try dsimp only at hSw
              go_simp
              first | done | with_reducible rfl
            try simp only [Act.put, List.setIfInBounds_toArray, List.set_cons_zero, List.set_cons_succ]
            refine wpAnyH_take (i := 17) (oi := { dst := some 147, op := Op.pick (Operand.tmp 140) (Operand.const (Value.bool true)) (Operand.tmp 146), type := 4, pos := "law.go:78", after := #[{ on := 10, ground := Ground.data }, { on := 16, ground := Ground.data }], guard := none }) (v := ?_) rfl (by kernel_rfl) (by kernel_rfl) (by kernel_rfl) (fun _ _ _ h => h) (Or.inl ⟨by rfl, ?_⟩) (by assumption) ?_
            rotate_left
            · intro w hSw
              try dsimp only at hSw
              go_simp
              first | done | with_reducible rfl
            try simp only [Act.put, List.setIfInBounds_toArray, List.set_cons_zero, List.set_cons_succ]
            refine wpAnyH_take (i := 18) (oi := { dst := some 148, op := Op.move (Operand.tmp 147), type := 4, pos := "law.go:78", after := #[{ on := 17, ground := Ground.data }, { on := 15, ground := Ground.chain }], guard := none }) (v := ?_) rfl (by kernel_rfl) (by kernel_rfl) (by kernel_rfl) (fun _ _ _ h => h) (Or.inl ⟨by rfl, ?_⟩) (by assumption) ?_
            rotate_left
            · intro w hSw
              try dsimp only at hSw
              go_simp
              first | done | with_reducible rfl
            try simp only [Act.put, List.setIfInBounds_toArray, List.set_cons_zero, List.set_cons_succ]
            refine wpAnyH_take (i := 19) (oi := { dst := some 149, op := Op.move (Operand.tmp 3), type := 24, pos := "law.go:78", after := #[{ on := 18, ground := Ground.guard }], guard := some (18, false) }) (v := ?_) rfl (by kernel_rfl) (by kernel_rfl) (by kernel_rfl) (fun _ _ _ h => h) (Or.inl ⟨by rfl, ?_⟩) (by assumption) ?_
            rotate_left
            · intro w hSw
              try dsimp only at hSw
              go_simp
              first | done | with_reducible rfl
            try simp only [Act.put, List.setIfInBounds_toArray, List.set_cons_zero, List.set_cons_succ]
            refine wpAnyH_take (i := 20) (oi := { dst := some 150, op := Op.fieldAddr 32 (Operand.tmp 6) 1, type := 0, pos := "law.go:78", after := #[{ on := 18, ground := Ground.guard }], guard := some (18, false) }) (v := ?_) rfl (by kernel_rfl) (by kernel_rfl) (by kernel_rfl) (fun _ _ _ h => h) (Or.inl ⟨by rfl, ?_⟩) (by assumption) ?_
            rotate_left
            · intro w hSw
              try dsimp only at hSw
              go_simp
              first | done | with_reducible rfl
            try simp only [Act.put, List.setIfInBounds_toArray, List.set_cons_zero, List.set_cons_succ]
            refine wpAnyH_take (i := 21) (oi := { dst := some 151, op := Op.load 3 (Operand.tmp 150), type := 3, pos := "law.go:78", after := #[{ on := 20, ground := Ground.data }, { on := 18, ground := Ground.guard }], guard := some (18, false) }) (v := ?_) rfl (by kernel_rfl) (by kernel_rfl) (by kernel_rfl) (fun _ _ _ h => h) (Or.inl ⟨by rfl, ?_⟩) (by assumption) ?_
            rotate_left
            · intro w hSw
              try dsimp only at hSw
              go_simp
              first | done | with_reducible rfl
            try simp only [Act.put, List.setIfInBounds_toArray, List.set_cons_zero, List.set_cons_succ]
            refine wpAnyH_take (i := 23) (oi := { dst := some 153, op := Op.load 29 (Operand.tmp 4), type := 29, pos := "law.go:78", after := #[{ on := 18, ground := Ground.guard }], guard := some (18, false) }) (v := ?_) rfl (by kernel_rfl) (by kernel_rfl) (by kernel_rfl) (fun _ _ _ h => h) (Or.inl ⟨by rfl, ?_⟩) (by assumption) ?_
            rotate_left
            · intro w hSw
              try dsimp only at hSw
              go_simp
              first | done | with_reducible rfl
            try simp only [Act.put, List.setIfInBounds_toArray, List.set_cons_zero, List.set_cons_succ]
            refine wpAnyH_take (i := 24) (oi := { dst := some 154, op := Op.fieldAddr 32 (Operand.tmp 6) 1, type := 0, pos := "law.go:78", after := #[{ on := 18, ground := Ground.guard }], guard := some (18, false) }) (v := ?_) rfl (by kernel_rfl) (by kernel_rfl) (by kernel_rfl) (fun _ _ _ h => h) (Or.inl ⟨by rfl, ?_⟩) (by assumption) ?_
            rotate_left
            · intro w hSw
              try dsimp only at hSw
              go_simp
              first | done | with_reducible rfl
            try simp only [Act.put, List.setIfInBounds_toArray, List.set_cons_zero, List.set_cons_succ]
            refine wpAnyH_take (i := 25) (oi := { dst := some 155, op := Op.load 3 (Operand.tmp 154), type := 3, pos := "law.go:78", after := #[{ on := 24, ground := Ground.data }, { on := 18, ground := Ground.guard }], guard := some (18, false) }) (v := ?_) rfl (by kernel_rfl) (by kernel_rfl) (by kernel_rfl) (fun _ _ _ h => h) (Or.inl ⟨by rfl, ?_⟩) (by assumption) ?_
            rotate_left
            · intro w hSw
              try dsimp only at hSw
              go_simp
              first | done | with_reducible rfl
            try simp only [Act.put, List.setIfInBounds_toArray, List.set_cons_zero, List.set_cons_succ]
            refine wpAnyH_ready (rs := [22]) (by kernel_rfl) (by simp) ?_
            refine AllReadyH.cons (o := { dst := some 152, op := Op.call { callee := Callee.value (Operand.func 26), args := #[Operand.tmp 149, Operand.tmp 151], argTypes := #[24, 3] }, type := 26, pos := "law.go:78", after := #[{ on := 19, ground := Ground.data }, { on := 21, ground := Ground.data }, { on := 18, ground := Ground.chain }, { on := 18, ground := Ground.guard }], guard := some (18, false) }) rfl (fun K hK => ?_) AllReadyH.nil
            go_simp
            (clear hs11; go_at_call 26; refine (HCD.out _ (lp5_of (by assumption))).mono ?_; rintro e w13 ⟨a13, n13, c13, rfl, hs13, hbx⟩)
            try go_wp2_with fail
            refine hK.out _ _ ?_ (fun hHeld => ?_)
            · first | assumption | exact LP.held5 (lp5_of (by assumption)) (lp5_c (by assumption)) hbx
            clear hK K
            try simp only [Act.put, List.setIfInBounds_toArray, List.set_cons_zero, List.set_cons_succ]
            refine wpAnyH_ready (rs := [26]) (by kernel_rfl) (by simp) ?_
            refine AllReadyH.cons (o := { dst := some 156, op := Op.call { callee := Callee.value (Operand.func 27), args := #[Operand.tmp 153, Operand.tmp 155], argTypes := #[29, 3] }, type := 26, pos := "law.go:78", after := #[{ on := 23, ground := Ground.data }, { on := 25, ground := Ground.data }, { on := 22, ground := Ground.chain }, { on := 18, ground := Ground.guard }], guard := some (18, false) }) rfl (fun K hK => ?_) AllReadyH.nil
            go_simp
            (go_at_call 27; refine (HCR.out _ (lp5_of (by assumption))).mono ?_; rintro e w14 ⟨a14, n14, c14, rfl, hs14, hbx⟩; replace hs13 := hs13.below (Nat.le_refl _) hbx)
            try go_wp2_with fail
            refine hK.out _ _ ?_ (fun hHeld => ?_)
            · first | assumption | exact LP.held5 (lp5_of (by assumption)) (lp5_c (by assumption)) hbx
            clear hK K
            try simp only [Act.put, List.setIfInBounds_toArray, List.set_cons_zero, List.set_cons_succ]
            refine wpAnyH_ready (rs := [27]) (by kernel_rfl) (by simp) ?_
            refine AllReadyH.cons (o := { dst := some 157, op := Op.call { callee := Callee.value (Operand.func 23), args := #[Operand.tmp 152, Operand.tmp 156], argTypes := #[26, 26] }, type := 4, pos := "law.go:78", after := #[{ on := 22, ground := Ground.data }, { on := 26, ground := Ground.data }, { on := 26, ground := Ground.chain }, { on := 18, ground := Ground.guard }], guard := some (18, false) }) rfl (fun K hK => ?_) AllReadyH.nil
            go_simp
            (go_at_call 23; refine (same_is _ _ _ _ _ _ _ w14 hs13 hs14).mono ?_; rintro e w15 ⟨rfl, hbx⟩)
            try go_wp2_with fail
            refine hK.out _ _ ?_ (fun hHeld => ?_)
            · first | assumption | exact LP.held5 (lp5_of (by assumption)) (lp5_c (by assumption)) hbx
            clear hK K
            try simp only [Act.put, List.setIfInBounds_toArray, List.set_cons_zero, List.set_cons_succ]
            refine wpAnyH_take (i := 28) (oi := { dst := some 158, op := Op.unOp UnOp.not 4 (Operand.tmp 157), type := 4, pos := "law.go:78", after := #[{ on := 27, ground := Ground.data }, { on := 18, ground := Ground.guard }], guard := some (18, false) }) (v := ?_) rfl (by kernel_rfl) (by kernel_rfl) (by kernel_rfl) (fun _ _ _ h => h) (Or.inl ⟨by rfl, ?_⟩) (by assumption) ?_
            rotate_left
            · intro w hSw
              try dsimp only at hSw
              go_simp
              first | done | with_reducible rfl
            try simp only [Act.put, List.setIfInBounds_toArray, List.set_cons_zero, List.set_cons_succ]
            refine wpAnyH_take (i := 29) (oi := { dst := some 159, op := Op.pick (Operand.tmp 148) (Operand.const (Value.bool true)) (Operand.tmp 158), type := 4, pos := "law.go:78", after := #[{ on := 18, ground := Ground.data }, { on := 28, ground := Ground.data }], guard := none }) (v := ?_) rfl (by kernel_rfl) (by kernel_rfl) (by kernel_rfl) (fun _ _ _ h => h) (Or.inl ⟨by rfl, ?_⟩) (by assumption) ?_
            rotate_left
            · intro w hSw
              try dsimp only at hSw
              go_simp
              first | done | with_reducible rfl
            try simp only [Act.put, List.setIfInBounds_toArray, List.set_cons_zero, List.set_cons_succ]
            refine wpAnyH_take (i := 30) (oi := { dst := some 160, op := Op.move (Operand.tmp 159), type := 4, pos := "law.go:78", after := #[{ on := 29, ground := Ground.data }, { on := 27, ground := Ground.chain }], guard := none }) (v := ?_) rfl (by kernel_rfl) (by kernel_rfl) (by kernel_rfl) (fun _ _ _ h => h) (Or.inl ⟨by rfl, ?_⟩) (by assumption) ?_
            rotate_left
            · intro w hSw
              try dsimp only at hSw
              go_simp
              first | done | with_reducible rfl
            try simp only [Act.put, List.setIfInBounds_toArray, List.set_cons_zero, List.set_cons_succ]
            refine wpAnyH_take (i := 31) (oi := { dst := some 161, op := Op.move (Operand.tmp 3), type := 24, pos := "law.go:78", after := #[{ on := 30, ground := Ground.guard }], guard := some (30, false) }) (v := ?_) rfl (by kernel_rfl) (by kernel_rfl) (by kernel_rfl) (fun _ _ _ h => h) (Or.inl ⟨by rfl, ?_⟩) (by assumption) ?_
            rotate_left
            · intro w hSw
              try dsimp only at hSw
              go_simp
              first | done | with_reducible rfl
            try simp only [Act.put, List.setIfInBounds_toArray, List.set_cons_zero, List.set_cons_succ]
            refine wpAnyH_take (i := 32) (oi := { dst := some 162, op := Op.fieldAddr 32 (Operand.tmp 6) 2, type := 0, pos := "law.go:78", after := #[{ on := 30, ground := Ground.guard }], guard := some (30, false) }) (v := ?_) rfl (by kernel_rfl) (by kernel_rfl) (by kernel_rfl) (fun _ _ _ h => h) (Or.inl ⟨by rfl, ?_⟩) (by assumption) ?_
            rotate_left
            · intro w hSw
              try dsimp only at hSw
              go_simp
              first | done | with_reducible rfl
            try simp only [Act.put, List.setIfInBounds_toArray, List.set_cons_zero, List.set_cons_succ]
            refine wpAnyH_take (i := 33) (oi := { dst := some 163, op := Op.load 9 (Operand.tmp 162), type := 9, pos := "law.go:78", after := #[{ on := 32, ground := Ground.data }, { on := 30, ground := Ground.guard }], guard := some (30, false) }) (v := ?_) rfl (by kernel_rfl) (by kernel_rfl) (by kernel_rfl) (fun _ _ _ h => h) (Or.inl ⟨by rfl, ?_⟩) (by assumption) ?_
            rotate_left
            · intro w hSw
              try dsimp only at hSw
              go_simp
              first | done | with_reducible rfl
            try simp only [Act.put, List.setIfInBounds_toArray, List.set_cons_zero, List.set_cons_succ]
            refine wpAnyH_take (i := 35) (oi := { dst := some 165, op := Op.fieldAddr 29 (Operand.tmp 4) 0, type := 0, pos := "law.go:78", after := #[{ on := 30, ground := Ground.guard }], guard := some (30, false) }) (v := ?_) rfl (by kernel_rfl) (by kernel_rfl) (by kernel_rfl) (fun _ _ _ h => h) (Or.inl ⟨by rfl, ?_⟩) (by assumption) ?_
            rotate_left
            · intro w hSw
              try dsimp only at hSw
              go_simp
              first | done | with_reducible rfl
            try simp only [Act.put, List.setIfInBounds_toArray, List.set_cons_zero, List.set_cons_succ]
            refine wpAnyH_take (i := 36) (oi := { dst := some 166, op := Op.load 26 (Operand.tmp 165), type := 26, pos := "law.go:78", after := #[{ on := 35, ground := Ground.data }, { on := 30, ground := Ground.guard }], guard := some (30, false) }) (v := ?_) rfl (by kernel_rfl) (by kernel_rfl) (by kernel_rfl) (fun _ _ _ h => h) (Or.inl ⟨by rfl, ?_⟩) (by assumption) ?_
            rotate_left
            · intro w hSw
              try dsimp only at hSw
              go_simp
              first | done | with_reducible rfl
            try simp only [Act.put, List.setIfInBounds_toArray, List.set_cons_zero, List.set_cons_succ]
            refine wpAnyH_take (i := 37) (oi := { dst := some 167, op := Op.fieldAddr 32 (Operand.tmp 6) 2, type := 0, pos := "law.go:78", after := #[{ on := 30, ground := Ground.guard }], guard := some (30, false) }) (v := ?_) rfl (by kernel_rfl) (by kernel_rfl) (by kernel_rfl) (fun _ _ _ h => h) (Or.inl ⟨by rfl, ?_⟩) (by assumption) ?_
            rotate_left
            · intro w hSw
              try dsimp only at hSw
              go_simp
              first | done | with_reducible rfl
            try simp only [Act.put, List.setIfInBounds_toArray, List.set_cons_zero, List.set_cons_succ]
            refine wpAnyH_take (i := 38) (oi := { dst := some 168, op := Op.load 9 (Operand.tmp 167), type := 9, pos := "law.go:78", after := #[{ on := 37, ground := Ground.data }, { on := 30, ground := Ground.guard }], guard := some (30, false) }) (v := ?_) rfl (by kernel_rfl) (by kernel_rfl) (by kernel_rfl) (fun _ _ _ h => h) (Or.inl ⟨by rfl, ?_⟩) (by assumption) ?_
            rotate_left
            · intro w hSw
              try dsimp only at hSw
              go_simp
              first | done | with_reducible rfl
            try simp only [Act.put, List.setIfInBounds_toArray, List.set_cons_zero, List.set_cons_succ]
            refine wpAnyH_ready (rs := [34]) (by kernel_rfl) (by simp) ?_
            refine AllReadyH.cons (o := { dst := some 164, op := Op.call { callee := Callee.value (Operand.func 28), args := #[Operand.tmp 161, Operand.tmp 163], argTypes := #[24, 9] }, type := 3, pos := "law.go:78", after := #[{ on := 31, ground := Ground.data }, { on := 33, ground := Ground.data }, { on := 30, ground := Ground.chain }, { on := 30, ground := Ground.guard }], guard := some (30, false) }) rfl (fun K hK => ?_) AllReadyH.nil
            go_simp
            (clear hs13 hs14; go_at_call 28; refine (HCA.out _ (lp5_of (by assumption))).mono ?_; rintro e w16 ⟨rfl, hbx⟩)
            try go_wp2_with fail
            refine hK.out _ _ ?_ (fun hHeld => ?_)
            · first | assumption | exact LP.held5 (lp5_of (by assumption)) (lp5_c (by assumption)) hbx
            clear hK K
            try simp only [Act.put, List.setIfInBounds_toArray, List.set_cons_zero, List.set_cons_succ]
            refine wpAnyH_ready (rs := [39]) (by kernel_rfl) (by simp) ?_
            refine AllReadyH.cons (o := { dst := some 169, op := Op.call { callee := Callee.value (Operand.func 21), args := #[Operand.tmp 166, Operand.tmp 168], argTypes := #[26, 9] }, type := 3, pos := "law.go:78", after := #[{ on := 36, ground := Ground.data }, { on := 38, ground := Ground.data }, { on := 34, ground := Ground.chain }, { on := 30, ground := Ground.guard }], guard := some (30, false) }) rfl (fun K hK => ?_) AllReadyH.nil
            go_simp
            (go_at_call 21; refine (HCP.out _ (lp5_of (by assumption))).mono ?_; rintro e w17 ⟨rfl, hbx⟩)
            try go_wp2_with fail
            refine hK.out _ _ ?_ (fun hHeld => ?_)
            · first | assumption | exact LP.held5 (lp5_of (by assumption)) (lp5_c (by assumption)) hbx
            clear hK K
            try simp only [Act.put, List.setIfInBounds_toArray, List.set_cons_zero, List.set_cons_succ]
            refine wpAnyH_take (i := 40) (oi := { dst := some 170, op := Op.binOp BinOp.neq 3 (Operand.tmp 164) (Operand.tmp 169) 3, type := 4, pos := "law.go:78", after := #[{ on := 34, ground := Ground.data }, { on := 39, ground := Ground.data }, { on := 30, ground := Ground.guard }], guard := some (30, false) }) (v := ?_) rfl (by kernel_rfl) (by kernel_rfl) (by kernel_rfl) (fun _ _ _ h => h) (Or.inl ⟨by rfl, ?_⟩) (by assumption) ?_
            rotate_left
            · intro w hSw
              try dsimp only at hSw
              go_simp
              first | done | with_reducible rfl
            try simp only [Act.put, List.setIfInBounds_toArray, List.set_cons_zero, List.set_cons_succ]
            refine wpAnyH_take (i := 41) (oi := { dst := some 171, op := Op.pick (Operand.tmp 160) (Operand.const (Value.bool true)) (Operand.tmp 170), type := 4, pos := "law.go:78", after := #[{ on := 30, ground := Ground.data }, { on := 40, ground := Ground.data }], guard := none }) (v := ?_) rfl (by kernel_rfl) (by kernel_rfl) (by kernel_rfl) (fun _ _ _ h => h) (Or.inl ⟨by rfl, ?_⟩) (by assumption) ?_
            rotate_left
            · intro w hSw
              try dsimp only at hSw
              go_simp
              first | done | with_reducible rfl
            try simp only [Act.put, List.setIfInBounds_toArray, List.set_cons_zero, List.set_cons_succ]
            refine wpAnyH_take (i := 42) (oi := { dst := some 172, op := Op.move (Operand.tmp 171), type := 4, pos := "law.go:78", after := #[{ on := 41, ground := Ground.data }, { on := 39, ground := Ground.chain }], guard := none }) (v := ?_) rfl (by kernel_rfl) (by kernel_rfl) (by kernel_rfl) (fun _ _ _ h => h) (Or.inl ⟨by rfl, ?_⟩) (by assumption) ?_
            rotate_left
            · intro w hSw
              try dsimp only at hSw
              go_simp
              first | done | with_reducible rfl
            try simp only [Act.put, List.setIfInBounds_toArray, List.set_cons_zero, List.set_cons_succ]
            refine wpAnyH_take (i := 43) (oi := { dst := some 173, op := Op.move (Operand.tmp 21), type := 4, pos := "law.go:78", after := #[{ on := 42, ground := Ground.guard }], guard := some (42, false) }) (v := ?_) rfl (by kernel_rfl) (by kernel_rfl) (by kernel_rfl) (fun _ _ _ h => h) (Or.inl ⟨by rfl, ?_⟩) (by assumption) ?_
            rotate_left
            · intro w hSw
              try dsimp only at hSw
              go_simp
              first | done | with_reducible rfl
            try simp only [Act.put, List.setIfInBounds_toArray, List.set_cons_zero, List.set_cons_succ]
            refine wpAnyH_take (i := 44) (oi := { dst := some 174, op := Op.move (Operand.tmp 19), type := 3, pos := "law.go:78", after := #[{ on := 42, ground := Ground.guard }], guard := some (42, false) }) (v := ?_) rfl (by kernel_rfl) (by kernel_rfl) (by kernel_rfl) (fun _ _ _ h => h) (Or.inl ⟨by rfl, ?_⟩) (by assumption) ?_
            rotate_left
            · intro w hSw
              try dsimp only at hSw
              go_simp
              first | done | with_reducible rfl
            try simp only [Act.put, List.setIfInBounds_toArray, List.set_cons_zero, List.set_cons_succ]
            refine wpAnyH_take (i := 45) (oi := { dst := some 175, op := Op.binOp BinOp.geq 3 (Operand.tmp 174) (Operand.const (Value.int IntKind.i64 0)) 3, type := 4, pos := "law.go:78", after := #[{ on := 44, ground := Ground.data }, { on := 42, ground := Ground.guard }], guard := some (42, false) }) (v := ?_) rfl (by kernel_rfl) (by kernel_rfl) (by kernel_rfl) (fun _ _ _ h => h) (Or.inl ⟨by rfl, ?_⟩) (by assumption) ?_
            rotate_left
            · intro w hSw
              try dsimp only at hSw
              go_simp
              first | done | with_reducible rfl
            try simp only [Act.put, List.setIfInBounds_toArray, List.set_cons_zero, List.set_cons_succ]
            refine wpAnyH_take (i := 46) (oi := { dst := some 176, op := Op.binOp BinOp.neq 4 (Operand.tmp 173) (Operand.tmp 175) 4, type := 4, pos := "law.go:78", after := #[{ on := 43, ground := Ground.data }, { on := 45, ground := Ground.data }, { on := 42, ground := Ground.guard }], guard := some (42, false) }) (v := ?_) rfl (by kernel_rfl) (by kernel_rfl) (by kernel_rfl) (fun _ _ _ h => h) (Or.inl ⟨by rfl, ?_⟩) (by assumption) ?_
            rotate_left
            · intro w hSw
              try dsimp only at hSw
              go_simp
              first | done | with_reducible rfl
            try simp only [Act.put, List.setIfInBounds_toArray, List.set_cons_zero, List.set_cons_succ]
            refine wpAnyH_take (i := 47) (oi := { dst := some 177, op := Op.pick (Operand.tmp 172) (Operand.const (Value.bool true)) (Operand.tmp 176), type := 4, pos := "law.go:78", after := #[{ on := 42, ground := Ground.data }, { on := 46, ground := Ground.data }], guard := none }) (v := ?_) rfl (by kernel_rfl) (by kernel_rfl) (by kernel_rfl) (fun _ _ _ h => h) (Or.inl ⟨by rfl, ?_⟩) (by assumption) ?_
            rotate_left
            · intro w hSw
              try dsimp only at hSw
              go_simp
              first | done | with_reducible rfl
            try simp only [Act.put, List.setIfInBounds_toArray, List.set_cons_zero, List.set_cons_succ]
            refine wpAnyH_take (i := 48) (oi := { dst := some 178, op := Op.move (Operand.tmp 177), type := 4, pos := "law.go:78", after := #[{ on := 47, ground := Ground.data }, { on := 42, ground := Ground.chain }], guard := none }) (v := ?_) rfl (by kernel_rfl) (by kernel_rfl) (by kernel_rfl) (fun _ _ _ h => h) (Or.inl ⟨by rfl, ?_⟩) (by assumption) ?_
            rotate_left
            · intro w hSw
              try dsimp only at hSw
              go_simp
              first | done | with_reducible rfl
            try simp only [Act.put, List.setIfInBounds_toArray, List.set_cons_zero, List.set_cons_succ]
            refine wpAnyH_take (i := 49) (oi := { dst := some 179, op := Op.move (Operand.tmp 21), type := 4, pos := "law.go:78", after := #[{ on := 48, ground := Ground.guard }], guard := some (48, false) }) (v := ?_) rfl (by kernel_rfl) (by kernel_rfl) (by kernel_rfl) (fun _ _ _ h => h) (Or.inl ⟨by rfl, ?_⟩) (by assumption) ?_
            rotate_left
            · intro w hSw
              try dsimp only at hSw
              go_simp
              first | done | with_reducible rfl
            try simp only [Act.put, List.setIfInBounds_toArray, List.set_cons_zero, List.set_cons_succ]
            refine wpAnyH_take (i := 50) (oi := { dst := some 180, op := Op.move (Operand.tmp 179), type := 4, pos := "law.go:78", after := #[{ on := 49, ground := Ground.data }, { on := 48, ground := Ground.chain }, { on := 48, ground := Ground.guard }], guard := some (48, false) }) (v := ?_) rfl (by kernel_rfl) (by kernel_rfl) (by kernel_rfl) (fun _ _ _ h => h) (Or.inl ⟨by rfl, ?_⟩) (by assumption) ?_
            rotate_left
            · intro w hSw
              try dsimp only at hSw
              go_simp
              first | done | with_reducible rfl
            try simp only [Act.put, List.setIfInBounds_toArray, List.set_cons_zero, List.set_cons_succ]
            refine wpAnyH_take (i := 51) (oi := { dst := some 181, op := Op.move (Operand.tmp 20), type := 3, pos := "law.go:78", after := #[{ on := 50, ground := Ground.guard }], guard := some (50, true) }) (v := ?_) rfl (by kernel_rfl) (by kernel_rfl) (by kernel_rfl) (fun _ _ _ h => h) (Or.inl ⟨by rfl, ?_⟩) (by assumption) ?_
            rotate_left
            · intro w hSw
              try dsimp only at hSw
              go_simp
              first | done | with_reducible rfl
            try simp only [Act.put, List.setIfInBounds_toArray, List.set_cons_zero, List.set_cons_succ]
            refine wpAnyH_take (i := 52) (oi := { dst := some 182, op := Op.fieldAddr 29 (Operand.tmp 4) 2, type := 0, pos := "law.go:78", after := #[{ on := 50, ground := Ground.guard }], guard := some (50, true) }) (v := ?_) rfl (by kernel_rfl) (by kernel_rfl) (by kernel_rfl) (fun _ _ _ h => h) (Or.inl ⟨by rfl, ?_⟩) (by assumption) ?_
            rotate_left
            · intro w hSw
              try dsimp only at hSw
              go_simp
              first | done | with_reducible rfl
            try simp only [Act.put, List.setIfInBounds_toArray, List.set_cons_zero, List.set_cons_succ]
            refine wpAnyH_take (i := 53) (oi := { dst := some 183, op := Op.load 27 (Operand.tmp 182), type := 27, pos := "law.go:78", after := #[{ on := 52, ground := Ground.data }, { on := 50, ground := Ground.guard }], guard := some (50, true) }) (v := ?_) rfl (by kernel_rfl) (by kernel_rfl) (by kernel_rfl) (fun _ _ _ h => h) (Or.inl ⟨by rfl, ?_⟩) (by assumption) ?_
            rotate_left
            · intro w hSw
              try dsimp only at hSw
              go_simp
              first | done | with_reducible rfl
            try simp only [Act.put, List.setIfInBounds_toArray, List.set_cons_zero, List.set_cons_succ]
            refine wpAnyH_take (i := 54) (oi := { dst := some 184, op := Op.move (Operand.tmp 19), type := 3, pos := "law.go:78", after := #[{ on := 50, ground := Ground.guard }], guard := some (50, true) }) (v := ?_) rfl (by kernel_rfl) (by kernel_rfl) (by kernel_rfl) (fun _ _ _ h => h) (Or.inl ⟨by rfl, ?_⟩) (by assumption) ?_
            rotate_left
            · intro w hSw
              try dsimp only at hSw
              go_simp
              first | done | with_reducible rfl
            try simp only [Act.put, List.setIfInBounds_toArray, List.set_cons_zero, List.set_cons_succ]
            refine wpAnyH_take (i := 55) (oi := { dst := some 185, op := Op.indexAddr 27 (Operand.tmp 183) (Operand.tmp 184), type := 0, pos := "law.go:78", after := #[{ on := 53, ground := Ground.data }, { on := 54, ground := Ground.data }, { on := 50, ground := Ground.guard }], guard := some (50, true) }) (v := ?_) rfl (by kernel_rfl) (by kernel_rfl) (by kernel_rfl) (fun _ _ _ h => h) (Or.inl ⟨by rfl, ?_⟩) (by assumption) ?_
            rotate_left
            · intro w hSw
              try dsimp only at hSw
              go_simp
              first | done | with_reducible rfl
            try simp only [Act.put, List.setIfInBounds_toArray, List.set_cons_zero, List.set_cons_succ]
            refine wpAnyH_take (i := 56) (oi := { dst := some 186, op := Op.load 3 (Operand.tmp 185), type := 3, pos := "law.go:78", after := #[{ on := 55, ground := Ground.data }, { on := 50, ground := Ground.guard }], guard := some (50, true) }) (v := ?_) rfl (by kernel_rfl) (by kernel_rfl) (by kernel_rfl) (fun _ _ _ h => h) (Or.inl ⟨by rfl, ?_⟩) (by assumption) ?_
            rotate_left
            · intro w hSw
              try dsimp only at hSw
              go_simp
              first | done | with_reducible rfl
            try simp only [Act.put, List.setIfInBounds_toArray, List.set_cons_zero, List.set_cons_succ]
            refine wpAnyH_take (i := 57) (oi := { dst := some 187, op := Op.binOp BinOp.neq 3 (Operand.tmp 181) (Operand.tmp 186) 3, type := 4, pos := "law.go:78", after := #[{ on := 51, ground := Ground.data }, { on := 56, ground := Ground.data }, { on := 50, ground := Ground.guard }], guard := some (50, true) }) (v := ?_) rfl (by kernel_rfl) (by kernel_rfl) (by kernel_rfl) (fun _ _ _ h => h) (Or.inl ⟨by rfl, ?_⟩) (by assumption) ?_
            rotate_left
            · intro w hSw
              try dsimp only at hSw
              go_simp
              first | done | with_reducible rfl
            try simp only [Act.put, List.setIfInBounds_toArray, List.set_cons_zero, List.set_cons_succ]
            refine wpAnyH_take (i := 58) (oi := { dst := some 188, op := Op.pick (Operand.tmp 180) (Operand.tmp 187) (Operand.const (Value.bool false)), type := 4, pos := "law.go:78", after := #[{ on := 50, ground := Ground.data }, { on := 57, ground := Ground.data }, { on := 48, ground := Ground.guard }], guard := some (48, false) }) (v := ?_) rfl (by kernel_rfl) (by kernel_rfl) (by kernel_rfl) (fun _ _ _ h => h) (Or.inl ⟨by rfl, ?_⟩) (by assumption) ?_
            rotate_left
            · intro w hSw
              try dsimp only at hSw
              go_simp
              first | done | with_reducible rfl
            try simp only [Act.put, List.setIfInBounds_toArray, List.set_cons_zero, List.set_cons_succ]
            refine wpAnyH_take (i := 59) (oi := { dst := some 189, op := Op.pick (Operand.tmp 178) (Operand.const (Value.bool true)) (Operand.tmp 188), type := 4, pos := "law.go:78", after := #[{ on := 48, ground := Ground.data }, { on := 58, ground := Ground.data }], guard := none }) (v := ?_) rfl (by kernel_rfl) (by kernel_rfl) (by kernel_rfl) (fun _ _ _ h => h) (Or.inl ⟨by rfl, ?_⟩) (by assumption) ?_
            rotate_left
            · intro w hSw
              try dsimp only at hSw
              go_simp
              first | done | with_reducible rfl
            try simp only [Act.put, List.setIfInBounds_toArray, List.set_cons_zero, List.set_cons_succ]
            refine wpAnyH_done (by kernel_rfl) ?_ _
            all_goals (
              have LE := lp5_of (w' := w17) (by assumption)
              have HBE := Hid.mk' LE
              go_wp2_with fail
              go_meet
              exact ⟨by simp, HBE.out⟩)
          | false =>
            have hnm : st.nm ∉ nms M2 := isIn_not.1 (HDI.out.2.trans hI)
            have hKF : KK = -1 := by rw [← HKK.out, plc_not hnm]
            subst hKF
            subst hI
            have HCW : Hid (∀ w', LP w3 w8 P A2 g b s L2 M2 (.slice a0 N0 n0) (.slice a1 N1 n1) (.slice a2 N2 n2) st w' → Calls Try.prog 24 #[.pointer (some ⟨g, 0, none⟩)] w' fun e w'' => e = .returned (.slice (some ⟨w'.heap.size, 0, none⟩) L2.length L2.length) ∧ StrsAt w'' (some ⟨w'.heap.size, 0, none⟩) L2.length L2.length (nms L2) ∧ Below w'.heap.size w' w'') := fun w' h => waits_w w' A2 g L2 M2 h.dat (by have := HV2.out.few; omega)
            have HCU : Hid (∀ w', LP w3 w8 P A2 g b s L2 M2 (.slice a0 N0 n0) (.slice a1 N1 n1) (.slice a2 N2 n2) st w' → Calls Try.prog 25 #[.pointer (some ⟨g, 0, none⟩)] w' fun e w'' => e = .returned (.slice (some ⟨w'.heap.size, 0, none⟩) M2.length M2.length) ∧ StrsAt w'' (some ⟨w'.heap.size, 0, none⟩) M2.length M2.length (nms M2) ∧ Below w'.heap.size w' w'') := fun w' h => under_w w' A2 g L2 M2 h.dat (by have := HM2.out; omega)
            have HSW : Hid (∀ (w' : World) (a : Option Addr) (n c : Nat), LP w3 w8 P A2 g b s L2 M2 (.slice a0 N0 n0) (.slice a1 N1 n1) (.slice a2 N2 n2) st w' → StrsAt w' a n c (nms L2) → Calls Try.prog 23 #[.slice a n c, .slice a0 N0 n0] w' fun e w'' => e = .returned (.bool true) ∧ Below w'.heap.size w' w'') := fun w' a n c h hs => same_is _ _ _ _ _ _ _ w' hs h.wt
            have HSU : Hid (∀ (w' : World) (a : Option Addr) (n c : Nat), LP w3 w8 P A2 g b s L2 M2 (.slice a0 N0 n0) (.slice a1 N1 n1) (.slice a2 N2 n2) st w' → StrsAt w' a n c (nms M2) → Calls Try.prog 23 #[.slice a n c, .slice a1 N1 n1] w' fun e w'' => e = .returned (.bool true) ∧ Below w'.heap.size w' w'') := fun w' a n c h hs => same_is _ _ _ _ _ _ _ w' hs h.un
            have HCD : Hid (∀ w', LP w3 w8 P A2 g b s L2 M2 (.slice a0 N0 n0) (.slice a1 N1 n1) (.slice a2 N2 n2) st w' → Calls Try.prog 26 #[.pointer (some ⟨g, 0, none⟩), .int .i64 st.n] w' fun e w'' => ∃ a n c, e = .returned (.slice a n c) ∧ StrsAt w'' a n c (dueL st.n M2) ∧ Below w'.heap.size w' w'') := fun w' h => due_e w' A2 g L2 M2 st.n h.dat (by have := HM2.out; omega)
            have HCR : Hid (∀ w', LP w3 w8 P A2 g b s L2 M2 (.slice a0 N0 n0) (.slice a1 N1 n1) (.slice a2 N2 n2) st w' → Calls Try.prog 27 #[.agg #[.slice a0 N0 n0, .slice a1 N1 n1, .slice a2 N2 n2], .int .i64 st.n] w' fun e w'' => ∃ a n c, e = .returned (.slice a n c) ∧ StrsAt w'' a n c (dueL st.n M2) ∧ Below w'.heap.size w' w'') := fun w' h => rdue_e w' _ _ _ _ _ _ _ _ _ M2 st.n h.un h.zs (by have := HM2.out; omega)
            have HCA : Hid (∀ w', LP w3 w8 P A2 g b s L2 M2 (.slice a0 N0 n0) (.slice a1 N1 n1) (.slice a2 N2 n2) st w' → Calls Try.prog 28 #[.pointer (some ⟨g, 0, none⟩), .string st.nm] w' fun e w'' => e = .returned (.int .i64 PL) ∧ Below w'.heap.size w' w'') := fun w' h => by rw [← HPP.out]; exact ahead_w w' A2 g L2 M2 st.nm h.dat
            have HCP : Hid (∀ w', LP w3 w8 P A2 g b s L2 M2 (.slice a0 N0 n0) (.slice a1 N1 n1) (.slice a2 N2 n2) st w' → Calls Try.prog 21 #[.slice a0 N0 n0, .string st.nm] w' fun e w'' => e = .returned (.int .i64 PL) ∧ Below w'.heap.size w' w'') := fun w' h => by rw [← HPP.out]; exact (place_any a0 N0 n0 (nms L2) st.nm w' h.wt).mono fun _ _ ⟨h1, h2⟩ => ⟨h1, h2 ▸ Below.refl _ _⟩
            clear hnm HKK HDI HMM HSZ HMI HNN hz0 hz1 hz2 hz3 hz4 hz5
            refine wp_region_held_drew (S := fun w' => w'.cell? ⟨b, 0, none⟩ = some (.slice a0 N0 n0) ∧ w'.cell? ⟨b, 1, none⟩ = some (.slice a1 N1 n1) ∧ w'.cell? ⟨b, 2, none⟩ = some (.slice a2 N2 n2) ∧ w'.cell? ⟨s, 1, none⟩ = some (.int .i64 st.n) ∧ w'.cell? ⟨s, 2, none⟩ = some (.string st.nm) ∧ LP w3 w8 P A2 g b s L2 M2 (.slice a0 N0 n0) (.slice a1 N1 n1) (.slice a2 N2 n2) st w') (by kernel_rfl) ?_ (fun hHeld => ?_)
            · exact LP.held HL.out (below_drewN (Below.refl _ _) 1)
            refine wpAnyH_take (i := 0) (oi := { dst := some 130, op := Op.move (Operand.tmp 7), type := 4, pos := "law.go:78", after := #[], guard := none }) (v := ?_) rfl (by kernel_rfl) (by kernel_rfl) (by kernel_rfl) (fun _ _ _ h => h) (Or.inl ⟨by rfl, ?_⟩) (by assumption) ?_
            rotate_left
            · intro w hSw
              try dsimp only at hSw
              go_simp
              first | done | with_reducible rfl
            try simp only [Act.put, List.setIfInBounds_toArray, List.set_cons_zero, List.set_cons_succ]
            refine wpAnyH_take (i := 1) (oi := { dst := some 131, op := Op.unOp UnOp.not 4 (Operand.tmp 130), type := 4, pos := "law.go:78", after := #[{ on := 0, ground := Ground.data }], guard := none }) (v := ?_) rfl (by kernel_rfl) (by kernel_rfl) (by kernel_rfl) (fun _ _ _ h => h) (Or.inl ⟨by rfl, ?_⟩) (by assumption) ?_
            rotate_left
            · intro w hSw
              try dsimp only at hSw
              go_simp
              first | done | with_reducible rfl
            try simp only [Act.put, List.setIfInBounds_toArray, List.set_cons_zero, List.set_cons_succ]
            refine wpAnyH_take (i := 2) (oi := { dst := some 132, op := Op.move (Operand.tmp 131), type := 4, pos := "law.go:78", after := #[{ on := 1, ground := Ground.data }], guard := none }) (v := ?_) rfl (by kernel_rfl) (by kernel_rfl) (by kernel_rfl) (fun _ _ _ h => h) (Or.inl ⟨by rfl, ?_⟩) (by assumption) ?_
            rotate_left
            · intro w hSw
              try dsimp only at hSw
              go_simp
              first | done | with_reducible rfl
            try simp only [Act.put, List.setIfInBounds_toArray, List.set_cons_zero, List.set_cons_succ]
            refine wpAnyH_take (i := 3) (oi := { dst := some 133, op := Op.move (Operand.tmp 3), type := 24, pos := "law.go:78", after := #[{ on := 2, ground := Ground.guard }], guard := some (2, false) }) (v := ?_) rfl (by kernel_rfl) (by kernel_rfl) (by kernel_rfl) (fun _ _ _ h => h) (Or.inl ⟨by rfl, ?_⟩) (by assumption) ?_
            rotate_left
            · intro w hSw
              try dsimp only at hSw
              go_simp
              first | done | with_reducible rfl
            try simp only [Act.put, List.setIfInBounds_toArray, List.set_cons_zero, List.set_cons_succ]
            refine wpAnyH_take (i := 5) (oi := { dst := some 135, op := Op.fieldAddr 29 (Operand.tmp 4) 0, type := 0, pos := "law.go:78", after := #[{ on := 2, ground := Ground.guard }], guard := some (2, false) }) (v := ?_) rfl (by kernel_rfl) (by kernel_rfl) (by kernel_rfl) (fun _ _ _ h => h) (Or.inl ⟨by rfl, ?_⟩) (by assumption) ?_
            rotate_left
            · intro w hSw
              try dsimp only at hSw
              go_simp
              first | done | with_reducible rfl
            try simp only [Act.put, List.setIfInBounds_toArray, List.set_cons_zero, List.set_cons_succ]
            refine wpAnyH_take (i := 6) (oi := { dst := some 136, op := Op.load 26 (Operand.tmp 135), type := 26, pos := "law.go:78", after := #[{ on := 5, ground := Ground.data }, { on := 2, ground := Ground.guard }], guard := some (2, false) }) (v := ?_) rfl (by kernel_rfl) (by kernel_rfl) (by kernel_rfl) (fun _ _ _ h => h) (Or.inl ⟨by rfl, ?_⟩) (by assumption) ?_
            rotate_left
            · intro w hSw
              try dsimp only at hSw
              go_simp
              first | done | with_reducible rfl
            try simp only [Act.put, List.setIfInBounds_toArray, List.set_cons_zero, List.set_cons_succ]
            refine wpAnyH_ready (rs := [4]) (by kernel_rfl) (by simp) ?_
            refine AllReadyH.cons (o := { dst := some 134, op := Op.call { callee := Callee.value (Operand.func 24), args := #[Operand.tmp 133], argTypes := #[24] }, type := 26, pos := "law.go:78", after := #[{ on := 3, ground := Ground.data }, { on := 2, ground := Ground.chain }, { on := 2, ground := Ground.guard }], guard := some (2, false) }) rfl (fun K hK => ?_) AllReadyH.nil
            go_simp
            (go_at_call 24; refine (HCW.out _ (lp_of (by assumption))).mono ?_; rintro e w9 ⟨rfl, hs9, hbx⟩)
            try go_wp2_with fail
            refine hK.out _ _ ?_ (fun hHeld => ?_)
            · first | assumption | exact LP.held (lp_of (by assumption)) hbx
            clear hK K
            try simp only [Act.put, List.setIfInBounds_toArray, List.set_cons_zero, List.set_cons_succ]
            refine wpAnyH_ready (rs := [7]) (by kernel_rfl) (by simp) ?_
            refine AllReadyH.cons (o := { dst := some 137, op := Op.call { callee := Callee.value (Operand.func 23), args := #[Operand.tmp 134, Operand.tmp 136], argTypes := #[26, 26] }, type := 4, pos := "law.go:78", after := #[{ on := 4, ground := Ground.data }, { on := 6, ground := Ground.data }, { on := 4, ground := Ground.chain }, { on := 2, ground := Ground.guard }], guard := some (2, false) }) rfl (fun K hK => ?_) AllReadyH.nil
            go_simp
            (go_at_call 23; refine (HSW.out _ _ _ _ (lp_of (by assumption)) hs9).mono ?_; rintro e w10 ⟨rfl, hbx⟩)
            try go_wp2_with fail
            refine hK.out _ _ ?_ (fun hHeld => ?_)
            · first | assumption | exact LP.held (lp_of (by assumption)) hbx
            clear hK K
            try simp only [Act.put, List.setIfInBounds_toArray, List.set_cons_zero, List.set_cons_succ]
            refine wpAnyH_take (i := 8) (oi := { dst := some 138, op := Op.unOp UnOp.not 4 (Operand.tmp 137), type := 4, pos := "law.go:78", after := #[{ on := 7, ground := Ground.data }, { on := 2, ground := Ground.guard }], guard := some (2, false) }) (v := ?_) rfl (by kernel_rfl) (by kernel_rfl) (by kernel_rfl) (fun _ _ _ h => h) (Or.inl ⟨by rfl, ?_⟩) (by assumption) ?_
            rotate_left
            · intro w hSw
              try dsimp only at hSw
              go_simp
              first | done | with_reducible rfl
            try simp only [Act.put, List.setIfInBounds_toArray, List.set_cons_zero, List.set_cons_succ]
            refine wpAnyH_take (i := 9) (oi := { dst := some 139, op := Op.pick (Operand.tmp 132) (Operand.const (Value.bool true)) (Operand.tmp 138), type := 4, pos := "law.go:78", after := #[{ on := 2, ground := Ground.data }, { on := 8, ground := Ground.data }], guard := none }) (v := ?_) rfl (by kernel_rfl) (by kernel_rfl) (by kernel_rfl) (fun _ _ _ h => h) (Or.inl ⟨by rfl, ?_⟩) (by assumption) ?_
            rotate_left
            · intro w hSw
              try dsimp only at hSw
              go_simp
              first | done | with_reducible rfl
            try simp only [Act.put, List.setIfInBounds_toArray, List.set_cons_zero, List.set_cons_succ]
            refine wpAnyH_take (i := 10) (oi := { dst := some 140, op := Op.move (Operand.tmp 139), type := 4, pos := "law.go:78", after := #[{ on := 9, ground := Ground.data }, { on := 7, ground := Ground.chain }], guard := none }) (v := ?_) rfl (by kernel_rfl) (by kernel_rfl) (by kernel_rfl) (fun _ _ _ h => h) (Or.inl ⟨by rfl, ?_⟩) (by assumption) ?_
            rotate_left
            · intro w hSw
              try dsimp only at hSw
              go_simp
              first | done | with_reducible rfl
            try simp only [Act.put, List.setIfInBounds_toArray, List.set_cons_zero, List.set_cons_succ]
            refine wpAnyH_take (i := 11) (oi := { dst := some 141, op := Op.move (Operand.tmp 3), type := 24, pos := "law.go:78", after := #[{ on := 10, ground := Ground.guard }], guard := some (10, false) }) (v := ?_) rfl (by kernel_rfl) (by kernel_rfl) (by kernel_rfl) (fun _ _ _ h => h) (Or.inl ⟨by rfl, ?_⟩) (by assumption) ?_
            rotate_left
            · intro w hSw
              try dsimp only at hSw
              go_simp
              first | done | with_reducible rfl
            try simp only [Act.put, List.setIfInBounds_toArray, List.set_cons_zero, List.set_cons_succ]
            refine wpAnyH_take (i := 13) (oi := { dst := some 143, op := Op.fieldAddr 29 (Operand.tmp 4) 1, type := 0, pos := "law.go:78", after := #[{ on := 10, ground := Ground.guard }], guard := some (10, false) }) (v := ?_) rfl (by kernel_rfl) (by kernel_rfl) (by kernel_rfl) (fun _ _ _ h => h) (Or.inl ⟨by rfl, ?_⟩) (by assumption) ?_
            rotate_left
            · intro w hSw
              try dsimp only at hSw
              go_simp
              first | done | with_reducible rfl
            try simp only [Act.put, List.setIfInBounds_toArray, List.set_cons_zero, List.set_cons_succ]
            refine wpAnyH_take (i := 14) (oi := { dst := some 144, op := Op.load 26 (Operand.tmp 143), type := 26, pos := "law.go:78", after := #[{ on := 13, ground := Ground.data }, { on := 10, ground := Ground.guard }], guard := some (10, false) }) (v := ?_) rfl (by kernel_rfl) (by kernel_rfl) (by kernel_rfl) (fun _ _ _ h => h) (Or.inl ⟨by rfl, ?_⟩) (by assumption) ?_
            rotate_left
            · intro w hSw
              try dsimp only at hSw
              go_simp
              first | done | with_reducible rfl
            try simp only [Act.put, List.setIfInBounds_toArray, List.set_cons_zero, List.set_cons_succ]
            refine wpAnyH_ready (rs := [12]) (by kernel_rfl) (by simp) ?_
            refine AllReadyH.cons (o := { dst := some 142, op := Op.call { callee := Callee.value (Operand.func 25), args := #[Operand.tmp 141], argTypes := #[24] }, type := 26, pos := "law.go:78", after := #[{ on := 11, ground := Ground.data }, { on := 10, ground := Ground.chain }, { on := 10, ground := Ground.guard }], guard := some (10, false) }) rfl (fun K hK => ?_) AllReadyH.nil
            go_simp
            (clear hs9; go_at_call 25; refine (HCU.out _ (lp_of (by assumption))).mono ?_; rintro e w11 ⟨rfl, hs11, hbx⟩)
            try go_wp2_with fail
            refine hK.out _ _ ?_ (fun hHeld => ?_)
            · first | assumption | exact LP.held (lp_of (by assumption)) hbx
            clear hK K
            try simp only [Act.put, List.setIfInBounds_toArray, List.set_cons_zero, List.set_cons_succ]
            refine wpAnyH_ready (rs := [15]) (by kernel_rfl) (by simp) ?_
            refine AllReadyH.cons (o := { dst := some 145, op := Op.call { callee := Callee.value (Operand.func 23), args := #[Operand.tmp 142, Operand.tmp 144], argTypes := #[26, 26] }, type := 4, pos := "law.go:78", after := #[{ on := 12, ground := Ground.data }, { on := 14, ground := Ground.data }, { on := 12, ground := Ground.chain }, { on := 10, ground := Ground.guard }], guard := some (10, false) }) rfl (fun K hK => ?_) AllReadyH.nil
            go_simp
            (go_at_call 23; refine (HSU.out _ _ _ _ (lp_of (by assumption)) hs11).mono ?_; rintro e w12 ⟨rfl, hbx⟩)
            try go_wp2_with fail
            refine hK.out _ _ ?_ (fun hHeld => ?_)
            · first | assumption | exact LP.held (lp_of (by assumption)) hbx
            clear hK K
            try simp only [Act.put, List.setIfInBounds_toArray, List.set_cons_zero, List.set_cons_succ]
            refine wpAnyH_take (i := 16) (oi := { dst := some 146, op := Op.unOp UnOp.not 4 (Operand.tmp 145), type := 4, pos := "law.go:78", after := #[{ on := 15, ground := Ground.data }, { on := 10, ground := Ground.guard }], guard := some (10, false) }) (v := ?_) rfl (by kernel_rfl) (by kernel_rfl) (by kernel_rfl) (fun _ _ _ h => h) (Or.inl ⟨by rfl, ?_⟩) (by assumption) ?_
            rotate_left
            · intro w hSw
              try dsimp only at hSw
              go_simp
              first | done | with_reducible rfl
            try simp only [Act.put, List.setIfInBounds_toArray, List.set_cons_zero, List.set_cons_succ]
            refine wpAnyH_take (i := 17) (oi := { dst := some 147, op := Op.pick (Operand.tmp 140) (Operand.const (Value.bool true)) (Operand.tmp 146), type := 4, pos := "law.go:78", after := #[{ on := 10, ground := Ground.data }, { on := 16, ground := Ground.data }], guard := none }) (v := ?_) rfl (by kernel_rfl) (by kernel_rfl) (by kernel_rfl) (fun _ _ _ h => h) (Or.inl ⟨by rfl, ?_⟩) (by assumption) ?_
            rotate_left
            · intro w hSw
              try dsimp only at hSw
              go_simp
              first | done | with_reducible rfl
            try simp only [Act.put, List.setIfInBounds_toArray, List.set_cons_zero, List.set_cons_succ]
            refine wpAnyH_take (i := 18) (oi := { dst := some 148, op := Op.move (Operand.tmp 147), type := 4, pos := "law.go:78", after := #[{ on := 17, ground := Ground.data }, { on := 15, ground := Ground.chain }], guard := none }) (v := ?_) rfl (by kernel_rfl) (by kernel_rfl) (by kernel_rfl) (fun _ _ _ h => h) (Or.inl ⟨by rfl, ?_⟩) (by assumption) ?_
            rotate_left
            · intro w hSw
              try dsimp only at hSw
              go_simp
              first | done | with_reducible rfl
            try simp only [Act.put, List.setIfInBounds_toArray, List.set_cons_zero, List.set_cons_succ]
            refine wpAnyH_take (i := 19) (oi := { dst := some 149, op := Op.move (Operand.tmp 3), type := 24, pos := "law.go:78", after := #[{ on := 18, ground := Ground.guard }], guard := some (18, false) }) (v := ?_) rfl (by kernel_rfl) (by kernel_rfl) (by kernel_rfl) (fun _ _ _ h => h) (Or.inl ⟨by rfl, ?_⟩) (by assumption) ?_
            rotate_left
            · intro w hSw
              try dsimp only at hSw
              go_simp
              first | done | with_reducible rfl
            try simp only [Act.put, List.setIfInBounds_toArray, List.set_cons_zero, List.set_cons_succ]
            refine wpAnyH_take (i := 20) (oi := { dst := some 150, op := Op.fieldAddr 32 (Operand.tmp 6) 1, type := 0, pos := "law.go:78", after := #[{ on := 18, ground := Ground.guard }], guard := some (18, false) }) (v := ?_) rfl (by kernel_rfl) (by kernel_rfl) (by kernel_rfl) (fun _ _ _ h => h) (Or.inl ⟨by rfl, ?_⟩) (by assumption) ?_
            rotate_left
            · intro w hSw
              try dsimp only at hSw
              go_simp
              first | done | with_reducible rfl
            try simp only [Act.put, List.setIfInBounds_toArray, List.set_cons_zero, List.set_cons_succ]
            refine wpAnyH_take (i := 21) (oi := { dst := some 151, op := Op.load 3 (Operand.tmp 150), type := 3, pos := "law.go:78", after := #[{ on := 20, ground := Ground.data }, { on := 18, ground := Ground.guard }], guard := some (18, false) }) (v := ?_) rfl (by kernel_rfl) (by kernel_rfl) (by kernel_rfl) (fun _ _ _ h => h) (Or.inl ⟨by rfl, ?_⟩) (by assumption) ?_
            rotate_left
            · intro w hSw
              try dsimp only at hSw
              go_simp
              first | done | with_reducible rfl
            try simp only [Act.put, List.setIfInBounds_toArray, List.set_cons_zero, List.set_cons_succ]
            refine wpAnyH_take (i := 23) (oi := { dst := some 153, op := Op.load 29 (Operand.tmp 4), type := 29, pos := "law.go:78", after := #[{ on := 18, ground := Ground.guard }], guard := some (18, false) }) (v := ?_) rfl (by kernel_rfl) (by kernel_rfl) (by kernel_rfl) (fun _ _ _ h => h) (Or.inl ⟨by rfl, ?_⟩) (by assumption) ?_
            rotate_left
            · intro w hSw
              try dsimp only at hSw
              go_simp
              first | done | with_reducible rfl
            try simp only [Act.put, List.setIfInBounds_toArray, List.set_cons_zero, List.set_cons_succ]
            refine wpAnyH_take (i := 24) (oi := { dst := some 154, op := Op.fieldAddr 32 (Operand.tmp 6) 1, type := 0, pos := "law.go:78", after := #[{ on := 18, ground := Ground.guard }], guard := some (18, false) }) (v := ?_) rfl (by kernel_rfl) (by kernel_rfl) (by kernel_rfl) (fun _ _ _ h => h) (Or.inl ⟨by rfl, ?_⟩) (by assumption) ?_
            rotate_left
            · intro w hSw
              try dsimp only at hSw
              go_simp
              first | done | with_reducible rfl
            try simp only [Act.put, List.setIfInBounds_toArray, List.set_cons_zero, List.set_cons_succ]
            refine wpAnyH_take (i := 25) (oi := { dst := some 155, op := Op.load 3 (Operand.tmp 154), type := 3, pos := "law.go:78", after := #[{ on := 24, ground := Ground.data }, { on := 18, ground := Ground.guard }], guard := some (18, false) }) (v := ?_) rfl (by kernel_rfl) (by kernel_rfl) (by kernel_rfl) (fun _ _ _ h => h) (Or.inl ⟨by rfl, ?_⟩) (by assumption) ?_
            rotate_left
            · intro w hSw
              try dsimp only at hSw
              go_simp
              first | done | with_reducible rfl
            try simp only [Act.put, List.setIfInBounds_toArray, List.set_cons_zero, List.set_cons_succ]
            refine wpAnyH_ready (rs := [22]) (by kernel_rfl) (by simp) ?_
            refine AllReadyH.cons (o := { dst := some 152, op := Op.call { callee := Callee.value (Operand.func 26), args := #[Operand.tmp 149, Operand.tmp 151], argTypes := #[24, 3] }, type := 26, pos := "law.go:78", after := #[{ on := 19, ground := Ground.data }, { on := 21, ground := Ground.data }, { on := 18, ground := Ground.chain }, { on := 18, ground := Ground.guard }], guard := some (18, false) }) rfl (fun K hK => ?_) AllReadyH.nil
            go_simp
            (clear hs11; go_at_call 26; refine (HCD.out _ (lp_of (by assumption))).mono ?_; rintro e w13 ⟨a13, n13, c13, rfl, hs13, hbx⟩)
            try go_wp2_with fail
            refine hK.out _ _ ?_ (fun hHeld => ?_)
            · first | assumption | exact LP.held (lp_of (by assumption)) hbx
            clear hK K
            try simp only [Act.put, List.setIfInBounds_toArray, List.set_cons_zero, List.set_cons_succ]
            refine wpAnyH_ready (rs := [26]) (by kernel_rfl) (by simp) ?_
            refine AllReadyH.cons (o := { dst := some 156, op := Op.call { callee := Callee.value (Operand.func 27), args := #[Operand.tmp 153, Operand.tmp 155], argTypes := #[29, 3] }, type := 26, pos := "law.go:78", after := #[{ on := 23, ground := Ground.data }, { on := 25, ground := Ground.data }, { on := 22, ground := Ground.chain }, { on := 18, ground := Ground.guard }], guard := some (18, false) }) rfl (fun K hK => ?_) AllReadyH.nil
            go_simp
            (go_at_call 27; refine (HCR.out _ (lp_of (by assumption))).mono ?_; rintro e w14 ⟨a14, n14, c14, rfl, hs14, hbx⟩; replace hs13 := hs13.below (Nat.le_refl _) hbx)
            try go_wp2_with fail
            refine hK.out _ _ ?_ (fun hHeld => ?_)
            · first | assumption | exact LP.held (lp_of (by assumption)) hbx
            clear hK K
            try simp only [Act.put, List.setIfInBounds_toArray, List.set_cons_zero, List.set_cons_succ]
            refine wpAnyH_ready (rs := [27]) (by kernel_rfl) (by simp) ?_
            refine AllReadyH.cons (o := { dst := some 157, op := Op.call { callee := Callee.value (Operand.func 23), args := #[Operand.tmp 152, Operand.tmp 156], argTypes := #[26, 26] }, type := 4, pos := "law.go:78", after := #[{ on := 22, ground := Ground.data }, { on := 26, ground := Ground.data }, { on := 26, ground := Ground.chain }, { on := 18, ground := Ground.guard }], guard := some (18, false) }) rfl (fun K hK => ?_) AllReadyH.nil
            go_simp
            (go_at_call 23; refine (same_is _ _ _ _ _ _ _ w14 hs13 hs14).mono ?_; rintro e w15 ⟨rfl, hbx⟩)
            try go_wp2_with fail
            refine hK.out _ _ ?_ (fun hHeld => ?_)
            · first | assumption | exact LP.held (lp_of (by assumption)) hbx
            clear hK K
            try simp only [Act.put, List.setIfInBounds_toArray, List.set_cons_zero, List.set_cons_succ]
            refine wpAnyH_take (i := 28) (oi := { dst := some 158, op := Op.unOp UnOp.not 4 (Operand.tmp 157), type := 4, pos := "law.go:78", after := #[{ on := 27, ground := Ground.data }, { on := 18, ground := Ground.guard }], guard := some (18, false) }) (v := ?_) rfl (by kernel_rfl) (by kernel_rfl) (by kernel_rfl) (fun _ _ _ h => h) (Or.inl ⟨by rfl, ?_⟩) (by assumption) ?_
            rotate_left
            · intro w hSw
              try dsimp only at hSw
              go_simp
              first | done | with_reducible rfl
            try simp only [Act.put, List.setIfInBounds_toArray, List.set_cons_zero, List.set_cons_succ]
            refine wpAnyH_take (i := 29) (oi := { dst := some 159, op := Op.pick (Operand.tmp 148) (Operand.const (Value.bool true)) (Operand.tmp 158), type := 4, pos := "law.go:78", after := #[{ on := 18, ground := Ground.data }, { on := 28, ground := Ground.data }], guard := none }) (v := ?_) rfl (by kernel_rfl) (by kernel_rfl) (by kernel_rfl) (fun _ _ _ h => h) (Or.inl ⟨by rfl, ?_⟩) (by assumption) ?_
            rotate_left
            · intro w hSw
              try dsimp only at hSw
              go_simp
              first | done | with_reducible rfl
            try simp only [Act.put, List.setIfInBounds_toArray, List.set_cons_zero, List.set_cons_succ]
            refine wpAnyH_take (i := 30) (oi := { dst := some 160, op := Op.move (Operand.tmp 159), type := 4, pos := "law.go:78", after := #[{ on := 29, ground := Ground.data }, { on := 27, ground := Ground.chain }], guard := none }) (v := ?_) rfl (by kernel_rfl) (by kernel_rfl) (by kernel_rfl) (fun _ _ _ h => h) (Or.inl ⟨by rfl, ?_⟩) (by assumption) ?_
            rotate_left
            · intro w hSw
              try dsimp only at hSw
              go_simp
              first | done | with_reducible rfl
            try simp only [Act.put, List.setIfInBounds_toArray, List.set_cons_zero, List.set_cons_succ]
            refine wpAnyH_take (i := 31) (oi := { dst := some 161, op := Op.move (Operand.tmp 3), type := 24, pos := "law.go:78", after := #[{ on := 30, ground := Ground.guard }], guard := some (30, false) }) (v := ?_) rfl (by kernel_rfl) (by kernel_rfl) (by kernel_rfl) (fun _ _ _ h => h) (Or.inl ⟨by rfl, ?_⟩) (by assumption) ?_
            rotate_left
            · intro w hSw
              try dsimp only at hSw
              go_simp
              first | done | with_reducible rfl
            try simp only [Act.put, List.setIfInBounds_toArray, List.set_cons_zero, List.set_cons_succ]
            refine wpAnyH_take (i := 32) (oi := { dst := some 162, op := Op.fieldAddr 32 (Operand.tmp 6) 2, type := 0, pos := "law.go:78", after := #[{ on := 30, ground := Ground.guard }], guard := some (30, false) }) (v := ?_) rfl (by kernel_rfl) (by kernel_rfl) (by kernel_rfl) (fun _ _ _ h => h) (Or.inl ⟨by rfl, ?_⟩) (by assumption) ?_
            rotate_left
            · intro w hSw
              try dsimp only at hSw
              go_simp
              first | done | with_reducible rfl
            try simp only [Act.put, List.setIfInBounds_toArray, List.set_cons_zero, List.set_cons_succ]
            refine wpAnyH_take (i := 33) (oi := { dst := some 163, op := Op.load 9 (Operand.tmp 162), type := 9, pos := "law.go:78", after := #[{ on := 32, ground := Ground.data }, { on := 30, ground := Ground.guard }], guard := some (30, false) }) (v := ?_) rfl (by kernel_rfl) (by kernel_rfl) (by kernel_rfl) (fun _ _ _ h => h) (Or.inl ⟨by rfl, ?_⟩) (by assumption) ?_
            rotate_left
            · intro w hSw
              try dsimp only at hSw
              go_simp
              first | done | with_reducible rfl
            try simp only [Act.put, List.setIfInBounds_toArray, List.set_cons_zero, List.set_cons_succ]
            refine wpAnyH_take (i := 35) (oi := { dst := some 165, op := Op.fieldAddr 29 (Operand.tmp 4) 0, type := 0, pos := "law.go:78", after := #[{ on := 30, ground := Ground.guard }], guard := some (30, false) }) (v := ?_) rfl (by kernel_rfl) (by kernel_rfl) (by kernel_rfl) (fun _ _ _ h => h) (Or.inl ⟨by rfl, ?_⟩) (by assumption) ?_
            rotate_left
            · intro w hSw
              try dsimp only at hSw
              go_simp
              first | done | with_reducible rfl
            try simp only [Act.put, List.setIfInBounds_toArray, List.set_cons_zero, List.set_cons_succ]
            refine wpAnyH_take (i := 36) (oi := { dst := some 166, op := Op.load 26 (Operand.tmp 165), type := 26, pos := "law.go:78", after := #[{ on := 35, ground := Ground.data }, { on := 30, ground := Ground.guard }], guard := some (30, false) }) (v := ?_) rfl (by kernel_rfl) (by kernel_rfl) (by kernel_rfl) (fun _ _ _ h => h) (Or.inl ⟨by rfl, ?_⟩) (by assumption) ?_
            rotate_left
            · intro w hSw
              try dsimp only at hSw
              go_simp
              first | done | with_reducible rfl
            try simp only [Act.put, List.setIfInBounds_toArray, List.set_cons_zero, List.set_cons_succ]
            refine wpAnyH_take (i := 37) (oi := { dst := some 167, op := Op.fieldAddr 32 (Operand.tmp 6) 2, type := 0, pos := "law.go:78", after := #[{ on := 30, ground := Ground.guard }], guard := some (30, false) }) (v := ?_) rfl (by kernel_rfl) (by kernel_rfl) (by kernel_rfl) (fun _ _ _ h => h) (Or.inl ⟨by rfl, ?_⟩) (by assumption) ?_
            rotate_left
            · intro w hSw
              try dsimp only at hSw
              go_simp
              first | done | with_reducible rfl
            try simp only [Act.put, List.setIfInBounds_toArray, List.set_cons_zero, List.set_cons_succ]
            refine wpAnyH_take (i := 38) (oi := { dst := some 168, op := Op.load 9 (Operand.tmp 167), type := 9, pos := "law.go:78", after := #[{ on := 37, ground := Ground.data }, { on := 30, ground := Ground.guard }], guard := some (30, false) }) (v := ?_) rfl (by kernel_rfl) (by kernel_rfl) (by kernel_rfl) (fun _ _ _ h => h) (Or.inl ⟨by rfl, ?_⟩) (by assumption) ?_
            rotate_left
            · intro w hSw
              try dsimp only at hSw
              go_simp
              first | done | with_reducible rfl
            try simp only [Act.put, List.setIfInBounds_toArray, List.set_cons_zero, List.set_cons_succ]
            refine wpAnyH_ready (rs := [34]) (by kernel_rfl) (by simp) ?_
            refine AllReadyH.cons (o := { dst := some 164, op := Op.call { callee := Callee.value (Operand.func 28), args := #[Operand.tmp 161, Operand.tmp 163], argTypes := #[24, 9] }, type := 3, pos := "law.go:78", after := #[{ on := 31, ground := Ground.data }, { on := 33, ground := Ground.data }, { on := 30, ground := Ground.chain }, { on := 30, ground := Ground.guard }], guard := some (30, false) }) rfl (fun K hK => ?_) AllReadyH.nil
            go_simp
            (clear hs13 hs14; go_at_call 28; refine (HCA.out _ (lp_of (by assumption))).mono ?_; rintro e w16 ⟨rfl, hbx⟩)
            try go_wp2_with fail
            refine hK.out _ _ ?_ (fun hHeld => ?_)
            · first | assumption | exact LP.held (lp_of (by assumption)) hbx
            clear hK K
            try simp only [Act.put, List.setIfInBounds_toArray, List.set_cons_zero, List.set_cons_succ]
            refine wpAnyH_ready (rs := [39]) (by kernel_rfl) (by simp) ?_
            refine AllReadyH.cons (o := { dst := some 169, op := Op.call { callee := Callee.value (Operand.func 21), args := #[Operand.tmp 166, Operand.tmp 168], argTypes := #[26, 9] }, type := 3, pos := "law.go:78", after := #[{ on := 36, ground := Ground.data }, { on := 38, ground := Ground.data }, { on := 34, ground := Ground.chain }, { on := 30, ground := Ground.guard }], guard := some (30, false) }) rfl (fun K hK => ?_) AllReadyH.nil
            go_simp
            (go_at_call 21; refine (HCP.out _ (lp_of (by assumption))).mono ?_; rintro e w17 ⟨rfl, hbx⟩)
            try go_wp2_with fail
            refine hK.out _ _ ?_ (fun hHeld => ?_)
            · first | assumption | exact LP.held (lp_of (by assumption)) hbx
            clear hK K
            try simp only [Act.put, List.setIfInBounds_toArray, List.set_cons_zero, List.set_cons_succ]
            refine wpAnyH_take (i := 40) (oi := { dst := some 170, op := Op.binOp BinOp.neq 3 (Operand.tmp 164) (Operand.tmp 169) 3, type := 4, pos := "law.go:78", after := #[{ on := 34, ground := Ground.data }, { on := 39, ground := Ground.data }, { on := 30, ground := Ground.guard }], guard := some (30, false) }) (v := ?_) rfl (by kernel_rfl) (by kernel_rfl) (by kernel_rfl) (fun _ _ _ h => h) (Or.inl ⟨by rfl, ?_⟩) (by assumption) ?_
            rotate_left
            · intro w hSw
              try dsimp only at hSw
              go_simp
              first | done | with_reducible rfl
            try simp only [Act.put, List.setIfInBounds_toArray, List.set_cons_zero, List.set_cons_succ]
            refine wpAnyH_take (i := 41) (oi := { dst := some 171, op := Op.pick (Operand.tmp 160) (Operand.const (Value.bool true)) (Operand.tmp 170), type := 4, pos := "law.go:78", after := #[{ on := 30, ground := Ground.data }, { on := 40, ground := Ground.data }], guard := none }) (v := ?_) rfl (by kernel_rfl) (by kernel_rfl) (by kernel_rfl) (fun _ _ _ h => h) (Or.inl ⟨by rfl, ?_⟩) (by assumption) ?_
            rotate_left
            · intro w hSw
              try dsimp only at hSw
              go_simp
              first | done | with_reducible rfl
            try simp only [Act.put, List.setIfInBounds_toArray, List.set_cons_zero, List.set_cons_succ]
            refine wpAnyH_take (i := 42) (oi := { dst := some 172, op := Op.move (Operand.tmp 171), type := 4, pos := "law.go:78", after := #[{ on := 41, ground := Ground.data }, { on := 39, ground := Ground.chain }], guard := none }) (v := ?_) rfl (by kernel_rfl) (by kernel_rfl) (by kernel_rfl) (fun _ _ _ h => h) (Or.inl ⟨by rfl, ?_⟩) (by assumption) ?_
            rotate_left
            · intro w hSw
              try dsimp only at hSw
              go_simp
              first | done | with_reducible rfl
            try simp only [Act.put, List.setIfInBounds_toArray, List.set_cons_zero, List.set_cons_succ]
            refine wpAnyH_take (i := 43) (oi := { dst := some 173, op := Op.move (Operand.tmp 21), type := 4, pos := "law.go:78", after := #[{ on := 42, ground := Ground.guard }], guard := some (42, false) }) (v := ?_) rfl (by kernel_rfl) (by kernel_rfl) (by kernel_rfl) (fun _ _ _ h => h) (Or.inl ⟨by rfl, ?_⟩) (by assumption) ?_
            rotate_left
            · intro w hSw
              try dsimp only at hSw
              go_simp
              first | done | with_reducible rfl
            try simp only [Act.put, List.setIfInBounds_toArray, List.set_cons_zero, List.set_cons_succ]
            refine wpAnyH_take (i := 44) (oi := { dst := some 174, op := Op.move (Operand.tmp 19), type := 3, pos := "law.go:78", after := #[{ on := 42, ground := Ground.guard }], guard := some (42, false) }) (v := ?_) rfl (by kernel_rfl) (by kernel_rfl) (by kernel_rfl) (fun _ _ _ h => h) (Or.inl ⟨by rfl, ?_⟩) (by assumption) ?_
            rotate_left
            · intro w hSw
              try dsimp only at hSw
              go_simp
              first | done | with_reducible rfl
            try simp only [Act.put, List.setIfInBounds_toArray, List.set_cons_zero, List.set_cons_succ]
            refine wpAnyH_take (i := 45) (oi := { dst := some 175, op := Op.binOp BinOp.geq 3 (Operand.tmp 174) (Operand.const (Value.int IntKind.i64 0)) 3, type := 4, pos := "law.go:78", after := #[{ on := 44, ground := Ground.data }, { on := 42, ground := Ground.guard }], guard := some (42, false) }) (v := ?_) rfl (by kernel_rfl) (by kernel_rfl) (by kernel_rfl) (fun _ _ _ h => h) (Or.inl ⟨by rfl, ?_⟩) (by assumption) ?_
            rotate_left
            · intro w hSw
              try dsimp only at hSw
              go_simp
              first | done | with_reducible rfl
            try simp only [Act.put, List.setIfInBounds_toArray, List.set_cons_zero, List.set_cons_succ]
            refine wpAnyH_take (i := 46) (oi := { dst := some 176, op := Op.binOp BinOp.neq 4 (Operand.tmp 173) (Operand.tmp 175) 4, type := 4, pos := "law.go:78", after := #[{ on := 43, ground := Ground.data }, { on := 45, ground := Ground.data }, { on := 42, ground := Ground.guard }], guard := some (42, false) }) (v := ?_) rfl (by kernel_rfl) (by kernel_rfl) (by kernel_rfl) (fun _ _ _ h => h) (Or.inl ⟨by rfl, ?_⟩) (by assumption) ?_
            rotate_left
            · intro w hSw
              try dsimp only at hSw
              go_simp
              first | done | with_reducible rfl
            try simp only [Act.put, List.setIfInBounds_toArray, List.set_cons_zero, List.set_cons_succ]
            refine wpAnyH_take (i := 47) (oi := { dst := some 177, op := Op.pick (Operand.tmp 172) (Operand.const (Value.bool true)) (Operand.tmp 176), type := 4, pos := "law.go:78", after := #[{ on := 42, ground := Ground.data }, { on := 46, ground := Ground.data }], guard := none }) (v := ?_) rfl (by kernel_rfl) (by kernel_rfl) (by kernel_rfl) (fun _ _ _ h => h) (Or.inl ⟨by rfl, ?_⟩) (by assumption) ?_
            rotate_left
            · intro w hSw
              try dsimp only at hSw
              go_simp
              first | done | with_reducible rfl
            try simp only [Act.put, List.setIfInBounds_toArray, List.set_cons_zero, List.set_cons_succ]
            refine wpAnyH_take (i := 48) (oi := { dst := some 178, op := Op.move (Operand.tmp 177), type := 4, pos := "law.go:78", after := #[{ on := 47, ground := Ground.data }, { on := 42, ground := Ground.chain }], guard := none }) (v := ?_) rfl (by kernel_rfl) (by kernel_rfl) (by kernel_rfl) (fun _ _ _ h => h) (Or.inl ⟨by rfl, ?_⟩) (by assumption) ?_
            rotate_left
            · intro w hSw
              try dsimp only at hSw
              go_simp
              first | done | with_reducible rfl
            try simp only [Act.put, List.setIfInBounds_toArray, List.set_cons_zero, List.set_cons_succ]
            refine wpAnyH_take (i := 49) (oi := { dst := some 179, op := Op.move (Operand.tmp 21), type := 4, pos := "law.go:78", after := #[{ on := 48, ground := Ground.guard }], guard := some (48, false) }) (v := ?_) rfl (by kernel_rfl) (by kernel_rfl) (by kernel_rfl) (fun _ _ _ h => h) (Or.inl ⟨by rfl, ?_⟩) (by assumption) ?_
            rotate_left
            · intro w hSw
              try dsimp only at hSw
              go_simp
              first | done | with_reducible rfl
            try simp only [Act.put, List.setIfInBounds_toArray, List.set_cons_zero, List.set_cons_succ]
            refine wpAnyH_take (i := 50) (oi := { dst := some 180, op := Op.move (Operand.tmp 179), type := 4, pos := "law.go:78", after := #[{ on := 49, ground := Ground.data }, { on := 48, ground := Ground.chain }, { on := 48, ground := Ground.guard }], guard := some (48, false) }) (v := ?_) rfl (by kernel_rfl) (by kernel_rfl) (by kernel_rfl) (fun _ _ _ h => h) (Or.inl ⟨by rfl, ?_⟩) (by assumption) ?_
            rotate_left
            · intro w hSw
              try dsimp only at hSw
              go_simp
              first | done | with_reducible rfl
            try simp only [Act.put, List.setIfInBounds_toArray, List.set_cons_zero, List.set_cons_succ]
            refine wpAnyH_take (i := 51) (oi := { dst := some 181, op := Op.move (Operand.tmp 20), type := 3, pos := "law.go:78", after := #[{ on := 50, ground := Ground.guard }], guard := some (50, true) }) (v := undef) rfl (by kernel_rfl) (by kernel_rfl) (by kernel_rfl) (fun _ _ _ h => h) (Or.inr ⟨by rfl, rfl⟩) (by assumption) ?_
            try simp only [Act.put, List.setIfInBounds_toArray, List.set_cons_zero, List.set_cons_succ]
            refine wpAnyH_take (i := 52) (oi := { dst := some 182, op := Op.fieldAddr 29 (Operand.tmp 4) 2, type := 0, pos := "law.go:78", after := #[{ on := 50, ground := Ground.guard }], guard := some (50, true) }) (v := undef) rfl (by kernel_rfl) (by kernel_rfl) (by kernel_rfl) (fun _ _ _ h => h) (Or.inr ⟨by rfl, rfl⟩) (by assumption) ?_
            try simp only [Act.put, List.setIfInBounds_toArray, List.set_cons_zero, List.set_cons_succ]
            refine wpAnyH_take (i := 53) (oi := { dst := some 183, op := Op.load 27 (Operand.tmp 182), type := 27, pos := "law.go:78", after := #[{ on := 52, ground := Ground.data }, { on := 50, ground := Ground.guard }], guard := some (50, true) }) (v := undef) rfl (by kernel_rfl) (by kernel_rfl) (by kernel_rfl) (fun _ _ _ h => h) (Or.inr ⟨by rfl, rfl⟩) (by assumption) ?_
            try simp only [Act.put, List.setIfInBounds_toArray, List.set_cons_zero, List.set_cons_succ]
            refine wpAnyH_take (i := 54) (oi := { dst := some 184, op := Op.move (Operand.tmp 19), type := 3, pos := "law.go:78", after := #[{ on := 50, ground := Ground.guard }], guard := some (50, true) }) (v := undef) rfl (by kernel_rfl) (by kernel_rfl) (by kernel_rfl) (fun _ _ _ h => h) (Or.inr ⟨by rfl, rfl⟩) (by assumption) ?_
            try simp only [Act.put, List.setIfInBounds_toArray, List.set_cons_zero, List.set_cons_succ]
            refine wpAnyH_take (i := 55) (oi := { dst := some 185, op := Op.indexAddr 27 (Operand.tmp 183) (Operand.tmp 184), type := 0, pos := "law.go:78", after := #[{ on := 53, ground := Ground.data }, { on := 54, ground := Ground.data }, { on := 50, ground := Ground.guard }], guard := some (50, true) }) (v := undef) rfl (by kernel_rfl) (by kernel_rfl) (by kernel_rfl) (fun _ _ _ h => h) (Or.inr ⟨by rfl, rfl⟩) (by assumption) ?_
            try simp only [Act.put, List.setIfInBounds_toArray, List.set_cons_zero, List.set_cons_succ]
            refine wpAnyH_take (i := 56) (oi := { dst := some 186, op := Op.load 3 (Operand.tmp 185), type := 3, pos := "law.go:78", after := #[{ on := 55, ground := Ground.data }, { on := 50, ground := Ground.guard }], guard := some (50, true) }) (v := undef) rfl (by kernel_rfl) (by kernel_rfl) (by kernel_rfl) (fun _ _ _ h => h) (Or.inr ⟨by rfl, rfl⟩) (by assumption) ?_
            try simp only [Act.put, List.setIfInBounds_toArray, List.set_cons_zero, List.set_cons_succ]
            refine wpAnyH_take (i := 57) (oi := { dst := some 187, op := Op.binOp BinOp.neq 3 (Operand.tmp 181) (Operand.tmp 186) 3, type := 4, pos := "law.go:78", after := #[{ on := 51, ground := Ground.data }, { on := 56, ground := Ground.data }, { on := 50, ground := Ground.guard }], guard := some (50, true) }) (v := undef) rfl (by kernel_rfl) (by kernel_rfl) (by kernel_rfl) (fun _ _ _ h => h) (Or.inr ⟨by rfl, rfl⟩) (by assumption) ?_
            try simp only [Act.put, List.setIfInBounds_toArray, List.set_cons_zero, List.set_cons_succ]
            refine wpAnyH_take (i := 58) (oi := { dst := some 188, op := Op.pick (Operand.tmp 180) (Operand.tmp 187) (Operand.const (Value.bool false)), type := 4, pos := "law.go:78", after := #[{ on := 50, ground := Ground.data }, { on := 57, ground := Ground.data }, { on := 48, ground := Ground.guard }], guard := some (48, false) }) (v := ?_) rfl (by kernel_rfl) (by kernel_rfl) (by kernel_rfl) (fun _ _ _ h => h) (Or.inl ⟨by rfl, ?_⟩) (by assumption) ?_
            rotate_left
            · intro w hSw
              try dsimp only at hSw
              go_simp
              first | done | with_reducible rfl
            try simp only [Act.put, List.setIfInBounds_toArray, List.set_cons_zero, List.set_cons_succ]
            refine wpAnyH_take (i := 59) (oi := { dst := some 189, op := Op.pick (Operand.tmp 178) (Operand.const (Value.bool true)) (Operand.tmp 188), type := 4, pos := "law.go:78", after := #[{ on := 48, ground := Ground.data }, { on := 58, ground := Ground.data }], guard := none }) (v := ?_) rfl (by kernel_rfl) (by kernel_rfl) (by kernel_rfl) (fun _ _ _ h => h) (Or.inl ⟨by rfl, ?_⟩) (by assumption) ?_
            rotate_left
            · intro w hSw
              try dsimp only at hSw
              go_simp
              first | done | with_reducible rfl
            try simp only [Act.put, List.setIfInBounds_toArray, List.set_cons_zero, List.set_cons_succ]
            refine wpAnyH_done (by kernel_rfl) ?_ _
            all_goals (
              have LE := lp_of (w' := w17) (by assumption)
              have HBE := Hid.mk' LE
              go_wp2_with fail
              go_meet
              exact ⟨by simp, HBE.out⟩)
        case rest =>
          obtain ⟨rfl, hlp⟩ := hcut
          have HE : Hid (PS w3 wc P A2 g b L2 M2 L2 M2 (.slice a0 N0 n0) (.slice a1 N1 n1) (.slice a2 N2 n2)) := hlp.q.ps
          clear hlp HL
          go_wp2
          exact ⟨⟨i + 1, L2, M2, A2, _, _, _, by simp, by omega, HV2.out, HM2.out, HE.out⟩, by simp [intOf]; omega⟩
    · obtain rfl : n = i := by omega
      have HEND : Hid (Below w.heap.size w wr) := HB.out.trans (HPS.out.keep.below HB.out.size (fun k hk => HPW.out k hk))
      clear HPS
      go_wp2
      go_ret
      exact ⟨rfl, HEND.out⟩

end Go.Proofs.Ythobihlnjcphaaa
