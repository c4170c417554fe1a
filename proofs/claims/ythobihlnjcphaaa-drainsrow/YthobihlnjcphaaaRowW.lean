/-
  DrainsRow's walk: drains come first in the row in which they were asked, each once; one that may not holds up those behind it: it returns true and turns nothing that was there. Conditions: the slices lie where they are said to lie.
-/
import Derived.Test.YthobihlnjcphaaaRowP
import Derived.Deep.RegionWith
import Derived.Deep.CutBlock
import Derived.Deep.RegionHeld3
namespace Go.Proofs.Ythobihlnjcphaaa
open Go.ChangeShapes Go.WideShapes Go.ChangeAt Go.RowKit

set_option maxHeartbeats 4000000 in
set_option maxRecDepth 100000 in
theorem row_walk (a1 : Option Addr) (l1 c1 : Nat) (zs : List Int) (a2 : Option Addr) (l2 c2 : Nat) (bs : List Bool) (w : World) (h1 : IntsAt w a1 l1 c1 zs) (h2 : BoolsAt w a2 l2 c2 bs) :
    Calls Try.prog 4 #[.slice a1 l1 c1, .slice a2 l2 c2] w fun e w' => e = .returned (.bool true) ∧ Below w.heap.size w w' := by
  have q1 := h2.hle
  have q2 := h2.hcap
  unfold maxLen at q2
  have H1 := Hid.mk' h1
  have H2 := Hid.mk' h2
  clear h1 h2
  have hmf : ∀ (fn : Fn) (first cap : Array Value) (w : World), (Instr.makeFunc fn first cap).run Try.prog w = .ok (.func fn first cap) w := fun _ _ _ _ => rfl
  go_enter Try.func4, Try.ntmps4
  go_wp2_with fail
  refine (lives_any _).mono ?_
  rintro e w1 ⟨rfl, hb1⟩
  go_wp2_with fail
  refine (good_any _ _ _ _ _ (H1.out.below (Nat.le_refl _) hb1)).mono ?_
  rintro e w2 ⟨v, ns, rfl, hnd, hg6, hown, hb2⟩
  obtain ⟨an, cn, rfl, hs2, hbk⟩ := owns_strs hown
  have hlen6 := good_len hnd hg6
  obtain ⟨n, hn⟩ : ∃ n, ns.length = n := ⟨_, rfl⟩
  rw [hn] at hs2 hlen6 ⊢
  have HL := Hid.mk' hn
  have hncap := hs2.hle
  have hncm := hs2.hcap
  unfold maxLen at hncm
  have HN := Hid.mk' hs2
  have HG : Hid (ns.Nodup ∧ ∀ s ∈ ns, s ∈ names6) := ⟨hnd, hg6⟩
  have HA : Hid (∀ z, an = some z → z.block < w2.heap.size) := fun z hz => (hbk z hz).2
  have HB2 : Hid (Below w.heap.size w w2) := below_trans hb1 hb2
  clear hs2 hnd hg6 hown hbk hb1 hb2 hn H1
  go_upto_region 4 with fail
  have hb3 : Below w2.heap.size w2 (w2.alloc (.cells #[.slice an n cn] 26)) := (Below.refl _ w2).alloc (Nat.le_refl _) _
  have hn3 : (w2.alloc (.cells #[.slice an n cn] 26)).cell? ⟨w2.heap.size, 0, none⟩ = some (.slice an n cn) := (blk1 (heap_alloc_new w2 (.cells #[.slice an n cn] 26))).1
  have hs3 : (w2.alloc (.cells #[.slice an n cn] 26)).heap.size = w2.heap.size + 1 := by simp
  have HB3 := Hid.mk' hb3
  have HN3 := Hid.mk' hn3
  have HS3 := Hid.mk' hs3
  clear hb3 hn3 hs3
  generalize w2.alloc (.cells #[.slice an n cn] 26) = w3 at *
  go_wp2_with fail
  refine (new_any _).mono ?_
  rintro e w4 ⟨rfl, hq4, hb4⟩
  have HS34 : Hid (StrsAt w3 an n cn ns ∧ (∀ z, an = some z → z.block < w3.heap.size) ∧ w2.heap.size < w3.heap.size) := ⟨HN.out.below (Nat.le_refl _) HB3.out, fun z hz => by have := HA.out z hz; have := HS3.out; omega, by have := HS3.out; omega⟩
  have HB : Hid (Below w.heap.size w w3) := HB2.out.trans (HB3.out.mono HB2.out.size)
  have HN3' : Hid (w3.cell? ⟨w2.heap.size, 0, none⟩ = some (.slice an n cn)) := HN3.out
  have hk4 : Keep (fun k => k < w3.heap.size) w3 w4 := keep_below hb4
  clear HB2 HB3 HN HA HS3 HN3 hb4
  generalize w2.heap.size = k5 at *
  generalize hg : w3.heap.size = g at *
  have HGG := Hid.mk' hg
  clear hg
  go_wp2
  go_loopw [7] (fun v7 wr => ∃ i : Nat, v7 = .int .i64 i ∧ i ≤ n ∧ DIn wr (fun k => k < g) g 0 (drs (ns.take i)) [] ∧ Keep (fun k => k < g) w3 wr) (fun v7 _ => n + 1 - (intOf v7).toNat)
  case atStart => exact ⟨0, rfl, Nat.zero_le _, hq4, hk4⟩
  case round =>
    clear hq4 hk4
    obtain ⟨i, rfl, hi, hq, hk⟩ := hrel
    have hnc := hk.cell HN3'.out HS34.out.2.2
    have hsr : StrsAt wr an n cn ns := HS34.out.1.keep hk (fun z hz => HS34.out.2.1 z hz)
    by_cases hin : i < n
    · obtain ⟨bn, on_, rfl, hbn, hcn⟩ := hsr.at_ i hin
      have hil : i < ns.length := by rw [HL.out]; exact hin
      have hmem := HG.out.2 _ (getD_mem hil)
      have hnot : ns.getD i ⟨#[]⟩ ∉ ns.take i := by
        intro hx
        have := nodup_take HG.out.1 (i + 1)
        rw [take_snoc hil, nodup_snoc] at this
        exact this.2 hx
      have hlt : (ns.take i).length = i := by rw [List.length_take]; omega
      have HT : Hid (ns.take (i + 1) = ns.take i ++ [ns.getD i ⟨#[]⟩]) := take_snoc hil
      have HQ := Hid.mk' hq
      have HK := Hid.mk' hk
      have A1 := ask_1 wr hq hnot hmem (by omega)
      have A2 : Hid (∀ w', DIn w' (fun k => k < g) g 0 (drs (ns.take i ++ [ns.getD i ⟨#[]⟩])) [] → Calls Try.prog 13 #[.pointer (some ⟨g, 0, none⟩), .string (ns.getD i ⟨#[]⟩)] w' fun e w'' => e = .returned (.int .i64 6) ∧ DIn w'' (fun k => k < g) g 0 (drs (ns.take i ++ [ns.getD i ⟨#[]⟩])) [] ∧ Keep (fun k => k < g) w' w'') := fun w' h => ask_2 w' h hmem
      have A3 : Hid (∀ w', DIn w' (fun k => k < g) g 0 (drs (ns.take i ++ [ns.getD i ⟨#[]⟩])) [] → Calls Try.prog 28 #[.pointer (some ⟨g, 0, none⟩), .string (ns.getD i ⟨#[]⟩)] w' fun e w'' => e = .returned (.int .i64 i) ∧ DIn w'' (fun k => k < g) g 0 (drs (ns.take i ++ [ns.getD i ⟨#[]⟩])) [] ∧ Keep (fun k => k < g) w' w'') := fun w' h => by
        have := ahead_1 w' h hnot
        rwa [hlt] at this
      have HC : Hid (∀ w', Keep (fun k => k < g) w3 w' → w'.cell? ⟨k5, 0, none⟩ = some (.slice (some ⟨bn, on_, none⟩) n cn) ∧ w'.cell? ⟨bn, on_ + i, none⟩ = some (.string (ns.getD i ⟨#[]⟩))) := fun w' hk => by
        refine ⟨hk.cell HN3'.out HS34.out.2.2, ?_⟩
        obtain ⟨b', o', e', _, hc'⟩ := (HS34.out.1.keep hk (fun z hz => HS34.out.2.1 z hz)).at_ i hin
        cases e'
        exact hc'
      generalize ns.getD i ⟨#[]⟩ = f at *
      clear hsr hq hk hmem hnot hil hlt
      have hin' : (i : Int) < (n : Int) := by omega
      go_wp2_with fail
      refine A1.mono ?_
      rintro e w5 ⟨rfl, hd5, hk5⟩
      have A2' := A2.out w5 hd5
      obtain ⟨y1, y2⟩ := HC.out w5 (HK.out.trans hk5)
      clear A1 hnc hcn
      go_wp2_with fail
      refine A2'.mono ?_
      rintro e w6 ⟨rfl, hd6, hk6⟩
      have A3' := A3.out w6 hd6
      obtain ⟨z1, z2⟩ := HC.out w6 ((HK.out.trans hk5).trans hk6)
      clear A2' y1 y2
      go_wp2_with fail
      refine A3'.mono ?_
      rintro e w7 ⟨rfl, hd7, hk7⟩
      have HE : Hid (DIn w7 (fun k => k < g) g 0 (drs (ns.take (i + 1))) [] ∧ Keep (fun k => k < g) w3 w7) := ⟨by rw [HT.out]; exact hd7, ((HK.out.trans hk5).trans hk6).trans hk7⟩
      clear A3' z1 z2 hd5 hd6 hd7 hk5 hk6 hk7
      go_wp2
      exact ⟨⟨i + 1, by simp, by omega, HE.out.1, HE.out.2⟩, by simp [intOf]; omega⟩
    · obtain rfl : n = i := by omega
      rw [show ns.take n = ns by rw [← HL.out, List.take_length]] at hq
      have HQ := Hid.mk' hq
      have HK := Hid.mk' hk
      have HSR := Hid.mk' hsr
      clear hq hk hsr
      go_upto_block 2 with fail
      have hba : Below wr.heap.size wr (wr.alloc (.cells #[.int .i64 0] 3)) := (Below.refl _ wr).alloc (Nat.le_refl _) _
      have hgw : g ≤ wr.heap.size := by have := HK.out.size; have := HGG.out; omega
      obtain ⟨A, hA⟩ : ∃ A : Nat → Prop, A = (fun k => k < g ∨ (wr.heap.size ≤ k ∧ k < (wr.alloc (.cells #[.int .i64 0] 3)).heap.size)) := ⟨_, rfl⟩
      have hk5g : k5 < g := by have := HS34.out.2.2; have := HGG.out; omega
      have HRW : Hid (RW (wr.alloc (.cells #[.int .i64 0] 3)) A A g k5 wr.heap.size an n cn ns 0 (wr.alloc (.cells #[.int .i64 0] 3))) := by
        rw [hA]
        exact ⟨HQ.out.below hba, fun _ h => h, .inr ⟨Nat.le_refl _, by simp⟩, heap_alloc_new _ _, (hba.cell (p := ⟨k5, 0, none⟩) (by show k5 < wr.heap.size; omega)).trans (HK.out.cell HN3'.out HS34.out.2.2), ⟨.inl hk5g, by omega⟩, HSR.out.below (Nat.le_refl _) hba, fun z hz => by
          have h7 : z.block < g := by have := HS34.out.2.1 z hz; have := HGG.out; omega
          exact ⟨.inl h7, by omega⟩, Keep.refl _ _⟩
      have HAK : Hid (∀ k, A k → k < (wr.alloc (.cells #[.int .i64 0] 3)).heap.size) := fun k hk => by
        rw [hA] at hk
        rcases hk with hk | hk
        · simp; omega
        · exact hk.2
      have HAW : Hid (∀ k, k < w.heap.size → A k ∧ k ≠ wr.heap.size) := fun k hk => by
        have := HB.out.size
        have := HGG.out
        rw [hA]
        exact ⟨.inl (by omega), by omega⟩
      have HBW : Hid (Below w.heap.size w (wr.alloc (.cells #[.int .i64 0] 3))) := by
        have h1 : Below w.heap.size w wr := HB.out.trans (HK.out.below HB.out.size (fun k hk => by have := HB.out.size; have := HGG.out; omega))
        exact h1.trans (hba.mono h1.size)
      have H25 : Hid (BoolsAt (wr.alloc (.cells #[.int .i64 0] 3)) a2 l2 c2 bs ∧ ∀ z, a2 = some z → 0 < l2 → z.block < w.heap.size) := ⟨H2.out.below HBW.out, fun z hz h0 => by
        obtain ⟨b, off, e, hb, -⟩ := H2.out.at_ 0 h0
        rw [e] at hz
        cases hz
        exact hb⟩
      clear hba hgw hk5g hA HQ HK HSR HS34 HN3' HGG HB H2
      generalize wr.alloc (.cells #[.int .i64 0] 3) = w5 at *
      generalize wr.heap.size = k8 at *
      go_wp2
      go_loopw [9] (fun v9 wq => ∃ i t : Nat, v9 = .int .i64 i ∧ i ≤ l2 ∧ i ≤ 30 ∧ t ≤ n ∧ Hid (RW w5 A A g k5 k8 an n cn ns t wq)) (fun v9 _ => 31 - (intOf v9).toNat)
      case atStart => exact ⟨0, 0, rfl, Nat.zero_le _, Nat.zero_le _, Nat.zero_le _, HRW.out⟩
      case round =>
        clear HRW
        obtain ⟨i, t, rfl, hi1, hi2, ht, HR⟩ := hrel
        by_cases hc : i < l2 ∧ i < 30
        · obtain ⟨hc1, hc2⟩ := hc
          have hc1' : (i : Int) < (l2 : Int) := by omega
          have hc2' : (i : Int) < 30 := by omega
          obtain ⟨bb, ob, rfl, hbb, hcb⟩ := H25.out.1.at_ i hc1
          have hcb := HR.out.keep.cell hcb (HAW.out bb (H25.out.2 ⟨bb, ob, none⟩ rfl (by omega)))
          generalize bs.getD i false = y at *
          go_upto_region 16 with fail
          have hb6 : Below wr.heap.size wr ((wr.alloc (.cells #[.bool y] 4)).alloc (.cells #[.int .i64 0] 3)) := ((Below.refl _ wr).alloc (Nat.le_refl _) _).alloc (by simp) _
          have hRB := HR.out.below hb6
          have hsw := HR.out.keep.size
          have hk8s := lt_of_heap HR.out.at_
          have hRV : RV ((wr.alloc (.cells #[.bool y] 4)).alloc (.cells #[.int .i64 0] 3)) (wr.heap.size + 1) wr.heap.size k8 k5 0 y t an n cn ns := by
            have e1 : (wr.alloc (.cells #[.bool y] 4)).heap.size = wr.heap.size + 1 := by simp
            refine ⟨by have := heap_alloc_new (wr.alloc (.cells #[.bool y] 4)) (.cells #[.int .i64 0] 3); rwa [e1] at this, ?_, (blk1 hRB.at_).1, hRB.nb, hRB.s, by omega, by omega, ?_, fun z hz => ?_⟩
            · have hb7 : Below (wr.alloc (.cells #[.bool y] 4)).heap.size (wr.alloc (.cells #[.bool y] 4)) ((wr.alloc (.cells #[.bool y] 4)).alloc (.cells #[.int .i64 0] 3)) := (Below.refl _ _).alloc (Nat.le_refl _) _
              exact (hb7.cell (p := ⟨wr.heap.size, 0, none⟩) (by show wr.heap.size < _; omega)).trans (blk1 (heap_alloc_new wr _)).1
            · have := HAK.out k5 hRB.n5.1
              omega
            · have := HAK.out _ (hRB.sb z hz).1
              omega
          have hnA : ¬ A (wr.heap.size + 1) := fun h => by have := HAK.out _ h; omega
          obtain ⟨B, hB⟩ : ∃ B : Nat → Prop, B = (fun k => A k ∨ (wr.heap.size ≤ k ∧ k < ((wr.alloc (.cells #[.bool y] 4)).alloc (.cells #[.int .i64 0] 3)).heap.size)) := ⟨_, rfl⟩
          rw [← hB] at hRB
          have hBk : B (wr.heap.size + 1) ∧ B wr.heap.size := by rw [hB]; exact ⟨.inr ⟨by omega, by simp⟩, .inr ⟨Nat.le_refl _, by simp; omega⟩⟩
          have HRB := Hid.mk' hRB
          have HRV := Hid.mk' hRV
          have HNA := Hid.mk' hnA
          have HBK := Hid.mk' hBk
          have hne : wr.heap.size ≠ wr.heap.size + 1 := by omega
          have HNE := Hid.mk' hne
          clear hcb hb6 hRB hsw hk8s hRV hnA hB hBk HR hne
          generalize (wr.alloc (.cells #[.bool y] 4)).alloc (.cells #[.int .i64 0] 3) = w6 at *
          generalize wr.heap.size + 1 = k11 at *
          generalize wr.heap.size = k10 at *
          by_cases htn : t < n
          · have hdl : (ns.drop t).length = n - t := by rw [List.length_drop, HL.out]
            obtain ⟨x, hx⟩ : ∃ x, ns.getD t ⟨#[]⟩ = x := ⟨_, rfl⟩
            have hgx : (ns.drop t).getD 0 ⟨#[]⟩ = x := by rw [← hx]; simp [List.getD]
            have hfr := first_row w6 k11 k10 k8 k5 y (ns.drop t) HRB.out.d (List.Pairwise.sublist (List.drop_sublist t ns) HG.out.1) (by omega) (by omega) HBK.out.1 HRV.out htn (hx.trans hgx.symm)
            rw [hgx, List.drop_drop] at hfr
            obtain ⟨bn, on_, e1, hbn, hcn⟩ := HRV.out.hs.at_ t htn
            subst e1
            rw [hx] at hcn
            have HCN : Hid (w6.cell? ⟨bn, on_ + t, none⟩ = some (.string x) ∧ B bn ∧ bn ≠ k11) := ⟨hcn, HRB.out.sub _ (HRB.out.sb _ rfl).1, HRV.out.d4 _ rfl⟩
            have htn' : (t : Int) < (n : Int) := by omega
            have hif : (if (1 : Int) < (n : Int) - (t : Int) then (1 : Int) else (n : Int) - (t : Int)) = 1 := by split <;> omega
            clear hcn hdl hx hgx
            unfold rowv at hfr
            cases y with
            | true =>
              rw [if_pos rfl, if_pos rfl] at hfr
              obtain ⟨t2, ht2⟩ : ∃ t2, t + 1 = t2 := ⟨_, rfl⟩
              have et : (t : Int) + 1 = (t2 : Int) := by omega
              have ht2n : t2 ≤ n := by omega
              go_wp2_with fail
              refine hfr.mono ?_
              rintro e w7 ⟨rfl, hc7, hd7, hk7⟩
              have hnx := HRB.out.next hd7 hk7 HNA.out
              rw [ht2] at hnx
              obtain ⟨g1, g2, g3, -, hrw⟩ := hnx
              have HR := Hid.mk' hrw
              have g4 := hk7.cell HRV.out.hy ⟨HBK.out.2, HRV.out.d1⟩
              have g5 := hk7.cell HCN.out.1 HCN.out.2
              clear hfr hd7 hk7 hrw ht2
              go_upto_region 20 with fail
              generalize hw8 : w7.setCell ⟨k8, 0, none⟩ (.int .i64 (t2 : Int)) = w8 at *
              go_upto_region 21 with fail
              obtain ⟨r, hr⟩ : ∃ r : Nat, n - t2 = r := ⟨_, rfl⟩
              have ew : IntKind.i64.wrap ((n : Int) - (t2 : Int)) = (r : Int) := by
                rw [show (n : Int) - (t2 : Int) = (r : Int) by omega]
                simp [IntKind.wrap, IntKind.signed, IntKind.bits]
                omega

              have HWT : Hid (∀ w', RW w5 A B g k5 k8 (some ⟨bn, on_, none⟩) n cn ns t2 w' → Calls Try.prog 24 #[.pointer (some ⟨g, 0, none⟩)] w' fun e w'' => e = .returned (.slice (some ⟨w'.heap.size, 0, none⟩) r r) ∧ Below w'.heap.size w' w'') := fun w' h => RW.waits HL.out hlen6 hr w' h
              have HSS := Hid.mk' (RW.held HR.out (below_drewN (Below.refl _ w8) 1))
              clear hr HR
              have hS : w8.drew.cell? ⟨k5, 0, none⟩ = some (.slice (some ⟨bn, on_, none⟩) n cn) ∧ w8.drew.cell? ⟨k8, 0, none⟩ = some (.int .i64 t2) ∧ RW w5 A B g k5 k8 (some ⟨bn, on_, none⟩) n cn ns t2 w8.drew := HSS.out
              go_region_held3 (fun w' => w'.cell? ⟨k5, 0, none⟩ = some (.slice (some ⟨bn, on_, none⟩) n cn) ∧ w'.cell? ⟨k8, 0, none⟩ = some (.int .i64 t2) ∧ RW w5 A B g k5 k8 (some ⟨bn, on_, none⟩) n cn ns t2 w')
                (first | assumption | exact RW.held (rw_of (by assumption)) hb9 | go_keep)
                (first | (go_at_call 24; refine (HWT.out _ (rw_of (by assumption))).mono ?_; rintro e w9 ⟨rfl, hb9⟩))
              all_goals (
                have LE := rw_of (w := w9) (by assumption)
                have HE : Hid (RW w5 A A g k5 k8 (some ⟨bn, on_, none⟩) n cn ns t2 w9) := LE.fewer
                clear LE hS HSS HWT hb9
                go_wp2
                exact ⟨⟨i + 1, t2, by simp, by omega, by omega, by omega, HE.out⟩, by simp [intOf]; omega⟩)
            | false =>
              rw [if_neg (by simp), if_neg (by simp)] at hfr
              go_wp2_with fail
              refine hfr.mono ?_
              rintro e w7 ⟨rfl, hc7, hd7, hk7⟩
              have hrw := HRB.out.step (t2 := t) hd7 hk7 HNA.out rfl
              have g1 := (blk1 hrw.at_).1
              have g3 := hrw.nb
              have HR := Hid.mk' hrw
              have g4 := hk7.cell HRV.out.hy ⟨HBK.out.2, HRV.out.d1⟩
              clear hfr hd7 hk7 hrw
              go_upto_region 21 with fail
              obtain ⟨r, hr⟩ : ∃ r : Nat, n - t = r := ⟨_, rfl⟩
              have ew : IntKind.i64.wrap ((n : Int) - (t : Int)) = (r : Int) := by
                rw [show (n : Int) - (t : Int) = (r : Int) by omega]
                simp [IntKind.wrap, IntKind.signed, IntKind.bits]
                omega

              have HWT : Hid (∀ w', RW w5 A B g k5 k8 (some ⟨bn, on_, none⟩) n cn ns t w' → Calls Try.prog 24 #[.pointer (some ⟨g, 0, none⟩)] w' fun e w'' => e = .returned (.slice (some ⟨w'.heap.size, 0, none⟩) r r) ∧ Below w'.heap.size w' w'') := fun w' h => RW.waits HL.out hlen6 hr w' h
              have HSS := Hid.mk' (RW.held HR.out (below_drewN (Below.refl _ w7) 1))
              clear hr HR
              have hS : w7.drew.cell? ⟨k5, 0, none⟩ = some (.slice (some ⟨bn, on_, none⟩) n cn) ∧ w7.drew.cell? ⟨k8, 0, none⟩ = some (.int .i64 t) ∧ RW w5 A B g k5 k8 (some ⟨bn, on_, none⟩) n cn ns t w7.drew := HSS.out
              go_region_held3 (fun w' => w'.cell? ⟨k5, 0, none⟩ = some (.slice (some ⟨bn, on_, none⟩) n cn) ∧ w'.cell? ⟨k8, 0, none⟩ = some (.int .i64 t) ∧ RW w5 A B g k5 k8 (some ⟨bn, on_, none⟩) n cn ns t w')
                (first | assumption | exact RW.held (rw_of (by assumption)) hb9 | go_keep)
                (first | (go_at_call 24; refine (HWT.out _ (rw_of (by assumption))).mono ?_; rintro e w9 ⟨rfl, hb9⟩))
              all_goals (
                have LE := rw_of (w := w9) (by assumption)
                have HE : Hid (RW w5 A A g k5 k8 (some ⟨bn, on_, none⟩) n cn ns t w9) := LE.fewer
                clear LE hS HSS HWT hb9
                go_wp2
                exact ⟨⟨i + 1, t, by simp, by omega, by omega, by omega, HE.out⟩, by simp [intOf]; omega⟩)
          · obtain rfl : n = t := by omega
            have hd0 : drs (ns.drop n) = [] := by rw [List.drop_of_length_le (by rw [HL.out]; exact Nat.le_refl _)]; rfl
            have hdn := HRB.out.d
            rw [hd0] at hdn
            have hfr := first_none (.func 30) #[] #[.pointer (some ⟨k11, 0, none⟩), .pointer (some ⟨k10, 0, none⟩), .pointer (some ⟨k8, 0, none⟩), .pointer (some ⟨k5, 0, none⟩)] w6 B g [] hdn
            have g1 := (blk1 HRB.out.at_).1
            have g3 := HRB.out.nb
            have g4 := HRV.out.hy
            have g5 := (blk1 HRV.out.ha).1
            have HR := Hid.mk' HRB.out
            have hif : (if (1 : Int) < (n : Int) - (n : Int) then (1 : Int) else (n : Int) - (n : Int)) = 0 := by rw [if_neg (by omega)]; omega
            have hif2 : (if (1 : Int) < 0 then (1 : Int) else 0) = 0 := by rw [if_neg (by omega)]
            clear hdn hd0
            go_wp2_with fail
            refine hfr.mono ?_
            rintro e w7 ⟨rfl, hw7⟩
            subst w7
            clear hfr
            cases y
            all_goals
              go_upto_region 21 with fail
              obtain ⟨r, hr⟩ : ∃ r : Nat, n - n = r := ⟨_, rfl⟩
              have ew : IntKind.i64.wrap ((n : Int) - (n : Int)) = (r : Int) := by
                rw [show (n : Int) - (n : Int) = (r : Int) by omega]
                simp [IntKind.wrap, IntKind.signed, IntKind.bits]
                omega
              have ew0 : IntKind.i64.wrap 0 = (r : Int) := by rw [show (r : Int) = 0 by omega]; rfl
              have HWT : Hid (∀ w', RW w5 A B g k5 k8 an n cn ns n w' → Calls Try.prog 24 #[.pointer (some ⟨g, 0, none⟩)] w' fun e w'' => e = .returned (.slice (some ⟨w'.heap.size, 0, none⟩) r r) ∧ Below w'.heap.size w' w'') := fun w' h => RW.waits HL.out hlen6 hr w' h
              have HSS := Hid.mk' (RW.held HR.out (below_drewN (Below.refl _ w6) 1))
              clear hr HR
              have hS : w6.drew.cell? ⟨k5, 0, none⟩ = some (.slice an n cn) ∧ w6.drew.cell? ⟨k8, 0, none⟩ = some (.int .i64 n) ∧ RW w5 A B g k5 k8 an n cn ns n w6.drew := HSS.out
              go_region_held3 (fun w' => w'.cell? ⟨k5, 0, none⟩ = some (.slice an n cn) ∧ w'.cell? ⟨k8, 0, none⟩ = some (.int .i64 n) ∧ RW w5 A B g k5 k8 an n cn ns n w')
                (first | assumption | exact RW.held (rw_of (by assumption)) hb9 | go_keep)
                (first | (go_at_call 24; refine (HWT.out _ (rw_of (by assumption))).mono ?_; rintro e w9 ⟨rfl, hb9⟩))
              all_goals (
                have LE := rw_of (w := w9) (by assumption)
                have HE : Hid (RW w5 A A g k5 k8 an n cn ns n w9) := LE.fewer
                clear LE hS HSS HWT hb9
                go_wp2
                exact ⟨⟨i + 1, n, by simp, by omega, by omega, by omega, HE.out⟩, by simp [intOf]; omega⟩)
        · have HEND : Hid (Below w.heap.size w wr) := HBW.out.trans (HR.out.keep.below HBW.out.size (fun k hk => HAW.out k hk))
          clear HR H25 HAK HAW HBW
          by_cases hc1 : i < l2
          · have hc2 : ¬ (i : Int) < 30 := by omega
            have hc1' : (i : Int) < (l2 : Int) := by omega
            go_wp2
            go_ret
            exact ⟨rfl, HEND.out⟩
          · have hc1' : ¬ (i : Int) < (l2 : Int) := by omega
            go_wp2
            go_ret
            exact ⟨rfl, HEND.out⟩

end Go.Proofs.Ythobihlnjcphaaa
