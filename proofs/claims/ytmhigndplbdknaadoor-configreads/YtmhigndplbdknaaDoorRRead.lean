/-
  What the document's Read answers, as a contract: the config of a text, if it is one's, and its error; it turns nothing that was there. Condition: the text has at most 250 bytes.
-/
import Derived.Test.YtmhigndplbdknaaDoorNumber
import Derived.Test.YtmhigndplbdknaaDoorSmallC
namespace Go.Proofs.YtmhigndplbdknaaDoor
open Go.ChangeShapes Go.WideShapes Go.ChangeAt Go.RowKit

theorem wordsA_len : ∀ (s acc : List UInt8), ∀ x ∈ wordsA acc s, x.length ≤ acc.length + s.length
  | [], acc, x, hx => by
    simp only [wordsA, List.mem_singleton] at hx
    subst hx
    simp
  | b :: r, acc, x, hx => by
    by_cases hb : b = 32
    · subst hb
      rw [wordsA_stop] at hx
      rcases List.mem_cons.1 hx with h | h
      · subst h
        omega
      · have := wordsA_len r [] x h
        simp at this ⊢
        omega
    · rw [wordsA_go acc hb] at hx
      have := wordsA_len r (acc ++ [b]) x hx
      simp at this ⊢
      omega
theorem words_len (s : List UInt8) : ∀ x ∈ words s, x.length ≤ s.length := fun x hx => by
  have := wordsA_len s [] x hx
  simpa using this
/-- The shape of an own slice that is not empty. -/
theorem owns_shape {w : World} {base : Nat} {e : TypeId} {v : Value} {n : Nat} {xs : List Value} (h : w.ownsRow base e 1 v n xs) (hn : 0 < n) : ∃ g cap, v = .slice (some ⟨g, 0, none⟩) n cap ∧ g < w.heap.size ∧ base ≤ g ∧ ∀ j x, xs[j]? = some x → w.cell? ⟨g, j, none⟩ = some x := by
  have hsh := h
  obtain ⟨-, ⟨-, h0⟩ | ⟨g, cap, cur, rfl, hbg, hgg, rest⟩⟩ := hsh
  · omega
  · refine ⟨g, cap, rfl, lt_of_some hgg, hbg, fun j x hx => ?_⟩
    have := h.cells (g := g) rfl j x hx
    have e0 : ((⟨g, 0, none⟩ : Addr).add j) = ⟨g, j, none⟩ := by unfold Addr.add; split <;> simp_all
    rwa [e0] at this
theorem mapM_drop {ws : List (List UInt8)} {i : Nat} {m : List Int} {x : List UInt8} (hx : ws[i]? = some x) (h : ws.mapM numB = ((ws.drop i).mapM numB).map (m ++ ·)) :
    (numB x = none → ws.mapM numB = none) ∧ ∀ v, numB x = some v → ws.mapM numB = ((ws.drop (i + 1)).mapM numB).map ((m ++ [v]) ++ ·) := by
  have hi : i < ws.length := (List.getElem?_eq_some_iff.1 hx).1
  have hd : ws.drop i = x :: ws.drop (i + 1) := by
    rw [List.drop_eq_getElem_cons hi]
    rw [List.getElem?_eq_getElem hi] at hx
    rw [Option.some.inj hx]
  rw [hd] at h
  refine ⟨fun hv => ?_, fun v hv => ?_⟩
  · rw [h]
    simp [List.mapM_cons, hv]
  · rw [h]
    simp only [List.mapM_cons, hv]
    cases (ws.drop (i + 1)).mapM numB <;> simp
theorem rd_none {S : List UInt8} (h : rdB S = none) : rdL S = zeros ∧ rdE S = 2 := by
  unfold rdL rdE
  rw [h]
  exact ⟨rfl, rfl⟩

set_option maxRecDepth 100000 in
set_option maxHeartbeats 2000000 in
theorem rread_any (S : List UInt8) (hS : S.length ≤ 250) (w : World) :
    Calls Tryd.prog 20 #[.string (mk S)] w fun e w' => e = .returned (.tuple #[.agg (cc (rdL S)), .int .i64 (rdE S)]) ∧ Below w.heap.size w w' := by
  obtain ⟨ti, hti, hz0, hz1, hz2⟩ := info_parts info3
  have HA : Hid ((w.alloc (.cells (cc zeros) 23)).heap[w.heap.size]? = some (.cells (cc zeros) 23 (0, 0))) := heap_alloc_new _ _
  go_enter Tryd.func20, Tryd.ntmps20
  go_wp2_with fail
  refine (words_any S hS _).mono ?_
  rintro e W ⟨v, rfl, hown, hb1⟩
  have hp := words_pos S
  obtain ⟨g, cap, rfl, hgl, hgb, hcl⟩ := owns_shape hown (by omega)
  have H1 : Hid (W.heap[w.heap.size]? = some (.cells (cc zeros) 23 (0, 0)) ∧ Below w.heap.size w W) := ⟨keep_blk hb1 HA.out, ((Below.refl _ _).alloc (Nat.le_refl _) _).trans (hb1.mono (by simp))⟩
  have HWC : Hid (∀ j x, (words S)[j]? = some x → W.cell? ⟨g, j, none⟩ = some (.string (mk x))) := fun j x hx => hcl j _ (by simp [wcs, hx])
  have HWL : Hid (∀ x ∈ words S, x.length ≤ 250) := fun x hx => by have := words_len S x hx; omega
  have HRD : Hid (rdB S = if (words S).length = 15 then (words S).mapM numB else none) := rfl
  clear hown hb1 hcl HA hgb hp
  generalize words S = ws at *
  by_cases h15 : ws.length = 15
  · rw [h15]
    have HR : Hid (rdB S = ws.mapM numB) := Hid.mk' (by rw [HRD.out, if_pos h15])
    clear HRD
    go_wp2
    go_loopw [5, 6] (fun vl vi wr => ∃ (i : Nat) (m : List Int), i ≤ 15 ∧ vi = .int .i64 i ∧ m.length = i ∧ Hid (ws.mapM numB = ((ws.drop i).mapM numB).map (m ++ ·)) ∧ wr.ownsRow W.heap.size 3 1 vl i (ic m) ∧ Below W.heap.size W wr) (fun _ vi _ => 15 - (intOf vi).toNat)
    case atStart => exact ⟨0, [], by omega, rfl, rfl, Hid.mk' (by simp), World.ownsRow_nil _ _ _ _, Below.refl _ _⟩
    case round =>
      obtain ⟨i, m, hi, rfl, hm, hM, hown, hbel⟩ := hrel
      by_cases hc : i < 15
      · obtain ⟨x, hx⟩ : ∃ x, ws[i]? = some x := ⟨_, List.getElem?_eq_getElem (by omega)⟩
        have x1 : wr.cell? ⟨g, i, none⟩ = some (.string (mk x)) := (hbel.cell (p := ⟨g, i, none⟩) hgl).trans (HWC.out i x hx)
        have hxl : x.length ≤ 250 := HWL.out x (List.mem_of_getElem? hx)
        obtain ⟨n1, n2⟩ := mapM_drop hx hM.out
        have hnum := rnumber_any x hxl wr
        have hiI : (i : Int) < 15 := by omega
        have HNN := Hid.mk' (And.intro n1 n2)
        clear hM n1 n2 hx hxl
        cases hv : numB x with
        | none =>
          have e2 : numO x = false := by unfold numO; rw [hv]; rfl
          rw [e2] at hnum
          have hr := rd_none (HR.out.trans (HNN.out.1 hv))
          have HK := Hid.mk' hr
          clear hr HNN hv e2
          go_wp2_with fail
          refine hnum.mono ?_
          rintro e w4 ⟨⟨n, rfl, -⟩, hb4⟩
          have HZ : Hid (w4.heap[w.heap.size]? = some (.cells (cc zeros) 23 (0, 0)) ∧ Below w.heap.size w w4) := by
            have q1 := keep_blk hb4 (keep_blk hbel H1.out.1)
            have q2 := H1.out.2.trans (hbel.mono H1.out.2.size)
            exact ⟨q1, q2.trans (hb4.mono q2.size)⟩
          clear hnum hb4 hown hbel x1
          go_wp2_with (first
            | (refine wl_put (l := zeros) rfl rfl _ _ rfl rfl rfl HZ.out.1 rfl ?_))
          refine bodyPost_ret (v := .tuple #[.agg (cc zeros), .int .i64 2]) ?_ rfl ⟨tupe HK.out.1.symm HK.out.2.symm, below_setRow HZ.out.2 (Nat.le_refl _) _⟩
          rw [results_cell_tmp Tryd.results20]
          have hend := run_cfg zeros_len (setRow_heap _ _ _ (cc zeros) _ _ HZ.out.1)
          simp [asAddr, hend]
        | some y =>
          have e2 : numO x = true := by unfold numO; rw [hv]; rfl
          rw [e2] at hnum
          have HN2 := Hid.mk' (HNN.out.2 y hv)
          clear HNN e2
          go_wp2_with fail
          refine hnum.mono ?_
          rintro e w4 ⟨⟨n, rfl, hny⟩, hb4⟩
          obtain rfl := hny y hv
          have hown4 : w4.ownsRow W.heap.size 3 1 u5 i (ic m) := by
            refine ⟨hown.1, ?_⟩
            rcases hown.2 with hn | ⟨g', cap', cur, rfl, hbg, hgg, rest⟩
            · exact .inl hn
            · exact .inr ⟨g', cap', cur, rfl, hbg, by rw [hb4.block g' (lt_of_some hgg)]; exact hgg, rest⟩
          have hbel4 : Below W.heap.size W w4 := hbel.trans (hb4.mono hbel.size)
          clear hnum hb4 hown hbel x1 hny hv
          go_wp2_with (at_builtin; refine wpList_append_own _ rfl _ _ 32 rfl W.heap.size 3 ti (.int .i64 0) 1 8 Tryd.underlying32 hti hz0 hz1 hz2 rfl (by decide) _ i _ rfl (hown4.alloc _) ⟨w4.heap.size, 0, none⟩ 1 1 [.int .i64 n] rfl rfl (news_one _ _ _) (int_one n) (by unfold maxLen; omega) (by omega) (by have := hbel4.size; simp; omega) ?_)
          intro v3 w5 hown5 hgrow5 _
          have hbel5 : Below W.heap.size W w5 := (hbel4.alloc hbel4.size _).grown hgrow5 (by have := hbel4.size; simp; omega) (fun j hj => (hown4.lt j hj).1)
          have hown6 : w5.ownsRow W.heap.size 3 1 v3 (i + 1) (ic (m ++ [n])) := by
            have e : ic (m ++ [n]) = ic m ++ [.int .i64 n] := by simp [ic]
            rw [e]
            exact hown5
          clear hown5 hgrow5 hown4 hbel4
          go_wp2
          go_roundw
          case rel => exact ⟨i + 1, m ++ [n], by omega, by go_num, by simp [hm], HN2, hown6, hbel5⟩
          case measure => simp [intOf]; omega
      · obtain rfl : i = 15 := by omega
        have hr : rdB S = some m := by
          rw [HR.out, hM.out, List.drop_of_length_le (by omega)]
          simp
        obtain ⟨gg, cp, rfl, hgg, -, hcm⟩ := owns_shape hown (by omega)
        have hof := of_any m hm gg cp wr hgg (fun j hj => hcm j _ (by simp [ic, List.getD, show j < m.length by omega]))
        have HB : Hid (Below w.heap.size w wr ∧ wr.heap[w.heap.size]? = some (.cells (cc zeros) 23 (0, 0))) := ⟨H1.out.2.trans (hbel.mono H1.out.2.size), keep_blk hbel H1.out.1⟩
        have HRR := Hid.mk' hr
        clear hown hcm hbel hM hr HR HWC HWL
        go_wp2_with fail
        refine hof.mono ?_
        rintro e w5 ⟨rfl, hb5⟩
        have HB5 : Hid (Below w.heap.size w w5 ∧ w5.heap[w.heap.size]? = some (.cells (cc zeros) 23 (0, 0))) := ⟨HB.out.1.trans (hb5.mono HB.out.1.size), keep_blk hb5 HB.out.2⟩
        have HN : Hid ((w5.alloc (.cells (cc m) 23)).heap[w5.heap.size]? = some (.cells (cc m) 23 (0, 0))) := heap_alloc_new _ _
        clear hb5 hof HB
        go_wp2_with (first
          | (refine wl_new hm rfl _ _ rfl rfl rfl rfl ?_)
          | (refine wl_load (t := 23) (fr := (0, 0)) hm rfl _ rfl rfl ?_ ?_; exact HN.out))
        refine (rcheck_any m hm _).mono ?_
        rintro e w6 ⟨rfl, hb6⟩
        have H3 : Hid (w6.heap[w.heap.size]? = some (.cells (cc zeros) 23 (0, 0)) ∧ w6.heap[w5.heap.size]? = some (.cells (cc m) 23 (0, 0)) ∧ Below w.heap.size w w6) := by
          refine ⟨keep_blk hb6 ((Below.heap_alloc _ _ _ (lt_of_some HB5.out.2)).trans HB5.out.2), keep_blk hb6 HN.out, ?_⟩
          exact (HB5.out.1.alloc HB5.out.1.size _).trans (hb6.mono (by have := HB5.out.1.size; simp; omega))
        clear hb6
        rcases ckE_two m with h0 | h0
        · have e1 : rdL S = m := by unfold rdL; rw [HRR.out]; simp [h0]
          have e2 : rdE S = 0 := by unfold rdE; rw [HRR.out]; exact h0
          have HK := Hid.mk' (And.intro e1 e2)
          rw [h0]
          clear e1 e2 h0 HB5 HN HRR
          go_wp2_with (first
            | (refine wl_load (t := 23) (fr := (0, 0)) hm rfl _ rfl rfl ?_ ?_; exact H3.out.2.1)
            | (refine wl_put hm rfl _ _ rfl rfl rfl H3.out.1 rfl ?_))
          refine bodyPost_ret (v := .tuple #[.agg (cc m), .int .i64 0]) ?_ rfl ⟨tupe HK.out.1.symm HK.out.2.symm, below_setRow H3.out.2.2 (Nat.le_refl _) _⟩
          rw [results_cell_tmp Tryd.results20]
          have hend := run_cfg hm (setRow_heap _ _ _ (cc m) _ _ H3.out.1)
          simp [asAddr, hend]
        · have e1 : rdL S = zeros := by unfold rdL; rw [HRR.out]; simp [h0]
          have e2 : rdE S = 10 := by unfold rdE; rw [HRR.out]; exact h0
          have HK := Hid.mk' (And.intro e1 e2)
          rw [h0]
          clear e1 e2 h0 HB5 HN HRR
          go_wp2_with (first
            | (refine wl_put (l := zeros) rfl rfl _ _ rfl rfl rfl H3.out.1 rfl ?_))
          refine bodyPost_ret (v := .tuple #[.agg (cc zeros), .int .i64 10]) ?_ rfl ⟨tupe HK.out.1.symm HK.out.2.symm, below_setRow H3.out.2.2 (Nat.le_refl _) _⟩
          rw [results_cell_tmp Tryd.results20]
          have hend := run_cfg zeros_len (setRow_heap _ _ _ (cc zeros) _ _ H3.out.1)
          simp [asAddr, hend]
  · have hr := rd_none (S := S) (by rw [HRD.out, if_neg h15])
    have HK := Hid.mk' hr
    have hne : ((ws.length : Int) != 15) = true := by simp; omega
    have hne2 : ¬ (ws.length : Int) = 15 := by omega
    clear hr HRD HWC HWL
    go_wp2_with (first
      | (refine wl_put (l := zeros) rfl rfl _ _ rfl rfl rfl H1.out.1 rfl ?_))
    refine bodyPost_ret (v := .tuple #[.agg (cc zeros), .int .i64 2]) ?_ rfl ⟨tupe HK.out.1.symm HK.out.2.symm, below_setRow H1.out.2 (Nat.le_refl _) _⟩
    rw [results_cell_tmp Tryd.results20]
    have hend := run_cfg zeros_len (setRow_heap _ _ _ (cc zeros) _ _ H1.out.1)
    simp [asAddr, hend]

end Go.Proofs.YtmhigndplbdknaaDoor
