/-
  What the document's Small answers, as a contract: a config of small numbers, each within its two ends; it turns nothing that was there. Condition: a config has 15 numbers.
-/
import Derived.Test.YtmhigndplbdknaaDoorRCheck
import Derived.Test.YtmhigndplbdknaaDoorParse
import Derived.Deep.RegionHeldLaw
import Derived.Deep.AppendLies
import Derived.Laws.AppendOwnNone
namespace Go.Proofs.YtmhigndplbdknaaDoor
open Go.ChangeShapes Go.WideShapes Go.ChangeAt Go.RowKit

def mosts : List Int := [40, 3, 6, 4, 12, 12, 30, 6, 12, 2, 30, 3, 15, 6, 5]
def leasts : List Int := [8, 1, 1, 0, 1, 1, 6, 0, 1, 0, 1, 1, 1, 1, 0]
theorem ends (j : Nat) (h : j < 15) : 0 ≤ leasts.getD j 0 ∧ leasts.getD j 0 ≤ mosts.getD j 0 ∧ mosts.getD j 0 ≤ 40 := by
  match j, h with
  | 0, _ | 1, _ | 2, _ | 3, _ | 4, _ | 5, _ | 6, _ | 7, _ | 8, _ | 9, _ | 10, _ | 11, _ | 12, _ | 13, _ | 14, _ => decide
theorem info3 : (Tryd.prog.info? 3).map (fun i => (i.zero, i.size, i.bytes)) = some (some (.int .i64 0), 1, 8) := by kernel_rfl
/-- Each number is within its two ends. -/
def within (m : List Int) : Prop := ∀ j, j < m.length → leasts.getD j 0 ≤ m.getD j 0 ∧ m.getD j 0 ≤ mosts.getD j 0
def ic (l : List Int) : List Value := l.map (Value.int .i64)

set_option maxRecDepth 100000 in
set_option maxHeartbeats 2000000 in
theorem small_any (l : List Int) (hl : l.length = 15) (w : World) :
    Calls Tryd.prog 21 #[.agg (cc l)] w fun e w' => (∃ m, m.length = 15 ∧ (∀ j, j < 15 → j ≠ 9 → leasts.getD j 0 ≤ m.getD j 0 ∧ m.getD j 0 ≤ mosts.getD j 0) ∧ e = .returned (.agg (cc m))) ∧ Below w.heap.size w w' := by
  obtain ⟨ti, hti, hz0, hz1, hz2⟩ := info_parts info3
  have HA : Hid (((w.alloc (.cells (cc l) 23)).alloc (.cells (cc zeros) 23)).heap[w.heap.size]? = some (.cells (cc l) 23 (0, 0)) ∧ ((w.alloc (.cells (cc l) 23)).alloc (.cells (cc zeros) 23)).heap[w.heap.size + 1]? = some (.cells (cc zeros) 23 (0, 0))) := ⟨heap_alloc2_old _ _ _, heap_alloc2_new _ _ _⟩
  go_enter Tryd.func21, Tryd.ntmps21
  go_wp2_with (first
    | (refine wl_load hl rfl _ rfl rfl HA.out.1 ?_))
  refine (list_any l hl _).mono ?_
  rintro e w2 ⟨gl, rfl, hgl, hG, hb2⟩
  have H3 : Hid (((w2.alloc (.cells (cc mosts) 3)).alloc (.cells (cc leasts) 3)).heap[gl]? = some (.cells (cc l) 3 (0, 0)) ∧ ((w2.alloc (.cells (cc mosts) 3)).alloc (.cells (cc leasts) 3)).heap[w2.heap.size]? = some (.cells (cc mosts) 3 (0, 0)) ∧ ((w2.alloc (.cells (cc mosts) 3)).alloc (.cells (cc leasts) 3)).heap[w2.heap.size + 1]? = some (.cells (cc leasts) 3 (0, 0)) ∧ ((w2.alloc (.cells (cc mosts) 3)).alloc (.cells (cc leasts) 3)).heap[w.heap.size + 1]? = some (.cells (cc zeros) 23 (0, 0)) ∧ Below w.heap.size w ((w2.alloc (.cells (cc mosts) 3)).alloc (.cells (cc leasts) 3))) := by
    have hB : Below w.heap.size w w2 := (((Below.refl _ _).alloc (Nat.le_refl _) _).alloc (by simp) _).trans (hb2.mono (by simp; omega))
    have hz := keep_blk hb2 HA.out.2
    have hs := hB.size
    refine ⟨?_, heap_alloc2_old _ _ _, heap_alloc2_new _ _ _, ?_, (hB.alloc hs _).alloc (by simp; omega) _⟩
    · rw [Below.heap_alloc _ _ _ (by have := lt_of_some hG; simp; omega), Below.heap_alloc _ _ _ (lt_of_some hG)]
      exact hG
    · rw [Below.heap_alloc _ _ _ (by have := lt_of_some hz; simp; omega), Below.heap_alloc _ _ _ (lt_of_some hz)]
      exact hz
  clear hb2 hG HA hgl
  go_wp2
  obtain ⟨gm, hgm⟩ : ∃ gm, w2.heap.size = gm := ⟨_, rfl⟩
  rw [hgm] at H3 ⊢
  have e3 : (w2.alloc (.cells (cc mosts) 3)).alloc (.cells (cc leasts) 3) = (w2.alloc (.cells (cc mosts) 3)).alloc (.cells (cc leasts) 3) := rfl
  obtain ⟨W, hW⟩ : ∃ W, (w2.alloc (.cells (cc mosts) 3)).alloc (.cells (cc leasts) 3) = W := ⟨_, rfl⟩
  rw [hW] at H3
  change Code.wp _ _ _ _ ((w2.alloc (.cells (cc mosts) 3)).alloc (.cells (cc leasts) 3))
  rw [hW]
  clear hW hgm e3
  go_loopw [6, 7] (fun v i wr => ∃ (k : Nat) (m : List Int), k ≤ 15 ∧ i = .int .i64 k ∧ m.length = k ∧ within m ∧ wr.ownsRow W.heap.size 3 1 v k (ic m) ∧ Below W.heap.size W wr)
    (fun _ i _ => 15 - (intOf i).toNat)
  case atStart => exact ⟨0, [], by omega, rfl, rfl, fun j hj => by simp at hj, World.ownsRow_nil _ _ _ _, Below.refl _ _⟩
  case round =>
    obtain ⟨k, m, hk, rfl, hm, hwi, hown, hbel⟩ := hrel
    by_cases hc : k < 15
    · have x1 : wr.cell? ⟨gl, k, none⟩ = some (.int .i64 (l.getD k 0)) := by
        rw [cell_of_row _ _ _ _ _ _ (keep_blk hbel H3.out.1), cc_get l k (by omega)]
      have x2 : wr.cell? ⟨gm, k, none⟩ = some (.int .i64 (mosts.getD k 0)) := by
        rw [cell_of_row _ _ _ _ _ _ (keep_blk hbel H3.out.2.1), cc_get mosts k (by simpa [mosts] using hc)]
      have x3 : wr.cell? ⟨gm + 1, k, none⟩ = some (.int .i64 (leasts.getD k 0)) := by
        rw [cell_of_row _ _ _ _ _ _ (keep_blk hbel H3.out.2.2.1), cc_get leasts k (by simpa [leasts] using hc)]
      have hen := ends k hc
      have g1 : gl < W.heap.size := lt_of_some H3.out.1
      have g2 : gm < W.heap.size := lt_of_some H3.out.2.1
      have g3 : gm + 1 < W.heap.size := lt_of_some H3.out.2.2.1
      have hzz := hbel.size
      have n1 : u6.ownBlock ≠ some gl := fun e => by have := (hown.lt _ e).1; omega
      have n2 : u6.ownBlock ≠ some gm := fun e => by have := (hown.lt _ e).1; omega
      have n3 : u6.ownBlock ≠ some (gm + 1) := fun e => by have := (hown.lt _ e).1; omega
      have HN : Hid (∀ v : Int, leasts.getD k 0 ≤ v ∧ v ≤ mosts.getD k 0 → within (m ++ [v])) := fun v hv j hj => by
        by_cases hjk : j < m.length
        · have := hwi j hjk
          simpa [List.getD, List.getElem?_append_left hjk] using this
        · have hj2 : j = m.length := by simp at hj; omega
          subst hj2
          rw [hm]
          simpa [List.getD, ← hm] using hv
      generalize l.getD k 0 = X at *
      generalize mosts.getD k 0 = M at *
      generalize leasts.getD k 0 = L at *
      obtain ⟨e1, e2, e3⟩ := hen
      have w1 : ∀ z : Int, -100 ≤ z → z ≤ 100 → IntKind.i64.wrap z = z := fun z h1 h2 => by
        simp only [IntKind.wrap, IntKind.signed, IntKind.bits, Bool.true_and, ge_iff_le, decide_eq_true_eq]
        split <;> omega
      have w2' : ∀ z : Int, -100 ≤ z → z ≤ 100 → wrap64 z = z := fun z h1 h2 => by unfold wrap64; omega
      have w3' : IntKind.u64.wrap (M - L + 1) = M - L + 1 := by
        simp only [IntKind.wrap, IntKind.signed, IntKind.bits, Bool.false_and, Bool.false_eq_true, if_false]
        omega
      obtain ⟨Dd, hDd⟩ : ∃ Dd, M - L + 1 = Dd := ⟨_, rfl⟩
      have hDa : IntKind.u64.wrap (IntKind.i64.wrap (IntKind.i64.wrap (M - L) + 1)) = Dd := by rw [w1 (M - L) (by omega) (by omega), w1 _ (by omega) (by omega), w3', hDd]
      have hDb : IntKind.u64.wrap (wrap64 (wrap64 (M - L) + 1)) = Dd := by rw [w2' (M - L) (by omega) (by omega), w2' _ (by omega) (by omega), w3', hDd]
      have hDc : IntKind.u64.wrap (M - L + 1) = Dd := by rw [w3', hDd]
      have hD0 : (Dd == 0) = false := by simp; omega
      have hD6 : ¬ Dd = 0 := by omega
      obtain ⟨V, hV⟩ : ∃ V, IntKind.i64.wrap (L + IntKind.i64.wrap ((IntKind.u64.wrap X).tmod Dd)) = V := ⟨_, rfl⟩
      have HV : Hid (L ≤ V ∧ V ≤ M) := by
        have e : IntKind.u64.wrap X = X % 18446744073709551616 := by simp [IntKind.wrap, IntKind.signed, IntKind.bits]
        have hnn : 0 ≤ X % 18446744073709551616 := Int.emod_nonneg _ (by decide)
        have hT : (IntKind.u64.wrap X).tmod Dd = X % 18446744073709551616 % Dd := by rw [e, Int.tmod_eq_emod_of_nonneg hnn]
        have a1 := Int.emod_nonneg (X % 18446744073709551616) (show Dd ≠ 0 by omega)
        have a2 := Int.emod_lt_of_pos (X % 18446744073709551616) (show 0 < Dd by omega)
        rw [← hV, hT]
        generalize X % 18446744073709551616 % Dd = y at a1 a2
        rw [w1 y (by omega) (by omega), w1 _ (by omega) (by omega)]
        show L ≤ L + y ∧ L + y ≤ M
        omega
      clear w1 w2' w3' hDd
      have HM : Hid (m.length = k ∧ within m) := ⟨hm, hwi⟩
      clear hm hwi
      have hk0 : (0 : Int) ≤ (k : Int) := Int.natCast_nonneg _
      have hk1 : (k : Int) < 15 := by omega
      go_wp2_with fail
      go_region_held_law (fun w' => w'.cell? ⟨gl, k, none⟩ = some (.int .i64 X) ∧ w'.cell? ⟨gm, k, none⟩ = some (.int .i64 M) ∧ w'.cell? ⟨gm + 1, k, none⟩ = some (.int .i64 L))
        (first
          | go_keep
          | (rw [hgrow.cell_far _ (by simp; omega) (Ne.symm n1), hgrow.cell_far _ (by simp; omega) (Ne.symm n2), hgrow.cell_far _ (by simp; omega) (Ne.symm n3)]; assumption))
        ((refine step_append_lies _ (by rfl) _ _ _ (by rfl) W.heap.size 3 ti _ 1 8 Tryd.underlying32 hti hz0 hz1 hz2 rfl (by omega) u6 k (ic m) (by rfl) ((hown.alloc _).drew)
            ⟨wr.heap.size, 0, none⟩ 1 1 [.int .i64 V] (by rfl) (by rfl) (World.news_of_block (cs := #[.int .i64 V]) (t := 3) (fr := (0, 0)) (heap_alloc_new wr _)) (by simp [Value.oneCell'])
            (by omega) (by unfold maxLen; omega) (by omega) (by simp; omega) (wr.heap.size + 1) (by simp) ?_; intro gg cp w3 hown3 hgrow hat hlt3))
      have hbel3 : Below W.heap.size W w3 := ((hbel.alloc hbel.size (.cells #[.int .i64 V] 3)).drew).grown hgrow (by simp; omega) (fun j hj => (hown.lt j hj).1)
      have hown4 : w3.ownsRow W.heap.size 3 1 (.slice (some ⟨gg, 0, none⟩) (k + 1) cp) (k + 1) (ic (m ++ [V])) := by
        have e : ic (m ++ [V]) = ic m ++ [.int .i64 V] := by simp [ic]
        rw [e]
        exact hown3
      have HQ := Hid.mk' (And.intro hown4 (And.intro hbel3 (HN.out V HV.out)))
      clear hown3 hgrow hown hbel hown4 hbel3 hat hlt3 hV HN
      go_wp2
      go_roundw
      case rel => exact ⟨k + 1, m ++ [V], by omega, by go_num, by simp [HM.out.1], HQ.out.2.2, HQ.out.1, HQ.out.2.1⟩
      case measure => simp [intOf]; omega
    · obtain rfl : k = 15 := by omega
      have hsh := hown
      obtain ⟨-, ⟨-, h0⟩ | ⟨gg, cp, cur, rfl, hbg, hgg, rest⟩⟩ := hsh
      · exact absurd h0 (by decide)
      have hcl : ∀ j, j < 15 → wr.cell? ⟨gg, j, none⟩ = some (.int .i64 (m.getD j 0)) := fun j hj => by
        have := hown.cells (g := gg) rfl j (.int .i64 (m.getD j 0)) (by simp [ic, List.getD, show j < m.length by omega])
        have e0 : ((⟨gg, 0, none⟩ : Addr).add j) = ⟨gg, j, none⟩ := by unfold Addr.add; split <;> simp_all
        rwa [e0] at this
      have hof := of_any m hm gg cp wr (lt_of_some hgg) hcl
      have HB : Hid (Below w.heap.size w wr ∧ wr.heap[w.heap.size + 1]? = some (.cells (cc zeros) 23 (0, 0))) := ⟨H3.out.2.2.2.2.trans (hbel.mono H3.out.2.2.2.2.size), keep_blk hbel H3.out.2.2.2.1⟩
      have q9 := cc_get m 9 (by omega)
      have q1 := cc_get m 1 (by omega)
      have HW := Hid.mk' hwi
      clear hown hbg hgg rest hcl hbel hwi H3 hl
      go_wp2_with fail
      refine hof.mono ?_
      rintro e w5 ⟨rfl, hb5⟩
      have HB5 : Hid (Below w.heap.size w w5 ∧ w5.heap[w.heap.size + 1]? = some (.cells (cc zeros) 23 (0, 0))) := ⟨HB.out.1.trans (hb5.mono HB.out.1.size), keep_blk hb5 HB.out.2⟩
      clear hb5 hof HB
      generalize m.getD 9 0 = A at *
      generalize m.getD 1 0 = B at *
      have hm' : (m.set 9 (min A B)).length = 15 := by simpa using hm
      have HL : Hid ((w5.alloc (.cells ((cc m).setIfInBounds 9 (.int .i64 (min A B))) 23)).heap[w5.heap.size]? = some (.cells (cc (m.set 9 (min A B))) 23 (0, 0))) := by
        rw [cc_set]
        exact heap_alloc_new _ _
      have HZ : Hid ((w5.alloc (.cells ((cc m).setIfInBounds 9 (.int .i64 (min A B))) 23)).heap[w.heap.size + 1]? = some (.cells (cc zeros) 23 (0, 0))) := (Below.heap_alloc _ _ _ (lt_of_some HB5.out.2)).trans HB5.out.2
      go_wp2_with (first
        | (refine wl_new hm rfl _ _ rfl rfl rfl rfl ?_)
        | (refine wl_load hm' rfl _ rfl rfl HL.out ?_)
        | (refine wl_put hm' rfl _ _ rfl rfl rfl HZ.out rfl ?_))
      refine bodyPost_ret (v := .agg (cc (m.set 9 (min A B)))) ?_ rfl ⟨⟨m.set 9 (min A B), hm', ?_, rfl⟩, below_setRow (HB5.out.1.alloc HB5.out.1.size _) (by omega) _⟩
      · exact results_cell_row Tryd.results21 _ _ (w.heap.size + 1) 23 (cc (m.set 9 (min A B))) (0, 0) _ rfl (setRow_heap _ _ _ _ _ _ HZ.out) Tryd.underlying23 rfl (cc_info hm')
      · intro j hj h9
        have := HW.out j (by omega)
        simpa [List.getD, Ne.symm h9] using this

end Go.Proofs.YtmhigndplbdknaaDoor
