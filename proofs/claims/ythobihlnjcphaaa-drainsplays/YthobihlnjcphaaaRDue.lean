/-
  What the document's Due answers. Conditions: its drains lie where they are said to lie, at most 900 are under way.
-/
import Derived.Test.YthobihlnjcphaaaRBox
namespace Go.Proofs.Ythobihlnjcphaaa
open Go.ChangeShapes Go.WideShapes Go.ChangeAt Go.RowKit

theorem snd_getD (M : List Dr) (i : Nat) : (M.map Prod.snd).getD i 0 = (nthD M i).2 := by
  unfold nthD
  simp only [List.getD, List.getElem?_map]
  cases M[i]? <;> rfl

set_option maxHeartbeats 2000000 in
set_option maxRecDepth 100000 in
theorem rdue_any (w : World) (a0 a1 a2 : Option Addr) (n0 n c0 c1 c2 : Nat) (M : List Dr) (now : Int) (hu : StrsAt w a1 n c1 (nms M)) (hz : IntsAt w a2 n c2 (M.map Prod.snd)) (hl : n ≤ 900) (hm : M.length = n) :
    Calls Try.prog 27 #[.agg #[.slice a0 n0 c0, .slice a1 n c1, .slice a2 n c2], .int .i64 now] w fun e w' => ∃ v, e = .returned v ∧ w'.ownsRow w.heap.size 9 1 v (dueL now M).length (sc (dueL now M)) ∧ Below w.heap.size w w' := by
  obtain ⟨i0, hi, hz0, hz1, hz2⟩ := info_parts info9
  have hb1 : Below w.heap.size w (w.alloc (.cells #[.slice a0 n0 c0, .slice a1 n c1, .slice a2 n c2] 29)) := (Below.refl _ w).alloc (Nat.le_refl _) _
  have HG : Hid ((w.alloc (.cells #[.slice a0 n0 c0, .slice a1 n c1, .slice a2 n c2] 29)).heap[w.heap.size]? = some (.cells #[.slice a0 n0 c0, .slice a1 n c1, .slice a2 n c2] 29 (0, 0))) := heap_alloc_new w _
  have HU := Hid.mk' (hu.below (Nat.le_refl _) hb1)
  have HZ := Hid.mk' (hz.below (Nat.le_refl _) hb1)
  have HB1 := Hid.mk' hb1
  have hle := hu.hle
  have hcap := hu.hcap
  have hle2 := hz.hle
  have hcap2 := hz.hcap
  unfold maxLen at hcap hcap2
  have HT : Hid (M.take n = M) := by show _ = _; rw [← hm, List.take_length]
  have HY : Hid (∀ i, i < n → past now (nthD M i).2 = true → dueL now (M.take (i + 1)) = dueL now (M.take i) ++ [(nthD M i).1]) := fun i h hp => dueL_yes (by omega) hp
  have HN : Hid (∀ i, i < n → past now (nthD M i).2 = false → dueL now (M.take (i + 1)) = dueL now (M.take i)) := fun i h hp => dueL_no (by omega) hp
  have HM := Hid.mk' hm
  clear hu hz hm hb1
  go_enter Try.func27, Try.ntmps27
  go_wp2
  generalize w.alloc (.cells #[.slice a0 n0 c0, .slice a1 n c1, .slice a2 n c2] 29) = w1 at *
  go_loopw [6, 5] (fun v6 v wr => ∃ i : Nat, v6 = .int .i64 i ∧ i ≤ n ∧ wr.ownsRow w1.heap.size 9 1 v (dueL now (M.take i)).length (sc (dueL now (M.take i))) ∧ Below w1.heap.size w1 wr) (fun v6 _ _ => n + 1 - (intOf v6).toNat)
  case atStart => exact ⟨0, rfl, Nat.zero_le _, by simpa [dueL, nms, sc] using World.ownsRow_nil _ _ _ _, Below.refl _ _⟩
  case round =>
    obtain ⟨i, rfl, hin0, hown, hbel⟩ := hrel
    obtain ⟨y0, y1, y2, _⟩ := blk3 ((hbel.block _ (lt_of_heap HG.out)).trans HG.out)
    by_cases hin : i < n
    · obtain ⟨b, off, rfl, hb, hc⟩ := (HU.out.below (Nat.le_refl _) hbel).at_ i hin
      obtain ⟨b', off', rfl, hb', hc'⟩ := (HZ.out.below (Nat.le_refl _) hbel).at_ i hin
      rw [nms_getD] at hc
      rw [snd_getD] at hc'
      have HYI := Hid.mk' (HY.out i hin)
      have HNI := Hid.mk' (HN.out i hin)
      have hdl := dueL_len now (M.take i)
      rw [List.length_take, HM.out] at hdl
      generalize (nthD M i).1 = y at *
      generalize (nthD M i).2 = d at *
      generalize dueL now (M.take i) = l at *
      have hrp := rpast_any now d wr
      cases hp : past now d with
      | true =>
        rw [hp] at hrp
        have HE := Hid.mk' (HYI.out hp)
        clear HYI HNI hp
        go_wp2_with (first
          | (go_at_call 45; refine hrp.mono ?_; rintro e w' ⟨rfl, hw'⟩; subst w')
          | (at_builtin; refine wpList_append_own _ rfl _ _ 26 rfl w1.heap.size 9 i0 (.string ⟨#[]⟩) 1 16 Try.underlying26 hi hz0 hz1 hz2 rfl (by decide) _ l.length _ rfl (hown.alloc _) ⟨wr.heap.size, 0, none⟩ 1 1 [.string y] rfl rfl (news_one _ _ _) (str_one _) (by unfold maxLen; omega) (by omega) (by have := hbel.size; simp; omega) ?_))
        intro v3 w3 hown3 hgrow3 _
        have hbel3 : Below w1.heap.size w1 w3 := (hbel.alloc hbel.size _).grown hgrow3 (by have := hbel.size; simp; omega) (fun j hj => (hown.lt j hj).1)
        have hown4 : w3.ownsRow w1.heap.size 9 1 v3 (l ++ [y]).length (sc (l ++ [y])) := by rw [sc_snoc, List.length_append]; exact hown3
        rw [← HE.out] at hown4
        clear hown3 hgrow3 hown hbel hrp
        go_wp2
        exact ⟨⟨i + 1, by simp, by omega, hown4, hbel3⟩, by simp [intOf]; omega⟩
      | false =>
        rw [hp] at hrp
        rw [← HNI.out hp] at hown
        clear HYI HNI hp
        go_wp2_with (first
          | (go_at_call 45; refine hrp.mono ?_; rintro e w' ⟨rfl, hw'⟩; subst w'))
        exact ⟨⟨i + 1, by simp, by omega, hown, hbel⟩, by simp [intOf]; omega⟩
    · obtain rfl : n = i := by omega
      rw [HT.out] at hown
      have HE : Hid (Below w.heap.size w wr) := HB1.out.trans (hbel.mono HB1.out.size)
      clear hbel
      go_wp2
      go_ret
      exact ⟨_, rfl, owns_base hown HB1.out.size, HE.out⟩

end Go.Proofs.Ythobihlnjcphaaa
