/-
  What the document's of and Diff answer, each as a contract: new rows. Conditions: the slices read as texts; no text is longer than the greatest length; of 'of', at most 20 texts.
-/
import Derived.Test.YtcgnhkpclpecgaaDiff
namespace Go.Proofs.Ytcgnhkpclpecgaa
open Go.ChangeShapes Go.WideShapes Go.ChangeAt Go.RowKit

set_option maxHeartbeats 1000000 in
set_option maxRecDepth 100000 in
theorem of_any (a a' : Option Addr) (len len' cap cap' : Nat) (ss L : List ByteArray) (b : Bool) (w : World) (h : StrsAt w a len cap ss) (h20 : len ≤ 20) (hp : StrsAt w a' len' cap' L) :
    Calls Try.prog 21 #[.slice a len cap, .slice a' len' cap', .bool b] w fun e w' => ∃ v, e = .returned v ∧ w'.ownsRow w.heap.size 9 1 v (pickL ss L b).length (sc (pickL ss L b)) ∧ Below w.heap.size w w' := by
  have hcap := h.hcap
  have hle := h.hle
  unfold maxLen at hcap
  obtain ⟨i0, hi, hz0, hz1, hz2⟩ := info_parts info9
  have H : Hid (StrsAt w a len cap ss) := h
  have HL : Hid (ss.length = len) := h.hlen
  have HP : Hid (StrsAt w a' len' cap' L) := hp
  clear h hp
  go_enter Try.func21, Try.ntmps21
  go_wp2
  go_loopw [7, 8] (fun v i wr => ∃ (k : Nat) (l : List ByteArray), k ≤ len ∧ i = .int .i64 k ∧ l.length ≤ k ∧ Hid (pickL (ss.take k) L b = l) ∧ wr.ownsRow w.heap.size 9 1 v l.length (sc l) ∧ Below w.heap.size w wr)
    (fun _ i _ => len - (intOf i).toNat)
  case atStart => exact ⟨0, [], Nat.zero_le _, rfl, Nat.le_refl _, Hid.mk' rfl, World.ownsRow_nil _ _ _ _, Below.refl _ _⟩
  case round =>
    obtain ⟨k, l, hk, rfl, hlk, hcut, hown, hbel⟩ := hrel
    by_cases hlt : k < len
    · obtain ⟨bb, off, rfl, hbb, hc0⟩ := H.out.at_ k hlt
      have hc := (hbel.cell (p := ⟨bb, off + k, none⟩) hbb).trans hc0
      have hkl : k < ss.length := by have := HL.out; omega
      have hkn : (k : Int) < (len : Int) := by omega
      have hmem := has_any a' len' cap' L (ss.getD k ⟨#[]⟩) wr (HP.out.below (Nat.le_refl _) hbel)
      have HY : Hid ((hasB L (ss.getD k ⟨#[]⟩) == b) = true → pickL (ss.take (k + 1)) L b = l ++ [ss.getD k ⟨#[]⟩]) := fun e => by rw [take_snoc hkl, pickL_yes e, hcut.out]
      have HN : Hid ((hasB L (ss.getD k ⟨#[]⟩) == b) = false → pickL (ss.take (k + 1)) L b = l) := fun e => by rw [take_snoc hkl, pickL_no e, hcut.out]
      generalize ss.getD k ⟨#[]⟩ = f at *
      generalize hasB L f = r at *
      clear hc0 hcut
      cases he : (r == b) with
      | true =>
        have SN := Hid.mk' (HY.out he)
        have he2 : r = b := by simpa using he
        subst he2
        clear HY HN he
        go_wp2_with (first
          | (go_at_call 16; refine hmem.mono ?_; rintro e w' ⟨rfl, hw⟩; have hw := hw.symm; subst hw)
          | (at_builtin; refine wpList_append_own _ rfl _ _ 22 rfl w.heap.size 9 i0 (.string ⟨#[]⟩) 1 16 Try.underlying22 hi hz0 hz1 hz2 rfl (by decide) _ l.length _ rfl (hown.alloc _) ⟨wr.heap.size, 0, none⟩ 1 1 [.string f] rfl rfl (news_one _ _ _) (str_one _) (by unfold maxLen; omega) (by omega) (by have := hbel.size; simp; omega) ?_))
        intro v3 w3 hown3 hgrow3 _
        have hbel3 : Below w.heap.size w w3 := (hbel.alloc hbel.size _).grown hgrow3 (by have := hbel.size; simp; omega) (fun j hj => (hown.lt j hj).1)
        have hown4 : w3.ownsRow w.heap.size 9 1 v3 (l ++ [f]).length (sc (l ++ [f])) := by rw [sc_snoc, List.length_append]; exact hown3
        clear hown3 hgrow3 hown hbel hmem
        go_wp2
        go_roundw
        case rel => exact ⟨k + 1, l ++ [f], by omega, by go_num, by simp; omega, SN, hown4, hbel3⟩
        case measure => simp [intOf]; omega
      | false =>
        have SN := Hid.mk' (HN.out he)
        have he2 : ¬ r = b := by simpa using he
        clear HY HN
        go_wp2_with (first
          | (go_at_call 16; refine hmem.mono ?_; rintro e w' ⟨rfl, hw⟩; have hw := hw.symm; subst hw))
        go_roundw
        case rel => exact ⟨k + 1, l, by omega, by go_num, by omega, SN, hown, hbel⟩
        case measure => simp [intOf]; omega
    · obtain rfl : k = len := by omega
      have HE : Hid (pickL ss L b = l) := by
        have := hcut.out
        rwa [List.take_of_length_le (by have := HL.out; omega)] at this
      clear hcut
      go_wp2
      go_ret
      exact ⟨_, rfl, by rw [HE.out]; exact hown, hbel⟩

theorem chk_ne {x : Int} (h : ¬ x = 0) : (x != 0) = true ∧ (x == 0) = false := ⟨by simpa using h, by simpa using h⟩

set_option maxHeartbeats 1000000 in
set_option maxRecDepth 100000 in
theorem rdiff_any (a a' : Option Addr) (n n' ca cb : Nat) (l m : List ByteArray) (w : World) (h : StrsAt w a n ca l) (hl : ∀ s ∈ l, s.size ≤ maxLen) (h' : StrsAt w a' n' cb m) (hm : ∀ s ∈ m, s.size ≤ maxLen) :
    Calls Try.prog 9 #[.slice a n ca, .slice a' n' cb] w fun e w' => ∃ v1 v2 v3, e = .returned (.tuple #[v1, v2, v3]) ∧ w'.ownsRow w.heap.size 9 1 v1 (cameL l m).length (sc (cameL l m)) ∧ w'.ownsRow w.heap.size 9 1 v2 (wentL l m).length (sc (wentL l m)) ∧
      w'.ownsRow w.heap.size 9 1 v3 (bothL l m).length (sc (bothL l m)) ∧ Below w.heap.size w w' := by
  have c1 := rcheck_any a n ca l w h hl
  have H : Hid (StrsAt w a n ca l) := h
  have H' : Hid (StrsAt w a' n' cb m) := h'
  have HM : Hid (∀ s ∈ m, s.size ≤ maxLen) := hm
  have HF : Hid (may l m = false → cameL l m = [] ∧ wentL l m = [] ∧ bothL l m = []) := fun hr => by unfold cameL wentL bothL; rw [hr]; exact ⟨rfl, rfl, rfl⟩
  have HE : Hid (may l m = true → cameL l m = pickL m l false ∧ wentL l m = pickL l m false ∧ bothL l m = pickL l m true) := fun hr => by unfold cameL wentL bothL; rw [hr]; exact ⟨rfl, rfl, rfl⟩
  clear h h' hl hm
  go_enter Try.func9, Try.ntmps9
  go_wp2_with fail
  refine c1.mono ?_
  rintro e w2 ⟨rfl, hb2⟩
  by_cases h1 : chk l = 0
  · rw [h1]
    have c2 := rcheck_any a' n' cb m w2 (H'.out.below (Nat.le_refl _) hb2) HM.out
    clear c1
    by_cases h2 : chk m = 0
    · have HH := Hid.mk' (HE.out (may_both h1 h2))
      have HN : Hid (n ≤ 20 ∧ n' ≤ 20) := by have := may_len (may_both h1 h2); have := H.out.hlen; have := H'.out.hlen; exact ⟨by omega, by omega⟩
      rw [h2] at c2
      clear HF HE h1 h2
      go_wp2_with fail
      refine c2.mono ?_
      rintro e w3 ⟨rfl, hb3⟩
      have hb3' := hb2.trans (hb3.mono hb2.size)
      clear hb3 hb2 c2
      go_wp2_with fail
      refine (of_any a' a n' n cb ca m l false _ (H'.out.below (Nat.le_refl _) hb3') HN.out.2 (H.out.below (Nat.le_refl _) hb3')).mono ?_
      rintro e w5 ⟨v1, rfl, o1, hb5⟩
      have hb5' := hb3'.trans (hb5.mono hb3'.size)
      go_wp2_with fail
      refine (of_any a a' n n' ca cb l m false _ (H.out.below (Nat.le_refl _) hb5') HN.out.1 (H'.out.below (Nat.le_refl _) hb5')).mono ?_
      rintro e w6 ⟨v2, rfl, o2, hb6⟩
      have hb6' := hb5'.trans (hb6.mono hb5'.size)
      have o1' := owns_below o1 (Nat.le_refl _) hb6
      clear o1
      go_wp2_with fail
      refine (of_any a a' n n' ca cb l m true _ (H.out.below (Nat.le_refl _) hb6') HN.out.1 (H'.out.below (Nat.le_refl _) hb6')).mono ?_
      rintro e w7 ⟨v3, rfl, o3, hb7⟩
      have hb7' := hb6'.trans (hb7.mono hb6'.size)
      have o1' := owns_below o1' (Nat.le_refl _) hb7
      have o2' := owns_below o2 (Nat.le_refl _) hb7
      clear o2
      go_wp2
      go_ret3
      refine ⟨_, _, _, rfl, ?_, ?_, ?_, hb7'⟩
      · rw [HH.out.1]; exact owns_base o1' hb3'.size
      · rw [HH.out.2.1]; exact owns_base o2' hb5'.size
      · rw [HH.out.2.2]; exact owns_base o3 hb6'.size
    · have HH := Hid.mk' (HF.out (may_ne2 h2))
      obtain ⟨h3, h4⟩ := chk_ne h2
      clear HF HE h1
      generalize chk m = y at *
      go_wp2_with fail
      refine c2.mono ?_
      rintro e w3 ⟨rfl, hb3⟩
      have hb3' := hb2.trans (hb3.mono hb2.size)
      clear c2
      go_wp2
      go_ret3
      refine ⟨_, _, _, rfl, ?_, ?_, ?_, hb3'⟩
      · rw [HH.out.1]; exact World.ownsRow_nil _ _ _ _
      · rw [HH.out.2.1]; exact World.ownsRow_nil _ _ _ _
      · rw [HH.out.2.2]; exact World.ownsRow_nil _ _ _ _
  · have HH := Hid.mk' (HF.out (may_ne1 h1))
    obtain ⟨h3, h4⟩ := chk_ne h1
    clear HF HE c1
    generalize chk l = y at *
    go_wp2
    go_ret3
    refine ⟨_, _, _, rfl, ?_, ?_, ?_, hb2⟩
    · rw [HH.out.1]; exact World.ownsRow_nil _ _ _ _
    · rw [HH.out.2.1]; exact World.ownsRow_nil _ _ _ _
    · rw [HH.out.2.2]; exact World.ownsRow_nil _ _ _ _

end Go.Proofs.Ytcgnhkpclpecgaa
