/-
  Those names of a list of which the other list's closure tells what is wanted, as a new row: pick. Conditions: the slices read as texts, at most 20; no text is longer than the greatest length.
-/
import Derived.Test.YtcgnhkpclpecgaaDoorMap
namespace Go.Proofs.YtcgnhkpclpecgaaDoor
open Go.ChangeShapes Go.WideShapes Go.ChangeAt Go.RowKit

theorem pickL_yes {l m : List ByteArray} {x : ByteArray} {b : Bool} (h : (hasB m x == b) = true) : pickL (l ++ [x]) m b = pickL l m b ++ [x] := by
  unfold pickL
  rw [List.filter_append]
  simp [h]
theorem pickL_no {l m : List ByteArray} {x : ByteArray} {b : Bool} (h : (hasB m x == b) = false) : pickL (l ++ [x]) m b = pickL l m b := by
  unfold pickL
  rw [List.filter_append]
  simp [h]
theorem pickL_len (l m : List ByteArray) (b : Bool) : (pickL l m b).length ≤ l.length := List.length_filter_le _ _
theorem pickL_sub {l m : List ByteArray} {b : Bool} : ∀ x ∈ pickL l m b, x ∈ l := fun _ hx => (List.mem_filter.1 hx).1

set_option maxHeartbeats 1000000 in
set_option maxRecDepth 100000 in
theorem pick_any (a : Option Addr) (len cap : Nat) (ss L : List ByteArray) (p : Nat) (b : Bool) (w : World) (h : StrsAt w a len cap ss) (h20 : len ≤ 20) (hsz : ∀ s ∈ ss, s.size ≤ maxLen) (hp : CloAt w p L) :
    Calls Tryd.prog 23 #[.slice a len cap, fn p, .bool b] w fun e w' => ∃ v, e = .returned v ∧ w'.ownsRow w.heap.size 9 1 v (pickL ss L b).length (sc (pickL ss L b)) ∧ Below w.heap.size w w' := by
  have hcap := h.hcap
  have hle := h.hle
  unfold maxLen at hcap
  obtain ⟨i0, hi, hz0, hz1, hz2⟩ := info_parts info9
  have H : Hid (StrsAt w a len cap ss) := h
  have HL : Hid (ss.length = len) := h.hlen
  have HS : Hid (∀ s ∈ ss, s.size ≤ maxLen) := hsz
  have HP : Hid (CloAt w p L) := hp
  clear h hsz hp
  unfold fn
  go_enter Tryd.func23, Tryd.ntmps23
  go_wp2
  go_loopw [7, 12] (fun v i wr => ∃ (k : Nat) (l : List ByteArray), k ≤ len ∧ i = .int .i64 k ∧ l.length ≤ k ∧ Hid (pickL (ss.take k) L b = l) ∧ wr.ownsRow w.heap.size 9 1 v l.length (sc l) ∧ Below w.heap.size w wr)
    (fun _ i _ => len - (intOf i).toNat)
  case atStart => exact ⟨0, [], Nat.zero_le _, rfl, Nat.le_refl _, Hid.mk' rfl, World.ownsRow_nil _ _ _ _, Below.refl _ _⟩
  case round =>
    obtain ⟨k, l, hk, rfl, hlk, hcut, hown, hbel⟩ := hrel
    by_cases hlt : k < len
    · obtain ⟨bb, off, rfl, hbb, hc0⟩ := H.out.at_ k hlt
      have hc := (hbel.cell (p := ⟨bb, off + k, none⟩) hbb).trans hc0
      have hkl : k < ss.length := by have := HL.out; omega
      have hkn : (k : Int) < (len : Int) := by omega
      have hmem := mem1_any p L (ss.getD k ⟨#[]⟩) wr (HP.out.below (Nat.le_refl _) hbel) (HS.out _ (getD_mem hkl))
      have HY : Hid ((hasB L (ss.getD k ⟨#[]⟩) == b) = true → pickL (ss.take (k + 1)) L b = l ++ [ss.getD k ⟨#[]⟩]) := fun e => by rw [take_snoc hkl, pickL_yes e, hcut.out]
      have HN : Hid ((hasB L (ss.getD k ⟨#[]⟩) == b) = false → pickL (ss.take (k + 1)) L b = l) := fun e => by rw [take_snoc hkl, pickL_no e, hcut.out]
      generalize ss.getD k ⟨#[]⟩ = f at *
      generalize hasB L f = r at *
      clear hc0 hcut
      cases he : (r == b) with
      | true =>
        have SN := Hid.mk' (HY.out he)
        have he2 : r = b := by simpa using he
        subst he2
        clear HY HN he
        go_wp2_with (first
          | (go_at_call 29; refine hmem.mono ?_; rintro e w' ⟨rfl, hw⟩; have hw := hw.symm; subst hw)
          | (at_builtin; refine wpList_append_own _ rfl _ _ 22 rfl w.heap.size 9 i0 (.string ⟨#[]⟩) 1 16 Tryd.underlying22 hi hz0 hz1 hz2 rfl (by decide) _ l.length _ rfl (hown.alloc _) ⟨wr.heap.size, 0, none⟩ 1 1 [.string f] rfl rfl (news_one _ _ _) (str_one _) (by unfold maxLen; omega) (by omega) (by have := hbel.size; simp; omega) ?_))
        intro v3 w3 hown3 hgrow3 _
        have hbel3 : Below w.heap.size w w3 := (hbel.alloc hbel.size _).grown hgrow3 (by have := hbel.size; simp; omega) (fun j hj => (hown.lt j hj).1)
        have hown4 : w3.ownsRow w.heap.size 9 1 v3 (l ++ [f]).length (sc (l ++ [f])) := by rw [sc_snoc, List.length_append]; exact hown3
        clear hown3 hgrow3 hown hbel hmem
        go_wp2
        go_roundw
        case rel => exact ⟨k + 1, l ++ [f], by omega, by go_num, by simp; omega, SN, hown4, hbel3⟩
        case measure => simp [intOf]; omega
      | false =>
        have SN := Hid.mk' (HN.out he)
        have he2 : ¬ r = b := by simpa using he
        clear HY HN
        go_wp2_with (first
          | (go_at_call 29; refine hmem.mono ?_; rintro e w' ⟨rfl, hw⟩; have hw := hw.symm; subst hw))
        go_roundw
        case rel => exact ⟨k + 1, l, by omega, by go_num, by omega, SN, hown, hbel⟩
        case measure => simp [intOf]; omega
    · obtain rfl : k = len := by omega
      have HE : Hid (pickL ss L b = l) := by
        have := hcut.out
        rwa [List.take_of_length_le (by have := HL.out; omega)] at this
      clear hcut
      go_wp2
      go_ret
      exact ⟨_, rfl, by rw [HE.out]; exact hown, hbel⟩

end Go.Proofs.YtcgnhkpclpecgaaDoor
