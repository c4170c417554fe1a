/-
  What Diff answers, as a contract: those that came, those that went and those of both, each in a new row. Conditions: the slices read as texts; no text is longer than the greatest length.
-/
import Derived.Test.YtcgnhkpclpecgaaDoorPick
namespace Go.Proofs.YtcgnhkpclpecgaaDoor
open Go.ChangeShapes Go.WideShapes Go.ChangeAt Go.RowKit

theorem chk_len {l : List ByteArray} (h : chk l = 0) : l.length ≤ 16 := by
  unfold chk at h
  split at h
  · cases h
  · omega
theorem may_len {o n : List ByteArray} (h : may o n = true) : o.length ≤ 16 ∧ n.length ≤ 16 := by
  unfold may at h
  simp only [Bool.and_eq_true, decide_eq_true_eq] at h
  exact ⟨chk_len h.1, chk_len h.2⟩

set_option maxHeartbeats 1000000 in
set_option maxRecDepth 100000 in
theorem diff_any (a a' : Option Addr) (n n' ca cb : Nat) (l m : List ByteArray) (w : World) (h : StrsAt w a n ca l) (hl : ∀ s ∈ l, s.size ≤ maxLen) (h' : StrsAt w a' n' cb m) (hm : ∀ s ∈ m, s.size ≤ maxLen) :
    Calls Tryd.prog 15 #[.slice a n ca, .slice a' n' cb] w fun e w' => ∃ v1 v2 v3, e = .returned (.tuple #[v1, v2, v3]) ∧ w'.ownsRow w.heap.size 9 1 v1 (cameL l m).length (sc (cameL l m)) ∧ w'.ownsRow w.heap.size 9 1 v2 (wentL l m).length (sc (wentL l m)) ∧
      w'.ownsRow w.heap.size 9 1 v3 (bothL l m).length (sc (bothL l m)) ∧ Below w.heap.size w w' := by
  have c1 := mayBe_any a a' n n' ca cb l m w h hl h' hm
  have H : Hid (StrsAt w a n ca l) := h
  have H' : Hid (StrsAt w a' n' cb m) := h'
  have HL : Hid (∀ s ∈ l, s.size ≤ maxLen) := hl
  have HM : Hid (∀ s ∈ m, s.size ≤ maxLen) := hm
  clear h h' hl hm
  cases hr : may l m with
  | false =>
    have HE : Hid (cameL l m = [] ∧ wentL l m = [] ∧ bothL l m = []) := by unfold cameL wentL bothL; rw [hr]; exact ⟨rfl, rfl, rfl⟩
    rw [hr] at c1
    clear hr
    go_enter Tryd.func15, Tryd.ntmps15
    go_wp2_with (go_at_call 21; refine c1.mono ?_; rintro e w2 ⟨rfl, hb2⟩)
    go_ret3
    refine ⟨_, _, _, rfl, ?_, ?_, ?_, hb2⟩
    · rw [HE.out.1]; exact World.ownsRow_nil _ _ _ _
    · rw [HE.out.2.1]; exact World.ownsRow_nil _ _ _ _
    · rw [HE.out.2.2]; exact World.ownsRow_nil _ _ _ _
  | true =>
    have HE : Hid (cameL l m = pickL m l false ∧ wentL l m = pickL l m false ∧ bothL l m = pickL l m true) := by unfold cameL wentL bothL; rw [hr]; exact ⟨rfl, rfl, rfl⟩
    have HN : Hid (n ≤ 20 ∧ n' ≤ 20) := by have := may_len hr; have := H.out.hlen; have := H'.out.hlen; exact ⟨by omega, by omega⟩
    rw [hr] at c1
    clear hr
    go_enter Tryd.func15, Tryd.ntmps15
    go_wp2_with fail
    refine c1.mono ?_
    rintro e w2 ⟨rfl, hb2⟩
    go_wp2_with fail
    refine (members_any a n ca l _ (H.out.below (Nat.le_refl _) hb2) HN.out.1 HL.out).mono ?_
    rintro e w3 ⟨p, rfl, hp, hb3⟩
    have hb3' := hb2.trans (hb3.mono hb2.size)
    go_wp2_with fail
    refine (members_any a' n' cb m _ (H'.out.below (Nat.le_refl _) hb3') HN.out.2 HM.out).mono ?_
    rintro e w4 ⟨p', rfl, hp', hb4⟩
    have hb4' := hb3'.trans (hb4.mono hb3'.size)
    have hp4 := hp.below (Nat.le_refl _) hb4
    clear hb3 hb4 hb3' hp c1 hb2
    go_wp2_with fail
    refine (pick_any a' n' cb m l p false _ (H'.out.below (Nat.le_refl _) hb4') HN.out.2 HM.out hp4).mono ?_
    rintro e w5 ⟨v1, rfl, o1, hb5⟩
    have hb5' := hb4'.trans (hb5.mono hb4'.size)
    have hp5 := hp'.below (Nat.le_refl _) hb5
    clear hp4 hp'
    go_wp2_with fail
    refine (pick_any a n ca l m p' false _ (H.out.below (Nat.le_refl _) hb5') HN.out.1 HL.out hp5).mono ?_
    rintro e w6 ⟨v2, rfl, o2, hb6⟩
    have hb6' := hb5'.trans (hb6.mono hb5'.size)
    have hp6 := hp5.below (Nat.le_refl _) hb6
    have o1' := owns_below o1 (Nat.le_refl _) hb6
    clear hp5 o1
    go_wp2_with fail
    refine (pick_any a n ca l m p' true _ (H.out.below (Nat.le_refl _) hb6') HN.out.1 HL.out hp6).mono ?_
    rintro e w7 ⟨v3, rfl, o3, hb7⟩
    have hb7' := hb6'.trans (hb7.mono hb6'.size)
    have o1' := owns_below o1' (Nat.le_refl _) hb7
    have o2' := owns_below o2 (Nat.le_refl _) hb7
    clear hp6 o2
    go_wp2
    go_ret3
    refine ⟨_, _, _, rfl, ?_, ?_, ?_, hb7'⟩
    · rw [HE.out.1]; exact owns_base o1' hb4'.size
    · rw [HE.out.2.1]; exact owns_base o2' hb5'.size
    · rw [HE.out.2.2]; exact owns_base o3 hb6'.size

end Go.Proofs.YtcgnhkpclpecgaaDoor
