/-
  Hosts that leave one behind the other, as plain mathematics: how many are left, and when none more may. No conditions.
-/
import Derived.Test.YtkppicocjipakaaPure
namespace Go.Proofs.Ytkppicocjipakaa

/-- Of zs, n have left, and L is what there is now. -/
structure Kp (zs L : List Int) (n : Nat) (e g : Int) : Prop where
  len : L.length = zs.length
  cnt : act L + n = act zs
  dn : down (act L) e g = down (act zs) e g
/-- All of the places below i have been asked. -/
structure Sp (zs L : List Int) (i n : Nat) (e g : Int) : Prop where
  kp : Kp zs L n e g
  done : act (L.take i) = 0 ∨ down (act L) e g = act L

theorem Kp.start (zs : List Int) (e g : Int) : Kp zs zs 0 e g := ⟨rfl, rfl, rfl⟩
theorem Kp.le {zs L : List Int} {n : Nat} {e g : Int} (h : Kp zs L n e g) : (n : Int) ≤ (act zs : Int) - (down (act zs) e g : Nat) := by
  have h1 := down_le (act L) e g
  have h2 := h.cnt
  have h3 := h.dn
  omega
theorem may_le {L : List Int} {k : Nat} {e g : Int} (hk : k < L.length) (h0 : L.getD k 0 = 0) (hm : mayB L (k : Int) e g = true) : g ≤ capI ((act L : Int) - 1) e := by
  rw [mayB_act ⟨by omega, by omega⟩ (by simpa using h0)] at hm
  simpa using hm
theorem not_may {L : List Int} {k : Nat} {e g : Int} (hk : k < L.length) (hm : mayB L (k : Int) e g = false) : L.getD k 0 = 0 ∧ ¬ g ≤ capI ((act L : Int) - 1) e := by
  by_cases h0 : L.getD k 0 = 0
  · rw [mayB_act ⟨by omega, by omega⟩ (by simpa using h0)] at hm
    exact ⟨h0, by simpa using hm⟩
  · rw [mayB_other ⟨by omega, by omega⟩ (by simpa using h0)] at hm
    cases hm
theorem act_left {L : List Int} {k : Nat} (hk : k < L.length) (h0 : L.getD k 0 = 0) : act L = act (L.set k 1) + 1 := by
  have := act_set L k hk
  rw [if_pos h0] at this
  omega
theorem act_same {L : List Int} {k : Nat} (hk : k < L.length) (h0 : ¬ L.getD k 0 = 0) : act (L.set k 1) = act L := by
  have := act_set L k hk
  rw [if_neg h0] at this
  omega
theorem Kp.leave {zs L : List Int} {n k : Nat} {e g : Int} (h : Kp zs L n e g) (hk : k < L.length) (h0 : L.getD k 0 = 0) (hm : mayB L (k : Int) e g = true) : Kp zs (L.set k 1) (n + 1) e g := by
  have hg := may_le hk h0 hm
  have ha := act_left hk h0
  have h1 := h.cnt
  have h2 := h.dn
  refine ⟨by rw [List.length_set]; exact h.len, by omega, ?_⟩
  rw [← h2, ha]
  rw [ha] at hg
  exact (down_step (by simpa using hg)).symm
theorem Kp.other {zs L : List Int} {n k : Nat} {e g : Int} (h : Kp zs L n e g) (hk : k < L.length) (h0 : ¬ L.getD k 0 = 0) : Kp zs (L.set k 1) n e g := by
  have ha := act_same hk h0
  exact ⟨by rw [List.length_set]; exact h.len, by rw [ha]; exact h.cnt, by rw [ha]; exact h.dn⟩

theorem take_set (L : List Int) (k : Nat) (hk : k < L.length) : (L.set k 1).take (k + 1) = L.take k ++ [1] := by
  rw [take_snoc _ k (by simpa using hk), List.take_set_of_le (Nat.le_refl _)]
  simp [List.getD, hk]

theorem Sp.start (zs : List Int) (e g : Int) : Sp zs zs 0 0 e g := ⟨Kp.start zs e g, .inl rfl⟩
theorem Sp.leave {zs L : List Int} {n k : Nat} {e g : Int} (h : Sp zs L k n e g) (hk : k < L.length) (h0 : L.getD k 0 = 0) (hm : mayB L (k : Int) e g = true) : Sp zs (L.set k 1) (k + 1) (n + 1) e g := by
  refine ⟨h.kp.leave hk h0 hm, ?_⟩
  rcases h.done with hd | hd
  · left
    rw [take_set L k hk, act_no _ (by decide)]
    exact hd
  · exfalso
    have hg := may_le hk h0 hm
    have ha := act_left hk h0
    rw [ha] at hg hd
    rw [down_step (by simpa using hg)] at hd
    have := down_le (act (L.set k 1)) e g
    omega
theorem Sp.stay {zs L : List Int} {n k : Nat} {e g : Int} (h : Sp zs L k n e g) (hk : k < L.length) (hn : ¬ L.getD k 0 = 0 ∨ mayB L (k : Int) e g = false) : Sp zs L (k + 1) n e g := by
  refine ⟨h.kp, ?_⟩
  rcases h.done with hd | hd
  · rcases hn with h0 | hm
    · left
      rw [take_snoc L k hk, act_no _ h0]
      exact hd
    · right
      obtain ⟨h0, hg⟩ := not_may hk hm
      have ha := act_left hk h0
      rw [ha] at hg ⊢
      exact down_stay (by simpa using hg)
  · exact .inr hd
theorem Sp.end_ {zs L : List Int} {n len : Nat} {e g : Int} (h : Sp zs L len n e g) (hl : zs.length = len) : (n : Int) = (act zs : Int) - (down (act zs) e g : Nat) := by
  have h1 := h.kp.cnt
  have h2 := h.kp.dn
  have h3 : down (act L) e g = act L := by
    rcases h.done with hd | hd
    · rw [List.take_of_length_le (by rw [h.kp.len, hl]; exact Nat.le_refl _)] at hd
      rw [hd]
      rfl
    · exact hd
  omega

end Go.Proofs.Ytkppicocjipakaa
