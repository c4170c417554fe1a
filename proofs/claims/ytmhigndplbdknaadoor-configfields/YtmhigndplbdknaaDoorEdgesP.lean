/-
  A small config, one number of which is turned, may be just while that is within its ends: of the plain functions. No program, no conditions.
-/
import Derived.Test.YtmhigndplbdknaaDoorSmallC
namespace Go.Proofs.YtmhigndplbdknaaDoor
open Go

theorem gset (l : List Int) (n : Nat) (v : Int) (i : Nat) (hn : n < l.length) : (l.set n v).getD i 0 = if n = i then v else l.getD i 0 := by
  by_cases h : n = i
  · subst h
    simp [List.getD, hn]
  · simp [List.getD, h]
/-- The small config that is turned. -/
def base0 (m : List Int) : List Int := (m.set 7 0).set 9 0
theorem base0_len {m : List Int} (hm : m.length = 15) : (base0 m).length = 15 := by simpa [base0] using hm
theorem base0_get {m : List Int} (hm : m.length = 15) (i : Nat) : (base0 m).getD i 0 = if 9 = i then 0 else if 7 = i then 0 else m.getD i 0 := by
  unfold base0
  rw [gset _ _ _ _ (by simp; omega), gset _ _ _ _ (by omega)]
def smallM (m : List Int) : Prop := ∀ j, j < 15 → j ≠ 9 → leasts.getD j 0 ≤ m.getD j 0 ∧ m.getD j 0 ≤ mosts.getD j 0

theorem edge_get {m : List Int} (hm : m.length = 15) {n : Nat} (hn : n < 15) (v : Int) (i : Nat) : ((base0 m).set n v).getD i 0 = if n = i then v else if 9 = i then 0 else if 7 = i then 0 else m.getD i 0 := by
  rw [gset _ _ _ _ (by rw [base0_len hm]; exact hn), base0_get hm]

theorem edge_other {m : List Int} (hm : m.length = 15) (hb : smallM m) {n : Nat} (hn : n < 15) (v : Int) (j : Nat) (hj : j < 15) (hjn : j ≠ n) (hv : j < n ∨ loOf n ≤ v) : bad ((base0 m).set n v) j = false := by
  have g := edge_get hm hn v
  have b1 := hb 1 (by omega) (by omega)
  have b6 := hb 6 (by omega) (by omega)
  have gj := g j
  rw [if_neg (Ne.symm hjn)] at gj
  have g6 := g 6
  have g1 := g 1
  simp only [if_neg (show ¬ (9 : Nat) = 6 by decide), if_neg (show ¬ (7 : Nat) = 6 by decide)] at g6
  simp only [if_neg (show ¬ (9 : Nat) = 1 by decide), if_neg (show ¬ (7 : Nat) = 1 by decide)] at g1
  have c6 : 0 ≤ ((base0 m).set n v).getD 6 0 ∨ j ≠ 7 := by
    by_cases h : n = 6
    · subst h
      by_cases h7 : j = 7
      · left
        rw [g6, if_pos rfl]
        have : (1 : Int) ≤ v := by
          rcases hv with h | h
          · omega
          · exact h
        omega
      · exact .inr h7
    · left
      rw [g6, if_neg h]
      have : (6 : Int) ≤ m.getD 6 0 := b6.1
      omega
  have c1 : 0 ≤ ((base0 m).set n v).getD 1 0 ∨ j ≠ 9 := by
    by_cases h : n = 1
    · subst h
      by_cases h7 : j = 9
      · left
        rw [g1, if_pos rfl]
        have : (1 : Int) ≤ v := by
          rcases hv with h | h
          · omega
          · exact h
        omega
      · exact .inr h7
    · left
      rw [g1, if_neg h]
      have : (1 : Int) ≤ m.getD 1 0 := b1.1
      omega
  have key : loOf j ≤ ((base0 m).set n v).getD j 0 ∧ ((base0 m).set n v).getD j 0 ≤ hiOf ((base0 m).set n v) j := by
    unfold hiOf
    generalize ((base0 m).set n v).getD 6 0 = x6 at *
    generalize ((base0 m).set n v).getD 1 0 = x1 at *
    rw [gj]
    by_cases h9 : j = 9
    · subst h9
      refine ⟨by simp [loOf, los], ?_⟩
      rcases c1 with c1 | c1
      · exact c1
      · exact absurd rfl c1
    · by_cases h7 : j = 7
      · subst h7
        refine ⟨by simp [loOf, los], ?_⟩
        rcases c6 with c6 | c6
        · exact c6
        · exact absurd rfl c6
      · rw [if_neg (Ne.symm h9), if_neg (Ne.symm h7)]
        have bj := hb j hj h9
        have l1 : loOf j ≤ leasts.getD j 0 := by
          match j, hj with
          | 0, _ | 1, _ | 2, _ | 3, _ | 4, _ | 5, _ | 6, _ | 7, _ | 8, _ | 9, _ | 10, _ | 11, _ | 12, _ | 13, _ | 14, _ => decide
        have l2 : mosts.getD j 0 ≤ (his x6 x1).getD j 0 := by
          match j, hj, h7, h9 with
          | 0, _, _, _ | 1, _, _, _ | 2, _, _, _ | 3, _, _, _ | 4, _, _, _ | 5, _, _, _ | 6, _, _, _ | 8, _, _, _ | 10, _, _, _ | 11, _, _, _ | 12, _, _, _ | 13, _, _, _ | 14, _, _, _ => simp [mosts, his]
          | 7, _, h, _ => exact absurd rfl h
          | 9, _, _, h => exact absurd rfl h
        omega
  unfold bad
  rw [decide_eq_false (by omega), decide_eq_false (by omega)]
  rfl
theorem hi_same {m : List Int} (hm : m.length = 15) {n : Nat} (hn : n < 15) (v : Int) : hiOf ((base0 m).set n v) n = hiOf (base0 m) n := by
  have g := edge_get hm hn v
  have g0 := base0_get hm
  unfold hiOf
  by_cases h6 : n = 6
  · subst h6
    simp [his]
  · by_cases h1 : n = 1
    · subst h1
      simp [his]
    · rw [g 6, g 1, g0 6, g0 1, if_neg h6, if_neg h1]
theorem edge_in {m : List Int} (hm : m.length = 15) (hb : smallM m) {n : Nat} (hn : n < 15) {v : Int} (h1 : loOf n ≤ v) (h2 : v ≤ hiOf (base0 m) n) : ckN ((base0 m).set n v) = -1 ∧ ckE ((base0 m).set n v) = 0 := by
  refine ck_none fun j hj => ?_
  by_cases hjn : j = n
  · subst hjn
    have e := edge_get hm hn v j
    rw [if_pos rfl] at e
    refine bad_no (by rw [e]; omega) (by rw [hi_same hm hn, e]; omega)
  · exact edge_other hm hb hn v j hj hjn (.inr h1)
theorem edge_out {m : List Int} (hm : m.length = 15) (hb : smallM m) {n : Nat} (hn : n < 15) {v : Int} (h : ¬ (loOf n ≤ v ∧ v ≤ hiOf (base0 m) n)) : ckN ((base0 m).set n v) = n ∧ ckE ((base0 m).set n v) = 10 := by
  refine ck_some hn (fun j hj => edge_other hm hb hn v j (by omega) (by omega) (.inl hj)) ?_
  have e := edge_get hm hn v n
  rw [if_pos rfl] at e
  by_cases h1 : loOf n ≤ v
  · refine bad_hi ?_
    rw [hi_same hm hn, e]
    omega
  · refine bad_lo ?_
    rw [e]
    omega

end Go.Proofs.YtmhigndplbdknaaDoor
