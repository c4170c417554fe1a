/-
  How much is left, as plain mathematics: how many hosts are Active, the capacity of so many, who may leave, how many may leave one behind the other, who is first. No conditions.
-/
import Derived.Test.YtkppicocjipakaaRows
namespace Go.Proofs.Ytkppicocjipakaa

/-- How many are Active. -/
def act : List Int → Nat
  | [] => 0
  | x :: l => (if x = 0 then 1 else 0) + act l
/-- The capacity of so many Active hosts. -/
def capI (h e : Int) : Int := if h ≤ 0 ∨ e ≤ 0 then 0 else if 9223372036854775807 / e < h then 9223372036854775807 else h * e
/-- Is there such a place? -/
def has (n : Nat) (i : Int) : Bool := decide (0 ≤ i) && decide (i < (n : Int))
/-- May it leave? -/
def mayB (zs : List Int) (i e g : Int) : Bool := has zs.length i && (!(zs.getD i.toNat 0 == 0) || decide (g ≤ capI ((act zs : Int) - 1) e))
/-- One of the place i that is Active. -/
def one (zs : List Int) (i : Int) : Nat := if (has zs.length i && (zs.getD i.toNat 0 == 0)) = true then 1 else 0
/-- How many are left, when all that may have left. -/
def down : Nat → Int → Int → Nat
  | 0, _, _ => 0
  | n + 1, e, g => if g ≤ capI (n : Int) e then down n e g else n + 1
/-- The first that may leave. -/
def firstI (zs : List Int) (e g : Int) : List Int → Int × Bool
  | [] => (0, false)
  | x :: l => if mayB zs x e g = true then (x, true) else firstI zs e g l
/-- A list without the place i. -/
def rm : List Int → Int → List Int
  | [], _ => []
  | x :: l, i => if i = 0 then rm l (i - 1) else x :: rm l (i - 1)
def pos (e : Int) : Int := if 0 < e then e else 0

theorem take_snoc (l : List Int) (k : Nat) (h : k < l.length) : l.take (k + 1) = l.take k ++ [l.getD k 0] := by
  rw [List.take_add_one, List.getElem?_eq_getElem h]
  simp [List.getD, List.getElem?_eq_getElem h]
theorem act_append (l r : List Int) : act (l ++ r) = act l + act r := by
  induction l with
  | nil => simp [act]
  | cons x l ih => simp only [List.cons_append, act, ih]; omega
theorem act_le (l : List Int) : act l ≤ l.length := by
  induction l with
  | nil => simp [act]
  | cons x l ih => simp only [act, List.length_cons]; split <;> omega
theorem act_yes (l : List Int) {x : Int} (h : x = 0) : act (l ++ [x]) = act l + 1 := by rw [act_append]; simp [act, h]
theorem act_no (l : List Int) {x : Int} (h : ¬ x = 0) : act (l ++ [x]) = act l := by rw [act_append]; simp [act, h]
theorem act_set (l : List Int) (k : Nat) (hk : k < l.length) : act (l.set k 1) + (if l.getD k 0 = 0 then 1 else 0) = act l := by
  induction l generalizing k with
  | nil => simp at hk
  | cons x l ih =>
    cases k with
    | zero => simp only [List.set_cons_zero, act, List.getD_cons_zero]; rw [if_neg (by decide : ¬ (1 : Int) = 0)]; omega
    | succ k =>
      simp only [List.set_cons_succ, act, List.getD_cons_succ]
      have := ih k (by simpa using hk)
      omega

theorem capI_none {h e : Int} (hh : h ≤ 0 ∨ e ≤ 0) : capI h e = 0 := by unfold capI; rw [if_pos hh]
theorem capI_top {h e : Int} (h0 : ¬ h ≤ 0) (h1 : ¬ e ≤ 0) (h2 : 9223372036854775807 / e < h) : capI h e = 9223372036854775807 := by unfold capI; rw [if_neg (by omega), if_pos h2]
theorem capI_mul {h e : Int} (h0 : ¬ h ≤ 0) (h1 : ¬ e ≤ 0) (h2 : ¬ 9223372036854775807 / e < h) : capI h e = h * e := by unfold capI; rw [if_neg (by omega), if_neg h2]
theorem mul_in {h e : Int} (h0 : ¬ h ≤ 0) (h1 : ¬ e ≤ 0) (h2 : ¬ 9223372036854775807 / e < h) : 0 ≤ h * e ∧ h * e ≤ 9223372036854775807 := by
  refine ⟨Int.mul_nonneg (by omega) (by omega), ?_⟩
  have h3 : h ≤ 9223372036854775807 / e := by omega
  exact Int.le_trans (Int.mul_le_mul_of_nonneg_right h3 (by omega)) (Int.ediv_mul_le _ (by omega))
theorem capI_small {h e : Int} (h0 : 0 ≤ h) (hh : h ≤ 20) (he : e ≤ 1000) : capI h e = h * pos e := by
  unfold pos
  by_cases h1 : e ≤ 0
  · rw [capI_none (.inr h1), if_neg (by omega), Int.mul_zero]
  · rw [if_pos (by omega)]
    by_cases h2 : h ≤ 0
    · rw [capI_none (.inl h2)]
      obtain rfl : h = 0 := by omega
      simp
    · refine capI_mul h2 h1 ?_
      have : (20 : Int) ≤ 9223372036854775807 / e := (Int.le_ediv_iff_mul_le (by omega)).2 (by omega)
      omega
theorem capI_lo (h e : Int) : 0 ≤ capI h e := by
  unfold capI
  split
  · omega
  · split
    · omega
    · exact Int.mul_nonneg (by omega) (by omega)
theorem capI_neg {h e : Int} (hh : h ≤ 0) : capI h e = 0 := capI_none (.inl hh)

theorem has_iff {n : Nat} {i : Int} : has n i = true ↔ 0 ≤ i ∧ i < (n : Int) := by simp [has]
theorem has_false {n : Nat} {i : Int} (h : ¬ (0 ≤ i ∧ i < (n : Int))) : has n i = false := by
  cases hb : has n i with
  | false => rfl
  | true => exact absurd (has_iff.1 hb) h
theorem one_le (zs : List Int) (i : Int) : one zs i ≤ act zs := by
  unfold one
  split
  · rename_i h
    simp [has] at h
    obtain ⟨⟨h0, h1⟩, h2⟩ := h
    have hs := act_set zs i.toNat (by omega)
    have h3 : zs.getD i.toNat 0 = 0 := by simpa [List.getD] using h2
    rw [if_pos h3] at hs
    omega
  · omega

theorem down_le (n : Nat) (e g : Int) : down n e g ≤ n := by
  induction n with
  | zero => simp [down]
  | succ n ih => simp only [down]; split <;> omega
theorem down_step {n : Nat} {e g : Int} (h : g ≤ capI (n : Int) e) : down (n + 1) e g = down n e g := by simp [down, h]
theorem down_stay {n : Nat} {e g : Int} (h : ¬ g ≤ capI (n : Int) e) : down (n + 1) e g = n + 1 := by simp only [down]; rw [if_neg h]

theorem mayB_out {zs : List Int} {i e g : Int} (h : ¬ (0 ≤ i ∧ i < (zs.length : Int))) : mayB zs i e g = false := by unfold mayB; rw [has_false h]; rfl
theorem mayB_other {zs : List Int} {i e g : Int} (h : 0 ≤ i ∧ i < (zs.length : Int)) (hx : ¬ zs.getD i.toNat 0 = 0) : mayB zs i e g = true := by
  unfold mayB
  rw [has_iff.2 h]
  simp only [Bool.true_and, Bool.or_eq_true, Bool.not_eq_true', beq_eq_false_iff_ne, ne_eq]
  exact .inl hx
theorem mayB_act {zs : List Int} {i e g : Int} (h : 0 ≤ i ∧ i < (zs.length : Int)) (hx : zs.getD i.toNat 0 = 0) : mayB zs i e g = decide (g ≤ capI ((act zs : Int) - 1) e) := by
  unfold mayB
  rw [has_iff.2 h, hx]
  simp

theorem rm_out (l : List Int) {i : Int} (h : i < 0) : rm l i = l := by
  induction l generalizing i with
  | nil => rfl
  | cons x l ih => simp only [rm]; rw [if_neg (by omega), ih (by omega)]
theorem rm_snoc (l : List Int) (x i : Int) : rm (l ++ [x]) i = if (l.length : Int) = i then rm l i else rm l i ++ [x] := by
  induction l generalizing i with
  | nil => simp only [List.nil_append, rm, List.length_nil]; split <;> split <;> first | rfl | (exfalso; omega)
  | cons y l ih =>
    simp only [List.cons_append, rm, ih, List.length_cons]
    by_cases h0 : i = 0
    · rw [if_pos h0, if_pos h0, if_neg (by omega), if_neg (by omega)]
    · rw [if_neg h0, if_neg h0]
      by_cases h1 : (l.length : Int) = i - 1
      · rw [if_pos h1, if_pos (by omega)]
      · rw [if_neg h1, if_neg (by omega)]
        rfl
theorem rm_len (l : List Int) (i : Int) : (rm l i).length ≤ l.length := by
  induction l generalizing i with
  | nil => simp [rm]
  | cons x l ih =>
    have := ih (i - 1)
    simp only [rm]
    split <;> simp only [List.length_cons] <;> omega
theorem rm_act (l : List Int) (i : Int) : act (rm l i) + one l i = act l := by
  induction l generalizing i with
  | nil => simp [rm, act, one, has]
  | cons x l ih =>
    have hi := ih (i - 1)
    simp only [rm]
    by_cases h0 : i = 0
    · subst h0
      rw [if_pos rfl, rm_out l (by omega)]
      unfold one
      by_cases hx : x = 0
      · subst hx
        simp [has, act]
        omega
      · simp [has, act, hx]
    · rw [if_neg h0]
      simp only [act]
      have e1 : one (x :: l) i = one l (i - 1) := by
        unfold one
        by_cases h1 : 0 < i
        · have e2 : i.toNat = (i - 1).toNat + 1 := by omega
          have e3 : has (x :: l).length i = has l.length (i - 1) := by
            simp only [has, List.length_cons]
            congr 1 <;> (apply decide_eq_decide.2; omega)
          rw [e3, e2, List.getD_cons_succ]
        · rw [has_false (by omega), has_false (by omega)]
          rfl
      rw [e1]
      omega

theorem mul_le {h k e : Int} (hk : h ≤ k) (he : 0 ≤ e) : h * e ≤ k * e := Int.mul_le_mul_of_nonneg_right hk he

end Go.Proofs.Ytkppicocjipakaa
