/-
  The document's answers on configs, as plain functions on lists: which field may not be, a config's text, words of a text, the number of a word, the config of a text; and what holds of them. No program, no conditions.
-/
import Derived.Lib.Atoi
import Derived.Lib.ItoaNum
import Derived.Lib.ItoaMem
import Derived.Lib.ItoaLen
import Derived.Lib.Join
import Derived.Lib.IndexMore
import Derived.Lib.Strings
namespace Go.Proofs.YtmhigndplbdknaaDoor
open Go

/-- The least and the greatest number of each place. -/
def los : List Int := [1, 1, 1, 0, 1, 1, 1, 0, 1, 0, 1, 1, 1, 1, 0]
def his (a b : Int) : List Int := [1024, 8, 32, 16, 1048576, 1048576, 1048576, a, 1048576, b, 1048576, 16, 1048576, 1048576, 256]
def hiOf (l : List Int) (j : Nat) : Int := (his (l.getD 6 0) (l.getD 1 0)).getD j 0
def loOf (j : Nat) : Int := los.getD j 0
/-- The field of a place may not be. -/
def bad (l : List Int) (j : Nat) : Bool := decide (l.getD j 0 < loOf j) || decide (hiOf l j < l.getD j 0)
/-- The first place, of the last k, whose field may not be. -/
def fb (l : List Int) : Nat → Option Nat
  | 0 => none
  | k + 1 => if bad l (14 - k) = true then some (14 - k) else fb l k
def ckN (l : List Int) : Int := match fb l 15 with | none => -1 | some j => j
def ckE (l : List Int) : Int := match fb l 15 with | none => 0 | some _ => 10

theorem fb_step {l : List Int} {i : Nat} (hi : i < 15) (h : fb l 15 = fb l (15 - i)) : fb l 15 = if bad l i = true then some i else fb l (15 - (i + 1)) := by
  rw [h]
  have e : 15 - i = (14 - i) + 1 := by omega
  have e2 : 14 - (14 - i) = i := by omega
  have e3 : 14 - i = 15 - (i + 1) := by omega
  rw [e, fb, e2, e3]
theorem ck_bad {l : List Int} {i : Nat} (hi : i < 15) (h : fb l 15 = fb l (15 - i)) (hb : bad l i = true) : ckN l = i ∧ ckE l = 10 := by
  have := fb_step hi h
  rw [if_pos hb] at this
  simp [ckN, ckE, this]
theorem fb_next {l : List Int} {i : Nat} (hi : i < 15) (h : fb l 15 = fb l (15 - i)) (hb : bad l i = false) : fb l 15 = fb l (15 - (i + 1)) := by
  have := fb_step hi h
  rwa [if_neg (by simp [hb])] at this
theorem ck_ok {l : List Int} (h : fb l 15 = fb l (15 - 15)) : ckN l = -1 ∧ ckE l = 0 := by
  have : fb l 15 = none := h
  simp [ckN, ckE, this]
theorem fb_skip {l : List Int} (n : Nat) (hn : n ≤ 15) (h : ∀ j, j < n → bad l j = false) : fb l 15 = fb l (15 - n) := by
  induction n with
  | zero => rfl
  | succ n ih => exact fb_next (by omega) (ih (by omega) fun j hj => h j (by omega)) (h n (by omega))
theorem ck_none {l : List Int} (h : ∀ j, j < 15 → bad l j = false) : ckN l = -1 ∧ ckE l = 0 := ck_ok (fb_skip 15 (by omega) h)
theorem ck_some {l : List Int} {n : Nat} (hn : n < 15) (h : ∀ j, j < n → bad l j = false) (hb : bad l n = true) : ckN l = n ∧ ckE l = 10 := ck_bad hn (fb_skip n (by omega) h) hb
theorem fb_none : ∀ (k : Nat) {l : List Int}, k ≤ 15 → fb l k = none → ∀ j, 15 - k ≤ j → j < 15 → bad l j = false
  | 0, _, _, _, j, h1, h2 => by omega
  | k + 1, l, hk, h, j, h1, h2 => by
    rw [fb] at h
    by_cases hb : bad l (14 - k) = true
    · rw [if_pos hb] at h
      cases h
    · rw [if_neg hb] at h
      by_cases e : j = 14 - k
      · subst e
        simpa using hb
      · exact fb_none k (by omega) h j (by omega) h2
theorem ckE_zero {l : List Int} (h : ckE l = 0) : ∀ j, j < 15 → bad l j = false := by
  intro j hj
  refine fb_none 15 (Nat.le_refl _) ?_ j (by omega) hj
  unfold ckE at h
  cases hq : fb l 15 with
  | none => rfl
  | some x => simp [hq] at h
theorem ckE_two (l : List Int) : ckE l = 0 ∨ ckE l = 10 := by
  unfold ckE
  cases fb l 15 <;> simp
theorem hi_le {l : List Int} (h : ∀ j, j < 15 → bad l j = false) : ∀ j, j < 15 → 0 ≤ l.getD j 0 ∧ l.getD j 0 ≤ 1048576 := by
  intro j hj
  have hb : ∀ j, j < 15 → loOf j ≤ l.getD j 0 ∧ l.getD j 0 ≤ hiOf l j := fun j hj => by
    have := h j hj
    unfold bad at this
    simp only [Bool.or_eq_false_iff, decide_eq_false_iff_not] at this
    omega
  have h6 := hb 6 (by omega)
  have h1 := hb 1 (by omega)
  have hj' := hb j hj
  simp only [loOf, los, hiOf, his] at h6 h1 hj'
  simp only [List.getD_cons_succ, List.getD_cons_zero] at h6 h1
  match j, hj with
  | 0, _ | 1, _ | 2, _ | 3, _ | 4, _ | 5, _ | 6, _ | 7, _ | 8, _ | 9, _ | 10, _ | 11, _ | 12, _ | 13, _ | 14, _ =>
    simp only [List.getD_cons_succ, List.getD_cons_zero] at hj' ⊢
    omega

/-- A config's text. -/
def txt (l : List Int) : List UInt8 := Lib.join (l.map Lib.itoa) [32]

/-- The words of a text, split at single blanks. -/
def wordsA (acc : List UInt8) : List UInt8 → List (List UInt8)
  | [] => [acc]
  | b :: r => if b = 32 then acc :: wordsA [] r else wordsA (acc ++ [b]) r
def words (s : List UInt8) : List (List UInt8) := wordsA [] s

/-- A text cut at its first blank. -/
def cutA : List UInt8 → List UInt8 × List UInt8 × Bool
  | [] => ([], [], false)
  | b :: r => if b = 32 then ([], r, true) else (b :: (cutA r).1, (cutA r).2.1, (cutA r).2.2)

theorem wordsA_cut (s : List UInt8) : ∀ acc, wordsA acc s = if (cutA s).2.2 = true then (acc ++ (cutA s).1) :: words (cutA s).2.1 else [acc ++ s] := by
  induction s with
  | nil => intro acc; simp [wordsA, cutA]
  | cons b r ih =>
    intro acc
    by_cases hb : b = 32
    · simp [wordsA, cutA, hb, words]
    · simp only [wordsA, cutA, if_neg hb]
      rw [ih]
      simp
theorem words_cut (s : List UInt8) : words s = if (cutA s).2.2 = true then (cutA s).1 :: words (cutA s).2.1 else [s] := by
  have := wordsA_cut s []
  simp only [List.nil_append] at this
  exact this
theorem cutA_no (s : List UInt8) (h : (cutA s).2.2 = false) : (cutA s).1 = s ∧ (cutA s).2.1 = [] := by
  induction s with
  | nil => simp [cutA]
  | cons b r ih =>
    by_cases hb : b = 32
    · simp [cutA, hb] at h
    · simp only [cutA, if_neg hb] at h ⊢
      have := ih h
      simp [this.1, this.2]
theorem cutA_len (s : List UInt8) : (cutA s).1.length ≤ s.length ∧ (cutA s).2.1.length ≤ s.length := by
  induction s with
  | nil => simp [cutA]
  | cons b r ih =>
    by_cases hb : b = 32
    · simp [cutA, hb]
    · simp only [cutA, if_neg hb, List.length_cons]
      omega
theorem index_cutA (s : List UInt8) : Lib.index s [32] = if (cutA s).2.2 = true then ((cutA s).1.length : Int) else -1 := by
  induction s with
  | nil => simp [Lib.index, cutA]
  | cons b r ih =>
    by_cases hb : b = 32
    · simp [Lib.index, cutA, hb]
    · have hp : ([32] : List UInt8).isPrefixOf (b :: r) = false := by
        simp [List.isPrefixOf, Ne.symm hb]
      simp only [Lib.index, hp, cutA, if_neg hb, ih]
      by_cases hf : (cutA r).2.2 = true
      · simp [hf]
      · simp [hf]
theorem cutA_yes (s : List UInt8) (h : (cutA s).2.2 = true) : s = (cutA s).1 ++ 32 :: (cutA s).2.1 := by
  induction s with
  | nil => simp [cutA] at h
  | cons b r ih =>
    by_cases hb : b = 32
    · simp [cutA, hb]
    · simp only [cutA, if_neg hb] at h ⊢
      rw [List.cons_append, ← ih h]
theorem words_pos (s : List UInt8) : 1 ≤ (words s).length := by
  rw [words_cut]
  split <;> simp

/-- The number of a word: as a text writes it, of 9 digits at most. -/
def numB (w : List UInt8) : Option Int :=
  if (Lib.trimPrefix w [45]).length ≤ 9 then match Lib.atoi w with
    | some v => if Lib.itoa v = w then some v else none
    | none => none
  else none
theorem numB_nil : numB [] = none := by decide
theorem numB_some {w : List UInt8} {v : Int} (h : numB w = some v) : Lib.itoa v = w ∧ (Lib.trimPrefix w [45]).length ≤ 9 ∧ Lib.atoi w = some v := by
  unfold numB at h
  split at h
  · rename_i hl
    split at h
    · rename_i v' hv
      split at h
      · rename_i he
        cases h
        exact ⟨he, hl, hv⟩
      · cases h
    · cases h
  · cases h

/-- What is read, cut by cut. -/
def rd : Nat → List UInt8 → Bool → Option (List Int)
  | 0, _, more => if more = true then none else some []
  | k + 1, s, _ => match numB (cutA s).1 with
    | none => none
    | some v => (rd k (cutA s).2.1 (cutA s).2.2).map (v :: ·)
/-- What is read, word by word. -/
def rdB (s : List UInt8) : Option (List Int) := if (words s).length = 15 then (words s).mapM numB else none

theorem rd_words : ∀ (k : Nat) (s : List UInt8) (m : Bool), rd (k + 1) s m = if (words s).length = k + 1 then (words s).mapM numB else none
  | 0, s, m => by
    rw [words_cut]
    simp only [rd]
    by_cases hf : (cutA s).2.2 = true
    · have := words_pos (cutA s).2.1
      simp only [hf, if_true, List.length_cons]
      rw [if_neg (by omega)]
      cases numB (cutA s).1 <;> simp
    · have e := cutA_no s (by simpa using hf)
      simp only [hf, e.1]
      cases h : numB s <;> simp [h]
  | k + 1, s, m => by
    rw [words_cut, rd]
    by_cases hf : (cutA s).2.2 = true
    · simp only [hf, if_true, List.length_cons]
      rw [rd_words k]
      cases h : numB (cutA s).1 with
      | none => simp [h]
      | some v =>
        by_cases hl : (words (cutA s).2.1).length = k + 1
        · simp [hl, h]
          cases (words (cutA s).2.1).mapM numB <;> rfl
        · simp [hl]
    · have e := cutA_no s (by simpa using hf)
      simp only [hf, e.1, e.2]
      have e0 : ∀ m, rd (k + 1) [] m = none := by
        intro m
        simp [rd, cutA, numB_nil]
      cases h : numB s <;> simp [e0]
theorem rdB_rd (s : List UInt8) : rdB s = rd 15 s false := (rd_words 14 s false).symm

theorem mapM_len {α β : Type} (f : α → Option β) : ∀ (l : List α) (r : List β), l.mapM f = some r → r.length = l.length
  | [], r, h => by simp at h; subst h; rfl
  | x :: l, r, h => by
    simp only [List.mapM_cons, Option.bind_eq_bind, Option.bind_eq_some_iff, Option.pure_def, Option.some.injEq] at h
    obtain ⟨b, hb, r', hr', rfl⟩ := h
    simp [mapM_len f l r' hr']
theorem rdB_len {s : List UInt8} {l : List Int} (h : rdB s = some l) : l.length = 15 := by
  unfold rdB at h
  split at h
  · rename_i hl
    rw [mapM_len _ _ _ h, hl]
  · cases h

def zeros : List Int := [0, 0, 0, 0, 0, 0, 0, 0, 0, 0, 0, 0, 0, 0, 0]
/-- The config of a text, and its error. -/
def rdL (s : List UInt8) : List Int := match rdB s with | none => zeros | some l => if ckE l = 0 then l else zeros
def rdE (s : List UInt8) : Int := match rdB s with | none => 2 | some l => ckE l
theorem rdL_len (s : List UInt8) : (rdL s).length = 15 := by
  unfold rdL
  cases h : rdB s with
  | none => rfl
  | some l =>
    simp only
    split
    · exact rdB_len h
    · rfl

end Go.Proofs.YtmhigndplbdknaaDoor
