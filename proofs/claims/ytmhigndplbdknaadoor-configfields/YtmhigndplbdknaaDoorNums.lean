/-
  Numbers as digits, there and back: what is written of a number is read as it was, a text's words joined are the text, and the number of a word, digit by digit. No program, no conditions.
-/
import Derived.Test.YtmhigndplbdknaaDoorPure
namespace Go.Proofs.YtmhigndplbdknaaDoor
open Go

theorem decFrom_append (l r : List UInt8) : ∀ acc, Lib.decFrom acc (l ++ r) = (Lib.decFrom acc l).bind fun n => Lib.decFrom n r := by
  induction l with
  | nil => intro acc; rfl
  | cons b l ih =>
    intro acc
    simp only [List.cons_append, Lib.decFrom]
    cases Lib.digitVal b with
    | none => rfl
    | some d => exact ih _
theorem digit_nat (d : Nat) (h : d < 10) : (UInt8.ofNat (48 + d)).toNat = 48 + d := by
  rw [UInt8.toNat_ofNat']
  omega
theorem digitVal_nat (d : Nat) (h : d < 10) : Lib.digitVal (UInt8.ofNat (48 + d)) = some d := by
  unfold Lib.digitVal
  rw [digit_nat d h, if_pos (by omega)]
  congr 1
  omega
theorem decDigits_step (u : Nat) (h : ¬ u < 10) : Lib.decDigits u = Lib.decDigits (u / 10) ++ [UInt8.ofNat (48 + u % 10)] := by
  rw [Lib.decDigits, dif_neg h]
theorem decFrom_digits (u : Nat) : Lib.decFrom 0 (Lib.decDigits u) = some u := by
  induction u using Nat.strongRecOn with
  | _ u ih =>
    by_cases h : u < 10
    · rw [Lib.decDigits_one h]
      simp only [Lib.decFrom, digitVal_nat u h]
      congr 1
      omega
    · rw [decDigits_step u h, decFrom_append, ih (u / 10) (by omega)]
      simp only [Option.bind_some, Lib.decFrom, digitVal_nat (u % 10) (by omega)]
      congr 1
      omega
theorem decDigits_ne (u : Nat) : Lib.decDigits u ≠ [] := by
  by_cases h : u < 10
  · rw [Lib.decDigits_one h]; simp
  · rw [decDigits_step u h]; simp
theorem decDigits_mem (u : Nat) : ∀ b ∈ Lib.decDigits u, 48 ≤ b.toNat ∧ b.toNat ≤ 57 := by
  induction u using Nat.strongRecOn with
  | _ u ih =>
    by_cases h : u < 10
    · rw [Lib.decDigits_one h]
      intro b hb
      simp only [List.mem_singleton] at hb
      subst hb
      rw [digit_nat u h]
      omega
    · rw [decDigits_step u h]
      intro b hb
      simp only [List.mem_append, List.mem_singleton] at hb
      rcases hb with hb | hb
      · exact ih (u / 10) (by omega) b hb
      · subst hb
        rw [digit_nat (u % 10) (by omega)]
        omega
theorem digits_head (u : Nat) : ∃ b r, Lib.decDigits u = b :: r ∧ b ≠ 45 ∧ b ≠ 43 := by
  cases h : Lib.decDigits u with
  | nil => exact absurd h (decDigits_ne u)
  | cons b r =>
    refine ⟨b, r, rfl, ?_, ?_⟩
    · rintro rfl
      have := decDigits_mem u 45 (by rw [h]; simp)
      simp at this
    · rintro rfl
      have := decDigits_mem u 43 (by rw [h]; simp)
      simp at this
theorem decNat_digits (u : Nat) : Lib.decNat (Lib.decDigits u) = some u := by
  unfold Lib.decNat
  rw [if_neg (by simpa using decDigits_ne u), decFrom_digits]
theorem atoi_itoa (v : Int) : Lib.atoi (Lib.itoa v) = some v := by
  by_cases h : v < 0
  · have e : Lib.itoa v = 45 :: Lib.decDigits v.natAbs := by unfold Lib.itoa; rw [if_pos h]
    rw [e]
    simp only [Lib.atoi, beq_self_eq_true, if_true, decNat_digits, Option.map_some]
    congr 1
    omega
  · have e : Lib.itoa v = Lib.decDigits v.toNat := by unfold Lib.itoa; rw [if_neg h]
    obtain ⟨b, r, hd, h1, h2⟩ := digits_head v.toNat
    have hn := decNat_digits v.toNat
    rw [e]
    rw [hd] at hn ⊢
    simp only [Lib.atoi, beq_eq_false_iff_ne.2 h1, beq_eq_false_iff_ne.2 h2, hn]
    simp
    omega
theorem itoa_inj {a b : Int} (h : Lib.itoa a = Lib.itoa b) : a = b := by
  have := atoi_itoa a
  rw [h, atoi_itoa] at this
  exact (Option.some.inj this).symm
theorem itoa_no32 (v : Int) : ∀ b ∈ Lib.itoa v, b ≠ 32 := by
  intro b hb e
  subst e
  unfold Lib.itoa at hb
  split at hb
  · simp only [List.mem_cons] at hb
    rcases hb with hb | hb
    · exact absurd hb (by decide)
    · have := decDigits_mem _ _ hb
      simp at this
  · have := decDigits_mem _ _ hb
    simp at this

/-- What stands behind a '-'. -/
def body (s : List UInt8) : List UInt8 := Lib.trimPrefix s [45]
def neg (s : List UInt8) : Bool := Lib.hasPrefix s [45]
def sgn (s : List UInt8) (n : Nat) : Int := if neg s = true then -(n : Int) else n
theorem body_neg {r : List UInt8} : body (45 :: r) = r := by simp [body, Lib.trimPrefix, Lib.hasPrefix, List.isPrefixOf]
theorem neg_neg {r : List UInt8} : neg (45 :: r) = true := by simp [neg, Lib.hasPrefix, List.isPrefixOf]
theorem neg_pos {b : UInt8} {r : List UInt8} (h : b ≠ 45) : neg (b :: r) = false := by simp [neg, Lib.hasPrefix, List.isPrefixOf, Ne.symm h]
theorem body_pos {s : List UInt8} (h : neg s = false) : body s = s := by
  unfold body Lib.trimPrefix
  unfold neg at h
  rw [if_neg (by simp [h])]
theorem itoa_parts (v : Int) : body (Lib.itoa v) = Lib.decDigits v.natAbs ∧ sgn (Lib.itoa v) v.natAbs = v := by
  by_cases h : v < 0
  · have e : Lib.itoa v = 45 :: Lib.decDigits v.natAbs := by unfold Lib.itoa; rw [if_pos h]
    rw [e, body_neg]
    refine ⟨rfl, ?_⟩
    unfold sgn
    rw [if_pos neg_neg]
    omega
  · have e : Lib.itoa v = Lib.decDigits v.natAbs := by
      unfold Lib.itoa
      rw [if_neg h]
      congr 1
      omega
    obtain ⟨b, r, hd, h1, h2⟩ := digits_head v.natAbs
    have hn : neg (Lib.itoa v) = false := by rw [e, hd]; exact neg_pos h1
    refine ⟨?_, ?_⟩
    · rw [body_pos hn, e]
    · unfold sgn
      rw [if_neg (by simp [hn])]
      omega
/-- The number of a word, digit by digit. -/
theorem numB_alt (s : List UInt8) (v : Int) : numB s = some v ↔ ((body s).length ≤ 9 ∧ ∃ n, Lib.decFrom 0 (body s) = some n ∧ v = sgn s n ∧ Lib.itoa (sgn s n) = s) := by
  constructor
  · intro h
    obtain ⟨h1, h2, h3⟩ := numB_some h
    refine ⟨h2, v.natAbs, ?_⟩
    obtain ⟨e1, e2⟩ := itoa_parts v
    rw [h1] at e1 e2
    refine ⟨?_, e2.symm, ?_⟩
    · rw [e1, decFrom_digits]
    · rw [e2, h1]
  · rintro ⟨h1, n, h2, rfl, h4⟩
    have h5 := atoi_itoa (sgn s n)
    rw [h4] at h5
    have h1' : (Lib.trimPrefix s [45]).length ≤ 9 := h1
    unfold numB
    rw [if_pos h1', h5]
    simp [h4]
theorem numB_itoa (v : Int) : numB (Lib.itoa v) = if Lib.nDigits v.natAbs ≤ 9 then some v else none := by
  have e : (Lib.trimPrefix (Lib.itoa v) [45]).length = Lib.nDigits v.natAbs := by
    have := (itoa_parts v).1
    unfold body at this
    rw [this, Lib.decDigits_length]
  unfold numB
  rw [e, atoi_itoa]
  simp
theorem nDigits_le : ∀ (k u : Nat), u < 10 ^ (k + 1) → Lib.nDigits u ≤ k + 1
  | 0, u, h => by rw [Lib.nDigits_small (by simpa using h)]; omega
  | k + 1, u, h => by
    by_cases h9 : u < 10
    · rw [Lib.nDigits_small h9]; omega
    · rw [Lib.nDigits_big h9]
      have := nDigits_le k (u / 10) (by rw [Nat.pow_succ] at h; omega)
      omega
theorem numB_small {v : Int} (h0 : 0 ≤ v) (h1 : v ≤ 1048576) : numB (Lib.itoa v) = some v := by
  rw [numB_itoa, if_pos]
  have := nDigits_le 8 v.natAbs (by have : (10 : Nat) ^ (8 + 1) = 1000000000 := by decide
                                    omega)
  omega
theorem numB_back {v u : Int} (h : numB (Lib.itoa v) = some u) : u = v := by
  rw [numB_itoa] at h
  split at h
  · cases h; rfl
  · cases h

theorem wordsA_app (x : List UInt8) (hx : ∀ b ∈ x, b ≠ 32) : ∀ (acc r : List UInt8), wordsA acc (x ++ r) = wordsA (acc ++ x) r := by
  induction x with
  | nil => intro acc r; simp
  | cons b x ih =>
    intro acc r
    have hb : b ≠ 32 := hx b (by simp)
    simp only [List.cons_append, wordsA, if_neg hb]
    rw [ih (fun c hc => hx c (by simp [hc]))]
    simp
theorem words_join : ∀ (x : List UInt8) (ws : List (List UInt8)), (∀ w ∈ x :: ws, ∀ b ∈ w, b ≠ 32) → words (Lib.join (x :: ws) [32]) = x :: ws
  | x, [], h => by
    rw [Lib.join_one]
    have := wordsA_app x (h x (by simp)) [] []
    simp only [List.append_nil, List.nil_append, wordsA] at this
    exact this
  | x, y :: ws, h => by
    have e : Lib.join (x :: y :: ws) [32] = x ++ 32 :: Lib.join (y :: ws) [32] := by
      rw [Lib.join_cons, Lib.join_cons]
      simp [Lib.joinTail]
    have ih := words_join y ws (fun w hw => h w (List.mem_cons_of_mem _ hw))
    rw [e]
    unfold words
    rw [wordsA_app x (h x (by simp))]
    simp only [List.nil_append, wordsA, if_true]
    exact congrArg _ ih
theorem join_words : ∀ (n : Nat) (s : List UInt8), s.length ≤ n → Lib.join (words s) [32] = s
  | n, s, hn => by
    by_cases hf : (cutA s).2.2 = true
    · have hs := cutA_yes s hf
      have hl : (cutA s).2.1.length < s.length := by
        have := congrArg List.length hs
        simp at this
        omega
      cases n with
      | zero => omega
      | succ n =>
        have ih := join_words n (cutA s).2.1 (by omega)
        have hw : words s = (cutA s).1 :: words (cutA s).2.1 := by rw [words_cut, if_pos hf]
        rw [hw]
        cases hq : words (cutA s).2.1 with
        | nil =>
          have := words_pos (cutA s).2.1
          rw [hq] at this
          simp at this
        | cons y ws =>
          rw [hq] at ih
          have e : Lib.join ((cutA s).1 :: y :: ws) [32] = (cutA s).1 ++ 32 :: Lib.join (y :: ws) [32] := by
            rw [Lib.join_cons, Lib.join_cons]
            simp [Lib.joinTail]
          rw [e, ih]
          exact hs.symm
    · rw [words_cut, if_neg hf, Lib.join_one]

theorem words_txt {l : List Int} (h : l.length = 15) : words (txt l) = l.map Lib.itoa := by
  unfold txt
  cases l with
  | nil => simp at h
  | cons a l =>
    refine words_join _ _ ?_
    intro w hw
    simp only [← List.map_cons (f := Lib.itoa), List.mem_map] at hw
    obtain ⟨v, _, rfl⟩ := hw
    exact itoa_no32 v
theorem mapM_small : ∀ (l : List Int), (∀ v ∈ l, 0 ≤ v ∧ v ≤ 1048576) → (l.map Lib.itoa).mapM numB = some l
  | [], _ => rfl
  | v :: l, h => by
    have hv := h v (by simp)
    simp [List.mapM_cons, numB_small hv.1 hv.2, mapM_small l (fun u hu => h u (by simp [hu]))]
theorem mapM_back : ∀ (l r : List Int), (l.map Lib.itoa).mapM numB = some r → r = l
  | [], r, h => by simp at h; exact h
  | v :: l, r, h => by
    simp only [List.map_cons, List.mapM_cons, Option.bind_eq_bind, Option.bind_eq_some_iff, Option.pure_def, Option.some.injEq] at h
    obtain ⟨b, hb, r', hr', rfl⟩ := h
    rw [numB_back hb, mapM_back l r' hr']
theorem mapM_itoa : ∀ (ws : List (List UInt8)) (r : List Int), ws.mapM numB = some r → r.map Lib.itoa = ws
  | [], r, h => by simp at h; subst h; rfl
  | x :: ws, r, h => by
    simp only [List.mapM_cons, Option.bind_eq_bind, Option.bind_eq_some_iff, Option.pure_def, Option.some.injEq] at h
    obtain ⟨b, hb, r', hr', rfl⟩ := h
    simp [(numB_some hb).1, mapM_itoa ws r' hr']

/-- A config that may be is read of its text. -/
theorem back_may {l : List Int} (h : l.length = 15) (hc : ckE l = 0) : rdE (txt l) = 0 ∧ rdL (txt l) = l := by
  have hb := hi_le (ckE_zero hc)
  have hv : ∀ v ∈ l, 0 ≤ v ∧ v ≤ 1048576 := by
    intro v hv
    obtain ⟨j, hj, rfl⟩ := List.getElem_of_mem hv
    have := hb j (by omega)
    simpa [List.getD, hj] using this
  have e : rdB (txt l) = some l := by
    unfold rdB
    rw [words_txt h, if_pos (by simpa using h), mapM_small l hv]
  unfold rdE rdL
  rw [e]
  simp [hc]
/-- What is read of a config's text is that config. -/
theorem back_is {l : List Int} (h : l.length = 15) (hc : rdE (txt l) = 0) : rdL (txt l) = l := by
  unfold rdE at hc
  unfold rdL
  cases e : rdB (txt l) with
  | none => rw [e] at hc; simp at hc
  | some r =>
    rw [e] at hc
    simp only at hc ⊢
    rw [if_pos hc]
    unfold rdB at e
    rw [words_txt h] at e
    split at e
    · exact mapM_back l r e
    · cases e
/-- What is read is written as just that text. -/
theorem back_text {s : List UInt8} (hc : rdE s = 0) : txt (rdL s) = s ∧ ckE (rdL s) = 0 := by
  unfold rdE at hc
  unfold rdL
  cases e : rdB s with
  | none => rw [e] at hc; simp at hc
  | some r =>
    rw [e] at hc
    simp only at hc ⊢
    rw [if_pos hc]
    refine ⟨?_, hc⟩
    unfold rdB at e
    split at e
    · unfold txt
      rw [mapM_itoa _ _ e, join_words _ s (Nat.le_refl _)]
    · cases e
theorem itoa_le (v : Int) (h0 : -9223372036854775808 ≤ v) (h1 : v ≤ 9223372036854775807) : (Lib.itoa v).length ≤ 21 := Lib.itoa_length_le v h0 h1
end Go.Proofs.YtmhigndplbdknaaDoor
