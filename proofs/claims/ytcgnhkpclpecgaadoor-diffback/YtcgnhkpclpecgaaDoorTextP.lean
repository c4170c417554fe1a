/-
  Plain functions on texts: a text cut at commas, a list's text, the list of a text and its error; there and back. No conditions but those that each names.
-/
import Derived.Test.YtcgnhkpclpecgaaDoorLives
import Derived.Test.YtcgnhkpclpecgaaDoorShelf
namespace Go.Proofs.YtcgnhkpclpecgaaDoor
open Go.ChangeShapes Go.WideShapes Go.ChangeAt Go.RowKit

def mk (l : List UInt8) : ByteArray := ⟨l.toArray⟩
theorem mk_data (s : ByteArray) : mk s.data.toList = s := by cases s; rfl
theorem mk_list (l : List UInt8) : (mk l).data.toList = l := rfl
theorem mk_size (l : List UInt8) : (mk l).size = l.length := by
  show l.toArray.size = _
  simp
theorem mk_append (a b : List UInt8) : mk a ++ mk b = mk (a ++ b) := by
  rw [← mk_data (mk a ++ mk b)]
  congr 1
theorem map_mk (l : List ByteArray) : (l.map (·.data.toList)).map mk = l := by
  rw [List.map_map]
  conv => rhs; rw [← List.map_id l]
  congr 1
theorem map_list (l : List (List UInt8)) : (l.map mk).map (·.data.toList) = l := by
  rw [List.map_map]
  conv => rhs; rw [← List.map_id l]
  congr 1

/-- The pieces between commas, the first of them begun. -/
def cutC : List UInt8 → List UInt8 → List (List UInt8)
  | acc, [] => [acc]
  | acc, b :: r => if b = 44 then acc :: cutC [] r else cutC (acc ++ [b]) r
def pieces (s : List UInt8) : List (List UInt8) := cutC [] s
theorem cutC_stop (acc r : List UInt8) : cutC acc (44 :: r) = acc :: cutC [] r := by simp [cutC]
theorem cutC_go (acc : List UInt8) {b : UInt8} (hb : b ≠ 44) (r : List UInt8) : cutC acc (b :: r) = cutC (acc ++ [b]) r := by simp [cutC, hb]

theorem cutC_acc : ∀ (s acc : List UInt8), ∃ h t, pieces s = h :: t ∧ cutC acc s = (acc ++ h) :: t
  | [], acc => ⟨[], [], rfl, by simp [cutC]⟩
  | b :: r, acc => by
    by_cases hb : b = 44
    · subst hb
      exact ⟨[], pieces r, by unfold pieces; rw [cutC_stop], by rw [cutC_stop, List.append_nil]; rfl⟩
    · obtain ⟨h, t, e1, e2⟩ := cutC_acc r ([] ++ [b])
      obtain ⟨h', t', e3, e4⟩ := cutC_acc r (acc ++ [b])
      rw [e1] at e3
      injection e3 with e5 e6
      subst e5
      subst e6
      refine ⟨b :: h, t, by unfold pieces; rw [cutC_go [] hb, e2]; rfl, ?_⟩
      rw [cutC_go acc hb, e4]
      simp
theorem pieces_pos (s : List UInt8) : 0 < (pieces s).length := by
  obtain ⟨h, t, e, _⟩ := cutC_acc s []
  rw [e]
  simp
theorem pieces_cons {b : UInt8} (hb : b ≠ 44) {r h : List UInt8} {t : List (List UInt8)} (e : pieces r = h :: t) : pieces (b :: r) = (b :: h) :: t := by
  obtain ⟨h', t', e1, e2⟩ := cutC_acc r [b]
  rw [e] at e1
  injection e1 with e3 e4
  subst e3
  subst e4
  unfold pieces
  rw [cutC_go [] hb]
  exact e2
theorem pieces_index : ∀ s : List UInt8, (Lib.indexByte s 44 = -1 ∧ pieces s = [s]) ∨ ∃ i : Nat, Lib.indexByte s 44 = i ∧ pieces s = s.take i :: pieces (s.drop (i + 1))
  | [] => .inl ⟨rfl, rfl⟩
  | b :: r => by
    by_cases hb : b = 44
    · subst hb
      refine .inr ⟨0, by simp [Lib.indexByte], ?_⟩
      unfold pieces
      rw [cutC_stop]
      rfl
    · rcases pieces_index r with ⟨h1, h2⟩ | ⟨i, h1, h2⟩
      · exact .inl ⟨by simp [Lib.indexByte, hb, h1], pieces_cons hb h2⟩
      · refine .inr ⟨i + 1, ?_, ?_⟩
        · unfold Lib.indexByte
          rw [h1]
          simp only [beq_iff_eq, hb, if_false]
          rw [if_neg (by omega)]
          omega
        · rw [pieces_cons hb h2]
          rfl
theorem pieces_len : ∀ s : List UInt8, (pieces s).length ≤ s.length + 1
  | [] => Nat.le_refl _
  | b :: r => by
    have ih := pieces_len r
    by_cases hb : b = 44
    · subst hb
      unfold pieces at *
      rw [cutC_stop, List.length_cons, List.length_cons]
      omega
    · obtain ⟨h, t, e, _⟩ := cutC_acc r []
      rw [pieces_cons hb e]
      rw [e] at ih
      simp at ih ⊢
      omega
theorem cutC_size : ∀ (s acc : List UInt8), ∀ x ∈ cutC acc s, x.length ≤ acc.length + s.length
  | [], acc, x, hx => by
    simp only [cutC, List.mem_singleton] at hx
    subst hx
    simp
  | b :: r, acc, x, hx => by
    by_cases hb : b = 44
    · subst hb
      rw [cutC_stop] at hx
      rcases List.mem_cons.1 hx with h | h
      · subst h
        omega
      · have := cutC_size r [] x h
        simp at this ⊢
        omega
    · rw [cutC_go acc hb] at hx
      have := cutC_size r (acc ++ [b]) x hx
      simp at this ⊢
      omega

theorem splitK_few : ∀ (k : Nat) (s : List UInt8), (pieces s).length ≤ k + 1 → Lib.splitK [44] 0 k s = pieces s
  | 0, s, h => by
    rcases pieces_index s with ⟨_, h2⟩ | ⟨i, _, h2⟩
    · rw [h2]; rfl
    · rw [h2, List.length_cons] at h
      have := pieces_pos (s.drop (i + 1))
      omega
  | k + 1, s, h => by
    unfold Lib.splitK
    rw [Lib.index_one]
    rcases pieces_index s with ⟨h1, h2⟩ | ⟨i, h1, h2⟩
    · rw [h1, h2]; rfl
    · rw [h2, List.length_cons] at h
      rw [h1, if_neg (by simp), h2, splitK_few k _ (by simp at h ⊢; omega)]
      simp
theorem splitK_many : ∀ (k : Nat) (s : List UInt8), k + 1 < (pieces s).length → (Lib.splitK [44] 0 k s).length = k + 1
  | 0, s, _ => rfl
  | k + 1, s, h => by
    unfold Lib.splitK
    rw [Lib.index_one]
    rcases pieces_index s with ⟨h1, h2⟩ | ⟨i, h1, h2⟩
    · rw [h2] at h
      simp at h
    · rw [h2, List.length_cons] at h
      rw [h1, if_neg (by simp), List.length_cons]
      have := splitK_many k (s.drop (i + 1)) (by omega)
      simp at this ⊢
      exact this

theorem splitK_size : ∀ (k : Nat) (s : List UInt8), ∀ x ∈ Lib.splitK [44] 0 k s, x.length ≤ s.length
  | 0, s, x, hx => by
    rw [List.mem_singleton.1 hx]
    exact Nat.le_refl _
  | k + 1, s, x, hx => by
    unfold Lib.splitK at hx
    split at hx
    · rw [List.mem_singleton.1 hx]
      exact Nat.le_refl _
    · rcases List.mem_cons.1 hx with h | h
      · rw [h, List.length_take]
        omega
      · have := splitK_size k _ x h
        rw [List.length_drop] at this
        omega

/-- The list of a text, its names told by Check. -/
def pcs (s : ByteArray) : List ByteArray := (pieces s.data.toList).map mk
def nE : ByteArray := ⟨#[]⟩
def nH : ByteArray := ⟨#[45]⟩
def readL (s : ByteArray) : List ByteArray := if s = nE then [] else if s = nH then [] else if chk (pcs s) = 0 then pcs s else []
def readE (s : ByteArray) : Int := if s = nE then 2 else if s = nH then 0 else chk (pcs s)
def spl (s : ByteArray) : List ByteArray := Lib.splitB ⟨#[44]⟩ 0 (min 17 (s.size + 1) - 1) s
theorem spl_eq (s : ByteArray) : spl s = (Lib.splitK [44] 0 (min 17 (s.size + 1) - 1) s.data.toList).map mk := by
  have := Lib.splitB_data ⟨#[44]⟩ 0 (min 17 (s.size + 1) - 1) s
  unfold spl
  rw [← map_mk (Lib.splitB ⟨#[44]⟩ 0 (min 17 (s.size + 1) - 1) s), this]
theorem pcs_len (s : ByteArray) : 0 < (pcs s).length ∧ (pcs s).length ≤ s.size + 1 := by
  unfold pcs
  rw [List.length_map]
  refine ⟨pieces_pos _, ?_⟩
  have := pieces_len s.data.toList
  rw [Lib.size_eq]
  exact this
theorem pcs_size (s : ByteArray) : ∀ x ∈ pcs s, x.size ≤ s.size := by
  intro x hx
  obtain ⟨y, hy, rfl⟩ := List.mem_map.1 hx
  have := cutC_size s.data.toList [] y hy
  rw [mk_size, Lib.size_eq]
  simpa using this
theorem spl_both (s : ByteArray) : spl s = pcs s ∨ (chk (spl s) = 13 ∧ chk (pcs s) = 13 ∧ (spl s).length = 17) := by
  by_cases h : (pieces s.data.toList).length ≤ (min 17 (s.size + 1) - 1) + 1
  · left
    rw [spl_eq, splitK_few _ _ h]
    rfl
  · right
    have hl := pieces_len s.data.toList
    have hz := Lib.size_eq s
    have h17 : min 17 (s.size + 1) - 1 = 16 := by omega
    have h1 : (spl s).length = 17 := by
      rw [spl_eq, List.length_map, splitK_many _ _ (by omega), h17]
    have h2 : 16 < (pcs s).length := by
      unfold pcs
      rw [List.length_map]
      omega
    exact ⟨chk_long (by omega), chk_long h2, h1⟩
theorem spl_chk (s : ByteArray) : chk (spl s) = chk (pcs s) := by
  rcases spl_both s with h | ⟨h1, h2, _⟩
  · rw [h]
  · rw [h1, h2]
theorem spl_good {s : ByteArray} (h : chk (pcs s) = 0) : spl s = pcs s := by
  rcases spl_both s with h1 | ⟨_, h2, _⟩
  · exact h1
  · rw [h2] at h
    cases h

/-- The text of a list. -/
def textB (l : List ByteArray) : ByteArray := if l.length = 0 then nH else mk (Lib.join (l.map (·.data.toList)) [44])
theorem join_cons2 (x y : List UInt8) (t : List (List UInt8)) : Lib.join (x :: y :: t) [44] = x ++ (44 :: Lib.join (y :: t) [44]) := by
  rw [Lib.join_cons, Lib.join_cons]
  simp [Lib.joinTail]
theorem join_snoc (y : List UInt8) : ∀ (x : List UInt8) (xs : List (List UInt8)), Lib.join (x :: (xs ++ [y])) [44] = Lib.join (x :: xs) [44] ++ ([44] ++ y)
  | x, [] => by
    rw [Lib.join_one]
    simp [Lib.join_cons, Lib.joinTail]
  | x, z :: xs => by
    rw [Lib.join_cons, Lib.join_cons]
    simp [Lib.joinTail]
theorem join_cut : ∀ (s acc : List UInt8), Lib.join (cutC acc s) [44] = acc ++ s
  | [], acc => by
    simp only [cutC, Lib.join_one, List.append_nil]
  | b :: r, acc => by
    by_cases hb : b = 44
    · subst hb
      rw [cutC_stop]
      obtain ⟨h, t, e, _⟩ := cutC_acc r []
      have ih := join_cut r []
      unfold pieces at e
      rw [e] at ih ⊢
      rw [join_cons2, ih]
      rfl
    · rw [cutC_go acc hb, join_cut r (acc ++ [b])]
      simp
theorem cutC_no : ∀ (x acc r : List UInt8), 44 ∉ x → cutC acc (x ++ r) = cutC (acc ++ x) r
  | [], acc, r, _ => by simp
  | b :: x, acc, r, h => by
    have hb : b ≠ 44 := fun e => h (by simp [e])
    rw [List.cons_append, cutC_go acc hb, cutC_no x (acc ++ [b]) r (fun e => h (by simp [e]))]
    simp
theorem pieces_join : ∀ (x : List UInt8) (t : List (List UInt8)), (∀ y ∈ x :: t, 44 ∉ y) → pieces (Lib.join (x :: t) [44]) = x :: t
  | x, [], h => by
    rw [Lib.join_one]
    have := cutC_no x [] [] (h x (by simp))
    rw [List.append_nil] at this
    unfold pieces
    rw [this]
    rfl
  | x, y :: t, h => by
    rw [join_cons2]
    unfold pieces
    rw [cutC_no x [] _ (h x (by simp)), List.nil_append, cutC_stop]
    congr 1
    exact pieces_join y t (fun z hz => h z (by simp at hz ⊢; right; exact hz))
theorem name_no {s : ByteArray} (h : nameB s = true) : 44 ∉ s.data.toList := by
  intro hx
  unfold nameB at h
  simp only [Bool.and_eq_true] at h
  have := List.all_eq_true.1 h.2 44 hx
  revert this
  decide

/-- A list that may be is read of its text. -/
theorem text_read {l : List ByteArray} (h : chk l = 0) (hn : ¬ l = [nH]) : readE (textB l) = 0 ∧ readL (textB l) = l := by
  cases l with
  | nil => exact ⟨rfl, rfl⟩
  | cons x t =>
    have hall : (x :: t).all nameB = true := by
      unfold chk at h
      by_cases h1 : 16 < (x :: t).length
      · rw [if_pos h1] at h; cases h
      · rw [if_neg h1] at h
        by_cases h2 : (x :: t).all nameB = true
        · exact h2
        · rw [if_neg h2] at h; cases h
    have hpj : pieces (Lib.join ((x :: t).map (·.data.toList)) [44]) = (x :: t).map (·.data.toList) := by
      rw [List.map_cons]
      refine pieces_join _ _ (fun y hy => ?_)
      rw [← List.map_cons (f := fun s : ByteArray => s.data.toList)] at hy
      obtain ⟨s, hs, rfl⟩ := List.mem_map.1 hy
      exact name_no (List.all_eq_true.1 hall s hs)
    have ht : textB (x :: t) = mk (Lib.join ((x :: t).map (·.data.toList)) [44]) := by unfold textB; rw [if_neg (by simp)]
    have hp : pcs (textB (x :: t)) = x :: t := by
      unfold pcs
      rw [ht, mk_list, hpj, map_mk]
    have h1 : ¬ textB (x :: t) = nE := fun e => by
      rw [e] at hp
      have hx := (nameB_size (List.all_eq_true.1 hall x (by simp))).1
      have e2 : pcs nE = [nE] := by decide +kernel
      rw [e2] at hp
      injection hp with e3 _
      rw [← e3] at hx
      exact absurd hx (by decide)
    have h2 : ¬ textB (x :: t) = nH := fun e => by
      rw [e] at hp
      have e2 : pcs nH = [nH] := by decide +kernel
      rw [e2] at hp
      exact hn hp.symm
    unfold readE readL
    rw [if_neg h1, if_neg h2, if_neg h1, if_neg h2, hp, if_pos h]
    exact ⟨h, rfl⟩
/-- What is read is written as just that text. -/
theorem read_text {s : ByteArray} (h : readE s = 0) : textB (readL s) = s ∧ chk (readL s) = 0 := by
  unfold readE at h
  unfold readL
  by_cases h1 : s = nE
  · rw [if_pos h1] at h; cases h
  · rw [if_neg h1] at h
    rw [if_neg h1]
    by_cases h2 : s = nH
    · rw [if_pos h2]
      exact ⟨by rw [h2]; rfl, by decide +kernel⟩
    · rw [if_neg h2] at h
      rw [if_neg h2, if_pos h]
      refine ⟨?_, h⟩
      unfold textB
      have := (pcs_len s).1
      rw [if_neg (by omega)]
      unfold pcs
      rw [map_list]
      unfold pieces
      rw [join_cut]
      exact mk_data s

end Go.Proofs.YtcgnhkpclpecgaaDoor
