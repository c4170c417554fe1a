/-
  Plain functions on lists: where an id stands; waiters as two cells each; who is taken out.
-/
import Derived.Test.YtcndgcfdopjjfaaBase
namespace Go.Proofs.Ytcndgcfdopjjfaa
open Go.ChangeShapes Go.WideShapes Go.ChangeAt Go.RowKit

/-- The first place of x in l; its length, if it isn't there. -/
def fidx (x : Int) : List Int → Nat
  | [] => 0
  | y :: l => if y = x then 0 else fidx x l + 1

theorem fidx_le (x : Int) : ∀ l, fidx x l ≤ l.length
  | [] => Nat.le_refl _
  | y :: l => by
    unfold fidx
    split
    · omega
    · have := fidx_le x l
      simp
      omega
theorem fidx_lt (x : Int) : ∀ l j, j < fidx x l → l.getD j 0 ≠ x
  | [], j, h => by simp [fidx] at h
  | y :: l, j, h => by
    unfold fidx at h
    split at h
    · omega
    · rename_i hy
      cases j with
      | zero => simpa using hy
      | succ j => simpa using fidx_lt x l j (by omega)
theorem fidx_at (x : Int) : ∀ l, fidx x l < l.length → l.getD (fidx x l) 0 = x
  | [], h => by simp at h
  | y :: l, h => by
    unfold fidx at h ⊢
    split
    · rename_i hy; simpa using hy
    · rename_i hy
      rw [if_neg hy] at h
      simpa using fidx_at x l (by simpa using h)
theorem fidx_mem (x : Int) : ∀ l, fidx x l < l.length ↔ x ∈ l
  | [] => by simp [fidx]
  | y :: l => by
    unfold fidx
    by_cases hy : y = x
    · simp [hy]
    · rw [if_neg hy]
      have := fidx_mem x l
      simp [this]
      intro h
      exact absurd h.symm hy

/-- The place of x in l; -1, if it isn't there. -/
def plc (x : Int) (l : List Int) : Int := if fidx x l < l.length then fidx x l else -1
theorem plc_mem {x : Int} {l : List Int} (h : x ∈ l) : plc x l = fidx x l := if_pos ((fidx_mem x l).2 h)
theorem plc_not {x : Int} {l : List Int} (h : x ∉ l) : plc x l = -1 := if_neg (fun h' => h ((fidx_mem x l).1 h'))
theorem plc_nil (x : Int) : plc x [] = -1 := rfl
theorem plc_ge {x : Int} {l : List Int} : 0 ≤ plc x l ↔ x ∈ l := by
  by_cases h : x ∈ l
  · rw [plc_mem h]; simp [h]
  · rw [plc_not h]; simp [h]
theorem plc_eq {x : Int} {l : List Int} : plc x l = -1 ↔ x ∉ l := by
  by_cases h : x ∈ l
  · rw [plc_mem h]; simp [h]
  · rw [plc_not h]; simp [h]

/-- One that waits: its id, and when it came. -/
abbrev Wt := Int × Int
def nthW (l : List Wt) (i : Nat) : Wt := l.getD i (0, 0)
theorem nthW_eq {l : List Wt} {i : Nat} (h : i < l.length) : nthW l i = l[i] := by simp [nthW, List.getD, h]
theorem nthW_get? {l : List Wt} {i : Nat} (h : i < l.length) : l[i]? = some (nthW l i) := by rw [List.getElem?_eq_getElem h, nthW_eq h]
theorem ids_getD (l : List Wt) (i : Nat) : (l.map Prod.fst).getD i 0 = (nthW l i).1 := by
  simp only [nthW, List.getD, List.getElem?_map]
  cases l[i]? <;> rfl
theorem ats_getD (l : List Wt) (i : Nat) : (l.map Prod.snd).getD i 0 = (nthW l i).2 := by
  simp only [nthW, List.getD, List.getElem?_map]
  cases l[i]? <;> rfl
theorem nthW_take {l : List Wt} {n i : Nat} (h : i < n) : nthW (l.take n) i = nthW l i := by simp [nthW, List.getD, h]

/-- As cells. -/
def flat : List Wt → List Value
  | [] => []
  | p :: l => .int .i64 p.1 :: .int .i64 p.2 :: flat l
theorem flat_length : ∀ l, (flat l).length = l.length * 2
  | [] => rfl
  | p :: l => by
    have := flat_length l
    simp [flat, this]
    omega
theorem flat_append : ∀ l m, flat (l ++ m) = flat l ++ flat m
  | [], _ => rfl
  | p :: l, m => by simp [flat, flat_append l m]
theorem flat_get : ∀ l i, i < l.length → (flat l)[i * 2]? = some (.int .i64 (nthW l i).1) ∧ (flat l)[i * 2 + 1]? = some (.int .i64 (nthW l i).2)
  | [], i, h => by simp at h
  | p :: l, 0, h => by simp [flat, nthW]
  | p :: l, i + 1, h => by
    have := flat_get l i (by simpa using h)
    have e1 : (i + 1) * 2 = i * 2 + 1 + 1 := by omega
    rw [e1]
    simpa [flat, nthW] using this
theorem flat_set : ∀ (l : List Wt) (i : Nat) (p : Wt), flat (l.set i p) = ((flat l).set (i * 2) (.int .i64 p.1)).set (i * 2 + 1) (.int .i64 p.2)
  | [], i, p => by simp [flat]
  | q :: l, 0, p => by simp [flat]
  | q :: l, i + 1, p => by
    have e1 : (i + 1) * 2 = i * 2 + 1 + 1 := by omega
    rw [e1]
    simp [flat, flat_set l i p]
theorem flat_one : ∀ l, ∀ u ∈ flat l, u.oneCell' = true
  | [], u, h => by simp [flat] at h
  | p :: l, u, h => by
    simp [flat] at h
    rcases h with rfl | rfl | h
    · rfl
    · rfl
    · exact flat_one l u h
theorem flat_zero : ∀ n, flat (List.replicate n (0, 0)) = (List.replicate n [Value.int .i64 0, .int .i64 0]).flatten
  | 0 => rfl
  | n + 1 => by simp [List.replicate_succ, flat, flat_zero n]

/-- Those whose id is none of those. -/
def without (ids : List Int) (l : List Wt) : List Wt := l.filter (fun p => !ids.contains p.1)
theorem without_len (ids : List Int) (l : List Wt) : (without ids l).length ≤ l.length := List.length_filter_le _ _
theorem without_snoc (ids : List Int) (l : List Wt) (p : Wt) : without ids (l ++ [p]) = without ids l ++ (if ids.contains p.1 then [] else [p]) := by
  unfold without
  rw [List.filter_append]
  by_cases h : p.1 ∈ ids <;> simp [h]

end Go.Proofs.Ytcndgcfdopjjfaa
