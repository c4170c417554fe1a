/-
  The document's wheel as a list, in plain mathematics: what its loops build, item by item; its row by deadlines, the first taken out. No conditions.
-/
import Derived.Test.YtahdeliopmkpmaaNextP
namespace Go.Proofs.Ytahdeliopmkpmaa

def nthR (R : List (Int × Int)) (i : Nat) : Int × Int := R.getD i (0, 0)
def fs (R : List (Int × Int)) : List Int := R.map (fun x => x.1)
def sn (R : List (Int × Int)) : List Int := R.map (fun x => x.2)

theorem fs_getD (R : List (Int × Int)) (i : Nat) : (fs R).getD i 0 = (nthR R i).1 := by
  unfold fs nthR
  rw [List.getD_eq_getElem?_getD, List.getD_eq_getElem?_getD, List.getElem?_map]
  cases R[i]? <;> rfl
theorem sn_getD (R : List (Int × Int)) (i : Nat) : (sn R).getD i 0 = (nthR R i).2 := by
  unfold sn nthR
  rw [List.getD_eq_getElem?_getD, List.getD_eq_getElem?_getD, List.getElem?_map]
  cases R[i]? <;> rfl
theorem fs_length (R : List (Int × Int)) : (fs R).length = R.length := by simp [fs]
theorem sn_length (R : List (Int × Int)) : (sn R).length = R.length := by simp [sn]
theorem fs_append (R S : List (Int × Int)) : fs (R ++ S) = fs R ++ fs S := by simp [fs]
theorem sn_append (R S : List (Int × Int)) : sn (R ++ S) = sn R ++ sn S := by simp [sn]

theorem nthR_eq {R : List (Int × Int)} {i : Nat} (h : i < R.length) : nthR R i = R[i] := by
  unfold nthR
  simp [List.getD, h]
theorem nthR_mem {R : List (Int × Int)} {i : Nat} (h : i < R.length) : nthR R i ∈ R := by rw [nthR_eq h]; exact List.getElem_mem h
theorem mem_nthR {R : List (Int × Int)} {x : Int × Int} (h : x ∈ R) : ∃ i, i < R.length ∧ nthR R i = x := by
  obtain ⟨i, hi, e⟩ := List.mem_iff_getElem.1 h
  exact ⟨i, hi, by rw [nthR_eq hi, e]⟩
theorem take_nth {R : List (Int × Int)} {i : Nat} (h : i < R.length) : R.take (i + 1) = R.take i ++ [nthR R i] := by
  rw [List.take_succ_eq_append_getElem h, nthR_eq h]

theorem ris_nth {R : List (Int × Int)} (h : Ris R) {i j : Nat} (hij : i < j) (hj : j < R.length) : (nthR R i).1 < (nthR R j).1 := by
  rw [nthR_eq hj, nthR_eq (by omega)]
  exact List.pairwise_iff_getElem.1 h i j (by omega) hj hij
theorem ris_one {R : List (Int × Int)} (h : Ris R) {i j : Nat} (hi : i < R.length) (hj : j < R.length) (e : (nthR R i).1 = (nthR R j).1) : i = j := by
  rcases Nat.lt_trichotomy i j with h1 | h1 | h1
  · have := ris_nth h h1 hj; omega
  · exact h1
  · have := ris_nth h h1 hi; omega

theorem hasR_nth {R : List (Int × Int)} {k : Int} (h : hasR R k = true) : ∃ i, i < R.length ∧ (nthR R i).1 = k := by
  obtain ⟨a, ha⟩ := hasR_iff.1 h
  obtain ⟨i, hi, e⟩ := mem_nthR ha
  exact ⟨i, hi, by rw [e]⟩
theorem getR_nth {R : List (Int × Int)} (h : Ris R) {i : Nat} (hi : i < R.length) : getR R (nthR R i).1 = (nthR R i).2 := getR_mem h (nthR_mem hi)

theorem del_hit {R : List (Int × Int)} {i : Nat} {k : Int} (h : i < R.length) (e : (nthR R i).1 = k) : delR (R.take (i + 1)) k = delR (R.take i) k := by
  rw [take_nth h]
  unfold delR
  rw [List.filter_append, List.filter_cons_of_neg (by simp [e])]
  simp
theorem del_miss {R : List (Int × Int)} {i : Nat} {k : Int} (h : i < R.length) (e : (nthR R i).1 ≠ k) : delR (R.take (i + 1)) k = delR (R.take i) k ++ [nthR R i] := by
  rw [take_nth h]
  unfold delR
  rw [List.filter_append, List.filter_cons_of_pos (by simpa using e)]
  simp
theorem due_hit {R : List (Int × Int)} {i : Nat} {n : Int} (h : i < R.length) (e : past n (nthR R i).2 = true) : dueR (R.take (i + 1)) n = dueR (R.take i) n ++ [nthR R i] ∧ restR (R.take (i + 1)) n = restR (R.take i) n := by
  rw [take_nth h]
  unfold dueR restR
  constructor <;> simp [List.filter_append, e]
theorem due_miss {R : List (Int × Int)} {i : Nat} {n : Int} (h : i < R.length) (e : past n (nthR R i).2 = false) : dueR (R.take (i + 1)) n = dueR (R.take i) n ∧ restR (R.take (i + 1)) n = restR (R.take i) n ++ [nthR R i] := by
  rw [take_nth h]
  unfold dueR restR
  constructor <;> simp [List.filter_append, e]
theorem delR_length (R : List (Int × Int)) (k : Int) : (delR R k).length ≤ R.length := List.length_filter_le _ _
theorem restR_length (R : List (Int × Int)) (n : Int) : (restR R n).length ≤ R.length := List.length_filter_le _ _
theorem dueR_length (R : List (Int × Int)) (n : Int) : (dueR R n).length ≤ R.length := List.length_filter_le _ _
theorem insR_length (R : List (Int × Int)) (k a : Int) : (insR R k a).length = R.length + 1 := by rw [(insR_perm R k a).length_eq]; simp
theorem setR_length (R : List (Int × Int)) (k a : Int) : (setR R k a).length ≤ R.length + 1 := by
  unfold setR
  rw [insR_length]
  have := delR_length R k
  omega
theorem delR_none {R : List (Int × Int)} {k : Int} (h : hasR R k = false) : delR R k = R := List.filter_eq_self.2 (fun x hx => by simpa using hasR_not.1 h x hx)

/-- Behind keys that are not above. -/
theorem insR_app {k a : Int} : ∀ {T S : List (Int × Int)}, (∀ x ∈ T, ¬ k < x.1) → insR (T ++ S) k a = T ++ insR S k a
  | [], _, _ => rfl
  | x :: r, S, h => by
    have h1 := h x (by simp)
    have e1 : insR (x :: (r ++ S)) k a = x :: insR (r ++ S) k a := by rw [insR, if_neg h1]
    show insR (x :: (r ++ S)) k a = x :: (r ++ insR S k a)
    rw [e1, insR_app (fun y hy => h y (by simp [hy]))]
/-- Ahead of a key that is above. -/
theorem insR_any {k a : Int} : ∀ {T S : List (Int × Int)}, (∃ x ∈ T, k < x.1) → insR (T ++ S) k a = insR T k a ++ S
  | [], _, h => by obtain ⟨x, hx, _⟩ := h; simp at hx
  | x :: r, S, h => by
    by_cases h1 : k < x.1
    · show insR (x :: (r ++ S)) k a = insR (x :: r) k a ++ S
      unfold insR
      rw [if_pos h1, if_pos h1]
      rfl
    · have h2 : ∃ y ∈ r, k < y.1 := by
        obtain ⟨y, hy, hlt⟩ := h
        rcases List.mem_cons.1 hy with rfl | hy
        · exact absurd hlt h1
        · exact ⟨y, hy, hlt⟩
      show insR (x :: (r ++ S)) k a = insR (x :: r) k a ++ S
      unfold insR
      rw [if_neg h1, if_neg h1, insR_any h2]
      rfl

/-- What Set's loop has built behind i items. -/
def insB (R : List (Int × Int)) (k a : Int) (i : Nat) (d : Bool) : List (Int × Int) := if d then insR (R.take i) k a else R.take i
def InsD (R : List (Int × Int)) (k : Int) (i : Nat) (d : Bool) : Prop := if d then ∃ x ∈ R.take i, k < x.1 else ∀ x ∈ R.take i, ¬ k < x.1
theorem ins_zero (R : List (Int × Int)) (k a : Int) : insB R k a 0 false = [] ∧ InsD R k 0 false := ⟨by simp [insB], by simp [InsD]⟩
theorem ins_done {R : List (Int × Int)} {k a : Int} {i : Nat} (hi : i < R.length) (h : InsD R k i true) : insB R k a (i + 1) true = insB R k a i true ++ [nthR R i] ∧ InsD R k (i + 1) true := by
  unfold InsD insB at *
  simp only [if_true] at *
  rw [take_nth hi]
  refine ⟨insR_any h, ?_⟩
  obtain ⟨x, hx, hlt⟩ := h
  exact ⟨x, by simp [hx], hlt⟩
theorem ins_pass {R : List (Int × Int)} {k a : Int} {i : Nat} (hi : i < R.length) (h : InsD R k i false) (hn : ¬ k < (nthR R i).1) : insB R k a (i + 1) false = insB R k a i false ++ [nthR R i] ∧ InsD R k (i + 1) false := by
  unfold InsD insB at *
  simp only [Bool.false_eq_true, if_false] at *
  rw [take_nth hi]
  refine ⟨rfl, fun x hx => ?_⟩
  rcases List.mem_append.1 hx with hx | hx
  · exact h x hx
  · simp at hx; rw [hx]; exact hn
theorem ins_put {R : List (Int × Int)} {k a : Int} {i : Nat} (hi : i < R.length) (h : InsD R k i false) (hn : k < (nthR R i).1) : insB R k a (i + 1) true = insB R k a i false ++ [(k, a)] ++ [nthR R i] ∧ InsD R k (i + 1) true := by
  unfold InsD insB at *
  simp only [Bool.false_eq_true, if_false, if_true] at *
  rw [take_nth hi]
  refine ⟨?_, ⟨nthR R i, by simp, hn⟩⟩
  rw [insR_app h]
  unfold insR
  rw [if_pos hn]
  simp
theorem ins_end {R : List (Int × Int)} {k a : Int} (h : InsD R k R.length false) : insR R k a = insB R k a R.length false ++ [(k, a)] := by
  unfold InsD insB at *
  simp only [Bool.false_eq_true, if_false, List.take_length] at *
  have := insR_app (a := a) (S := []) h
  rw [List.append_nil] at this
  rw [this]
  rfl
theorem ins_end' (R : List (Int × Int)) (k a : Int) : insB R k a R.length true = insR R k a := by simp [insB]
theorem insB_length (R : List (Int × Int)) (k a : Int) (i : Nat) (d : Bool) : (insB R k a i d).length ≤ i + 1 := by
  unfold insB
  split
  · rw [insR_length, List.length_take]; omega
  · rw [List.length_take]; omega

/-- The first of the least deadlines is the first of the row. -/
theorem keys_first {R : List (Int × Int)} (h : Ris R) {m : Nat} (hm : m < R.length) (hle : ∀ j, j < R.length → (nthR R m).2 ≤ (nthR R j).2) (hf : ∀ j, j < m → (nthR R m).2 < (nthR R j).2) :
    keysR R = (nthR R m).1 :: keysR (delR R (nthR R m).1) := by
  have hp : (nthR R m :: delR R (nthR R m).1).Perm R := by
    have h1 : R.Perm (nthR R m :: (R.take m ++ R.drop (m + 1))) := by
      have e : R = R.take m ++ nthR R m :: R.drop (m + 1) := by
        rw [nthR_eq hm, ← List.drop_eq_getElem_cons hm, List.take_append_drop]
      conv => lhs; rw [e]
      exact List.perm_middle
    have h2 : ∀ x ∈ R.take m ++ R.drop (m + 1), x.1 ≠ (nthR R m).1 := by
      intro x hx e
      have hnd : R.Nodup := h.imp (fun hlt e => by rw [e] at hlt; omega)
      have hx2 := h1.mem_iff.2 (List.mem_cons_of_mem _ hx)
      have := ris_uniq h hx2 (nthR_mem hm) e
      subst this
      have hn := h1.nodup_iff.1 hnd
      exact (List.nodup_cons.1 hn).1 hx
    have h3 := del_of (k := (nthR R m).1) (a := (nthR R m).2) h1.symm h2
    exact (h3.symm.cons _).trans h1.symm
  have hs : (nthR R m :: ordR (delR R (nthR R m).1)).Pairwise (fun x y => leK x y = true) := by
    refine List.pairwise_cons.2 ⟨fun y hy => ?_, ordR_sorted _⟩
    have hy2 := (List.mem_filter.1 ((ordR_perm _).mem_iff.1 hy)).1
    obtain ⟨j, hj, rfl⟩ := mem_nthR hy2
    unfold leK
    simp only [decide_eq_true_eq]
    have h1 := hle j hj
    rcases Nat.lt_trichotomy j m with h2 | h2 | h2
    · have := hf j h2; omega
    · subst h2; omega
    · have := ris_nth h h2 hj; omega
  have := ordR_uniq (((ordR_perm (delR R (nthR R m).1)).cons (nthR R m)).trans hp) hs
  unfold keysR
  rw [this]
  rfl
theorem keysR_nil : keysR [] = [] := by unfold keysR ordR; simp
theorem delR_fewer {R : List (Int × Int)} {i : Nat} (h : i < R.length) : (delR R (nthR R i).1).length < R.length := by
  refine Nat.lt_of_le_of_ne (delR_length _ _) (fun e => ?_)
  have h1 := List.length_filter_eq_length_iff.1 e (nthR R i) (nthR_mem h)
  simp at h1

end Go.Proofs.Ytahdeliopmkpmaa
