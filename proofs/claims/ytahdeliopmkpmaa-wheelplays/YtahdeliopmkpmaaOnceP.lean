/-
  Who is left behind a tick, in plain mathematics: of numbered deadlines those above the tick. No conditions.
-/
import Derived.Test.YtahdeliopmkpmaaNextP
namespace Go.Proofs.Ytahdeliopmkpmaa

/-- The numbers whose deadline is above last, with it. -/
def remR (os : List Int) (last : Int) : List (Int × Int) := ((List.range os.length).map (fun j : Nat => ((j : Int), os.getD j 0))).filter (fun x => decide (last < x.2))

/-- Their numbers, below j, that are due at now. -/
def cnt (os : List Int) (last now : Int) (j : Nat) : List Nat := (List.range j).filter (fun i => decide (last < os.getD i 0) && decide (os.getD i 0 ≤ now))

theorem range_succ_filter (q : Nat → Bool) (j : Nat) : (List.range (j + 1)).filter q = (List.range j).filter q ++ (if q j then [j] else []) := by
  rw [List.range_succ, List.filter_append]
  congr 1
  by_cases h : q j = true
  · simp [h]
  · simp [h]

theorem cnt_succ (os : List Int) (last now : Int) (j : Nat) : cnt os last now (j + 1) = cnt os last now j ++ (if (decide (last < os.getD j 0) && decide (os.getD j 0 ≤ now)) then [j] else []) := range_succ_filter _ j

/-- What is below j is ahead. -/
theorem cnt_ahead (os : List Int) (last now : Int) (j : Nat) : ∀ d : Nat, ∃ r, cnt os last now (j + d) = cnt os last now j ++ r
  | 0 => ⟨[], by simp⟩
  | d + 1 => by
    obtain ⟨r, hr⟩ := cnt_ahead os last now j d
    rw [← Nat.add_assoc, cnt_succ, hr, List.append_assoc]
    exact ⟨_, rfl⟩

theorem cnt_at {os : List Int} {last now : Int} {j n : Nat} (hj : j < n) (hq : (decide (last < os.getD j 0) && decide (os.getD j 0 ≤ now)) = true) :
    (cnt os last now j).length < (cnt os last now n).length ∧ (cnt os last now n).getD (cnt os last now j).length 0 = j := by
  obtain ⟨d, rfl⟩ : ∃ d, n = j + 1 + d := ⟨n - j - 1, by omega⟩
  obtain ⟨r, hr⟩ := cnt_ahead os last now (j + 1) d
  rw [hr, cnt_succ, if_pos hq]
  constructor
  · simp
  · simp [List.getD_eq_getElem?_getD]

theorem remR_due {os : List Int} {last now : Int} (h99 : ∀ x ∈ os, x ≤ 99) (hl : -1 ≤ last) (h0 : 0 ≤ now) (h1 : now ≤ 1000) :
    (dueR (remR os last) now).map (fun x => x.1) = (cnt os last now os.length).map (fun j : Nat => (j : Int)) := by
  unfold dueR remR cnt
  rw [List.filter_filter, List.filter_map, List.map_map]
  have e : ∀ j ∈ List.range os.length, (((fun x : Int × Int => past now x.2 && decide (last < x.2)) ∘ fun j : Nat => ((j : Int), os.getD j 0)) j) = (decide (last < os.getD j 0) && decide (os.getD j 0 ≤ now)) := by
    intro j hj
    simp only [List.mem_range] at hj
    simp only [Function.comp]
    by_cases h : last < os.getD j 0
    · have hx : os.getD j 0 ≤ 99 := by
        refine h99 _ ?_
        rw [List.getD_eq_getElem?_getD, List.getElem?_eq_getElem hj]
        exact List.getElem_mem hj
      rw [past_tick h0 (by omega) (by omega) (by omega), Bool.and_comm]
    · rw [decide_eq_false h, Bool.and_false, Bool.false_and]
  rw [List.filter_congr e]
  rfl

theorem remR_due_len {os : List Int} {last now : Int} (h99 : ∀ x ∈ os, x ≤ 99) (hl : -1 ≤ last) (h0 : 0 ≤ now) (h1 : now ≤ 1000) :
    (dueR (remR os last) now).length = (cnt os last now os.length).length := by
  have := congrArg List.length (remR_due h99 hl h0 h1)
  simpa using this

theorem remR_val {os : List Int} {last : Int} {x : Int × Int} (h : x ∈ remR os last) : x.2 ∈ os ∧ last < x.2 := by
  obtain ⟨h1, h2⟩ := List.mem_filter.1 h
  obtain ⟨j, hj, rfl⟩ := List.mem_map.1 h1
  simp only [List.mem_range] at hj
  refine ⟨?_, by simpa using h2⟩
  show os.getD j 0 ∈ os
  rw [List.getD_eq_getElem?_getD, List.getElem?_eq_getElem hj]
  exact List.getElem_mem hj

theorem remR_rest {os : List Int} {last now : Int} (h99 : ∀ x ∈ os, x ≤ 99) (hl : -1 ≤ last) (h0 : 0 ≤ now) (h1 : now ≤ 1000) (hc : last ≤ now ∨ (99 ≤ now ∧ 99 ≤ last)) : restR (remR os last) now = remR os now := by
  rcases hc with hc | ⟨hc1, hc2⟩
  · unfold restR
    unfold remR
    rw [List.filter_filter]
    refine List.filter_congr (fun x hx => ?_)
    obtain ⟨j, hj, rfl⟩ := List.mem_map.1 hx
    simp only [List.mem_range] at hj
    by_cases h : last < os.getD j 0
    · have hx : os.getD j 0 ≤ 99 := by
        refine h99 _ ?_
        rw [List.getD_eq_getElem?_getD, List.getElem?_eq_getElem hj]
        exact List.getElem_mem hj
      show (!past now (os.getD j 0) && decide (last < os.getD j 0)) = decide (now < os.getD j 0)
      rw [past_tick h0 (by omega) (by omega) (by omega)]
      rw [decide_eq_true h, Bool.and_true]
      by_cases h2 : os.getD j 0 ≤ now
      · rw [decide_eq_true h2, decide_eq_false (by omega)]; rfl
      · rw [decide_eq_false h2, decide_eq_true (by omega)]; rfl
    · show (!past now (os.getD j 0) && decide (last < os.getD j 0)) = decide (now < os.getD j 0)
      rw [decide_eq_false h, Bool.and_false, decide_eq_false (by omega)]
  · have e1 : remR os now = [] := List.filter_eq_nil_iff.2 (fun x hx => by
      have hm : x ∈ remR os now ∨ ¬ (now < x.2) := by
        by_cases h : now < x.2
        · exact .inl (List.mem_filter.2 ⟨hx, by simpa using h⟩)
        · exact .inr h
      rcases hm with hm | hm
      · have := h99 _ (remR_val hm).1
        have := (remR_val hm).2
        omega
      · simpa using hm)
    have e2 : remR os last = [] := List.filter_eq_nil_iff.2 (fun x hx => by
      have hm : x ∈ remR os last ∨ ¬ (last < x.2) := by
        by_cases h : last < x.2
        · exact .inl (List.mem_filter.2 ⟨hx, by simpa using h⟩)
        · exact .inr h
      rcases hm with hm | hm
      · have := h99 _ (remR_val hm).1
        have := (remR_val hm).2
        omega
      · simpa using hm)
    rw [e1, e2]
    rfl

theorem remR_none {os : List Int} {last : Int} (h99 : ∀ x ∈ os, x ≤ 99) (h : 99 ≤ last) : remR os last = [] := by
  cases hr : remR os last with
  | nil => rfl
  | cons x r =>
    have hm : x ∈ remR os last := by rw [hr]; simp
    have := h99 _ (remR_val hm).1
    have := (remR_val hm).2
    omega

theorem insR_last : ∀ (R : List (Int × Int)) (k a : Int), (∀ x ∈ R, x.1 < k) → insR R k a = R ++ [(k, a)]
  | [], _, _, _ => rfl
  | x :: r, k, a, h => by
    unfold insR
    rw [if_neg (by have := h x (by simp); omega), insR_last r k a (fun y hy => h y (by simp [hy]))]
    rfl

theorem remR_key {os : List Int} {last : Int} {x : Int × Int} (h : x ∈ remR os last) : ∃ j : Nat, j < os.length ∧ x = ((j : Int), os.getD j 0) := by
  obtain ⟨h1, _⟩ := List.mem_filter.1 h
  obtain ⟨j, hj, rfl⟩ := List.mem_map.1 h1
  exact ⟨j, by simpa using hj, rfl⟩

theorem remR_set {os : List Int} {x : Int} (h0 : 0 ≤ x) : setR (remR os (-1)) (os.length : Int) x = remR (os ++ [x]) (-1) ∧ hasR (remR os (-1)) (os.length : Int) = false := by
  have hlt : ∀ y ∈ remR os (-1), y.1 < (os.length : Int) := fun y hy => by
    obtain ⟨j, hj, rfl⟩ := remR_key hy
    show (j : Int) < _
    omega
  have hh : hasR (remR os (-1)) (os.length : Int) = false := hasR_not.2 (fun y hy => by have := hlt y hy; omega)
  have hd : delR (remR os (-1)) (os.length : Int) = remR os (-1) := List.filter_eq_self.2 (fun y hy => by have := hlt y hy; simp; omega)
  refine ⟨?_, hh⟩
  unfold setR
  rw [hd, insR_last _ _ _ hlt]
  unfold remR
  rw [List.length_append, List.length_singleton, List.range_succ, List.map_append, List.filter_append]
  congr 1
  · congr 1
    refine List.map_congr_left (fun j hj => ?_)
    simp only [List.mem_range] at hj
    simp [List.getD_eq_getElem?_getD, List.getElem?_append_left hj]
  · have e : (os ++ [x]).getD os.length 0 = x := by simp [List.getD_eq_getElem?_getD]
    rw [List.map_singleton, e, List.filter_cons_of_pos (by simp only [decide_eq_true_eq]; omega)]
    rfl

theorem remR_del {os : List Int} {i : Nat} (hi : i < os.length) (h0 : 0 ≤ os.getD i 0) : delR (remR os (-1)) (i : Int) = remR (os.set i (-1)) (-1) ∧ hasR (remR os (-1)) (i : Int) = true := by
  constructor
  · unfold delR remR
    rw [List.filter_filter, List.length_set, List.filter_map, List.filter_map]
    have e1 : ∀ j ∈ List.range os.length, ((fun x : Int × Int => !(x.1 == (i : Int)) && decide (-1 < x.2)) ∘ fun j : Nat => ((j : Int), os.getD j 0)) j = ((fun x : Int × Int => decide (-1 < x.2)) ∘ fun j : Nat => ((j : Int), (os.set i (-1)).getD j 0)) j := by
      intro j hj
      simp only [List.mem_range] at hj
      simp only [Function.comp, List.getD_eq_getElem?_getD, List.getElem?_set]
      by_cases h : i = j
      · subst h; simp [hj]
      · have h' : ((j : Int) == (i : Int)) = false := by rw [beq_eq_false_iff_ne]; omega
        simp [h, h']
    rw [List.filter_congr e1]
    refine List.map_congr_left (fun j hj => ?_)
    obtain ⟨hj1, hj2⟩ := List.mem_filter.1 hj
    have hne : i ≠ j := fun e => by
      subst e
      simp only [List.mem_range] at hj1
      simp [List.getD_eq_getElem?_getD, hj1] at hj2
    simp [List.getD_eq_getElem?_getD, hne]
  · refine hasR_iff.2 ⟨os.getD i 0, List.mem_filter.2 ⟨List.mem_map.2 ⟨i, by simpa using hi, rfl⟩, by simp only [decide_eq_true_eq]; omega⟩⟩

end Go.Proofs.Ytahdeliopmkpmaa
