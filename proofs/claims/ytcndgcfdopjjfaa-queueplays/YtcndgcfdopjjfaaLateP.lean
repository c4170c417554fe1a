/-
  Who came too long ago, if ticks don't fall: those that are told came ahead of the others. Conditions: ticks from 0 to 1000.
-/
import Derived.Test.YtcndgcfdopjjfaaRowW
namespace Go.Proofs.Ytcndgcfdopjjfaa
open Go.ChangeShapes Go.WideShapes Go.ChangeAt Go.RowKit

theorem filter_prefix {α : Type} (p : α → Bool) : ∀ (l : List α) (D : Nat), (∀ j x, l[j]? = some x → p x = decide (j < D)) → l.filter p = l.take D ∧ l.filter (fun x => !p x) = l.drop D
  | [], D, _ => by simp
  | x :: l, 0, h => by
    have ih := filter_prefix p l 0 (fun j y hy => by have := h (j + 1) y (by simpa using hy); simpa using this)
    have h0 := h 0 x rfl
    simp at h0
    simp [h0]
    simpa using ih
  | x :: l, D + 1, h => by
    have ih := filter_prefix p l D (fun j y hy => by have := h (j + 1) y (by simpa using hy); simpa using this)
    have h0 := h 0 x rfl
    simp at h0
    simp [h0]
    simpa using ih

theorem idsI_take {D k : Nat} (h : D ≤ k) : (idsI 0 k).take D = idsI 0 D := by
  obtain ⟨e, rfl⟩ : ∃ e, k = D + e := ⟨k - D, by omega⟩
  clear h
  induction e with
  | zero => exact List.take_of_length_le (by rw [idsI_len]; omega)
  | succ e ih =>
    rw [← Nat.add_assoc, idsI_push (Nat.zero_le _), List.take_append_of_le_length (by rw [idsI_len]; omega)]
    exact ih
theorem idsI_drop (D k : Nat) : (idsI 0 k).drop D = idsI D k := by
  unfold idsI
  rw [← List.map_drop, Nat.sub_zero, List.drop_range']
  simp
theorem idsI_getD {o n j : Nat} (h : j < n - o) : (idsI o n).getD j 0 = ((o + j : Nat) : Int) := by
  unfold idsI
  simp [List.getD, h]
theorem idsI_has {o n j : Nat} (h1 : o ≤ j) (h2 : j < n) : ((j : Nat) : Int) ∈ idsI o n := by
  unfold idsI
  exact List.mem_map.2 ⟨j, List.mem_range'_1.2 ⟨h1, by omega⟩, rfl⟩
theorem idsI_plc {o n j : Nat} (h1 : o ≤ j) (h2 : j < n) : plc (j : Int) (idsI o n) = (j : Int) - o := by
  have hm := idsI_has h1 h2
  have hf := (fidx_mem _ _).2 hm
  have := fidx_at _ _ hf
  rw [idsI_len] at hf
  rw [idsI_getD hf] at this
  rw [plc_mem hm]
  omega

/-- How many came too long ago, if ticks don't fall. -/
theorem late_prefix (T : List Int) (Y wt : Int) (hs : ∀ i j, i ≤ j → j < T.length → T.getD i 0 ≤ T.getD j 0) : ∃ D, D ≤ T.length ∧ ∀ j, j < T.length → (T.getD j 0 + wt ≤ Y ↔ j < D) := by
  induction T with
  | nil => exact ⟨0, Nat.le_refl _, fun j hj => by simp at hj⟩
  | cons t T ih =>
    obtain ⟨D, hD, hiff⟩ := ih (fun i j hij hj => by
      have := hs (i + 1) (j + 1) (by omega) (by simpa using hj)
      simpa using this)
    by_cases h0 : t + wt ≤ Y
    · refine ⟨D + 1, by simpa using hD, fun j hj => ?_⟩
      cases j with
      | zero => simpa using h0
      | succ j => simpa using hiff j (by simpa using hj)
    · refine ⟨0, Nat.zero_le _, fun j hj => ?_⟩
      have := hs 0 j (Nat.zero_le _) hj
      rw [show (t :: T).getD 0 0 = t from rfl] at this
      omega

theorem late_iff {Y wt : Int} {p : Wt} (h0 : 0 ≤ p.2) (h1 : p.2 ≤ 1000) (h2 : 0 ≤ wt) (h3 : wt ≤ 1000) (h4 : 0 ≤ Y) (h5 : Y ≤ 1000) : lateB Y wt p = decide (p.2 + wt ≤ Y) := by
  unfold lateB past add
  rw [cut_mid h0 (by omega), cut_mid h2 (by omega), cut_cut, cut_mid (n := p.2 + wt) (by omega) (by omega), cut_mid h4 (by omega)]

/-- Who is told, and who is left. -/
theorem late_split {L : List Wt} {T : List Int} {Y wt : Int} {D : Nat} (hi : L.map Prod.fst = idsI 0 T.length) (hT : L.map Prod.snd = T) (hlo : ∀ j, j < T.length → 0 ≤ T.getD j 0) (hhi : ∀ j, j < T.length → T.getD j 0 ≤ 1000) (h2 : 0 ≤ wt) (h3 : wt ≤ 1000) (h4 : 0 ≤ Y) (h5 : Y ≤ 1000)
    (hD : D ≤ T.length) (hiff : ∀ j, j < T.length → (T.getD j 0 + wt ≤ Y ↔ j < D)) :
    lates Y wt L = idsI 0 D ∧ (without (idsI 0 D) L).map Prod.fst = idsI D T.length ∧ lates Y wt (without (idsI 0 D) L) = [] := by
  have hlen : L.length = T.length := by rw [← hT, List.length_map]
  have hget : ∀ j x, L[j]? = some x → j < T.length ∧ x.1 = ((j : Nat) : Int) ∧ x.2 = T.getD j 0 := by
    intro j x hx
    have hj := (List.getElem?_eq_some_iff.1 hx).1
    have e1 : (L.map Prod.fst)[j]? = some x.1 := by rw [List.getElem?_map, hx]; rfl
    have e2 : (L.map Prod.snd)[j]? = some x.2 := by rw [List.getElem?_map, hx]; rfl
    rw [hi] at e1
    rw [hT] at e2
    refine ⟨by omega, ?_, by rw [List.getD, e2]; rfl⟩
    have := idsI_getD (o := 0) (n := T.length) (j := j) (by omega)
    rw [List.getD, e1] at this
    simpa using this
  have hlate : ∀ j x, L[j]? = some x → lateB Y wt x = decide (j < D) := by
    intro j x hx
    obtain ⟨hj, _, e2⟩ := hget j x hx
    have a1 := hlo j hj
    have a2 := hhi j hj
    rw [← e2] at a1 a2
    rw [late_iff a1 a2 h2 h3 h4 h5, e2, decide_eq_decide]
    exact hiff j hj
  have hin : ∀ j x, L[j]? = some x → (idsI 0 D).contains x.1 = decide (j < D) := by
    intro j x hx
    obtain ⟨hj, e1, _⟩ := hget j x hx
    rw [e1]
    by_cases h : j < D
    · simp [h]
      exact idsI_has (Nat.zero_le _) h
    · have : ((j : Nat) : Int) ∉ idsI 0 D := fun h' => by have := idsI_mem h'; omega
      simp [h, this]
  obtain ⟨p1, p2⟩ := filter_prefix (lateB Y wt) L D hlate
  obtain ⟨_, p4⟩ := filter_prefix (fun x => (idsI 0 D).contains x.1) L D hin
  have hw : without (idsI 0 D) L = L.drop D := p4
  refine ⟨?_, ?_, ?_⟩
  · unfold lates
    rw [p1, List.map_take, hi, idsI_take hD]
  · rw [hw, List.map_drop, hi, idsI_drop]
  · unfold lates
    rw [hw, ← p2, List.filter_filter]
    simp

theorem owns_keep {w w' : World} {A : Nat → Prop} {base t s n : Nat} {v : Value} {cs : List Value} (h : w.ownsRow base t s v n cs) (hk : Keep A w w') (hA : ∀ k, v.ownBlock = some k → A k) : w'.ownsRow base t s v n cs := by
  refine ⟨h.1, ?_⟩
  rcases h.2 with h1 | ⟨g, cap, cur, rfl, hb, hg, r⟩
  · exact .inl h1
  · exact .inr ⟨g, cap, cur, rfl, hb, (hk.block g (lt_of_heap hg) (hA g rfl)).trans hg, r⟩

end Go.Proofs.Ytcndgcfdopjjfaa
