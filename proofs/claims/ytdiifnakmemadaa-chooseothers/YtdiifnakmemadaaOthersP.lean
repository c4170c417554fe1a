/-
  Those that are Active, with their places, as plain mathematics: what is chosen among them is what is chosen among all. No conditions.
-/
import Derived.Test.YtdiifnakmemadaaSpec
import Derived.Test.YtdiifnakmemadaaApi
namespace Go.Proofs.Ytdiifnakmemadaa

/-- The places below k at which a host is Active. -/
def idxL (l : List Hs) (k : Nat) : List Nat := (List.range k).filter fun j => (l.getD j z0).st == 0
def actL (l : List Hs) (k : Nat) : List Hs := (idxL l k).map fun j => l.getD j z0

theorem idxL_zero (l : List Hs) : idxL l 0 = [] := rfl
theorem idxL_succ (l : List Hs) (k : Nat) : idxL l (k + 1) = if (l.getD k z0).st == 0 then idxL l k ++ [k] else idxL l k := by
  unfold idxL
  rw [List.range_succ, List.filter_append]
  by_cases h : ((l.getD k z0).st == 0) = true
  · rw [if_pos h, List.filter_cons_of_pos (by exact h)]
    rfl
  · rw [if_neg h, List.filter_cons_of_neg (by exact h)]
    simp
theorem actL_length (l : List Hs) (k : Nat) : (actL l k).length = (idxL l k).length := by simp [actL]
theorem idxL_le (l : List Hs) : ∀ k, (idxL l k).length ≤ k := fun k => by
  unfold idxL
  have := List.length_filter_le (fun j => (l.getD j z0).st == 0) (List.range k)
  simpa using this

section
variable {l : List Hs} {k : Nat}
theorem idx_at {q : Nat} (hq : q < (idxL l k).length) : (idxL l k).getD q 0 < k ∧ ((l.getD ((idxL l k).getD q 0) z0).st == 0) = true := by
  have e : (idxL l k).getD q 0 = (idxL l k)[q] := by simp [List.getD, hq]
  rw [e]
  have hm := List.getElem_mem hq
  unfold idxL at hm
  rw [List.mem_filter, List.mem_range] at hm
  exact hm
theorem idx_ex {j : Nat} (hj : j < k) (hs : ((l.getD j z0).st == 0) = true) : ∃ q, q < (idxL l k).length ∧ (idxL l k).getD q 0 = j := by
  have hm : j ∈ idxL l k := by
    unfold idxL
    rw [List.mem_filter, List.mem_range]
    exact ⟨hj, hs⟩
  obtain ⟨q, hq, e⟩ := List.mem_iff_getElem.1 hm
  exact ⟨q, hq, by simp [List.getD, hq, e]⟩
theorem idx_mono {q r : Nat} (hqr : q < r) (hr : r < (idxL l k).length) : (idxL l k).getD q 0 < (idxL l k).getD r 0 := by
  have hp : (idxL l k).Pairwise (· < ·) := List.Pairwise.filter _ List.pairwise_lt_range
  have h := List.pairwise_iff_getElem.1 hp q r (by omega) hr hqr
  have e1 : (idxL l k).getD q 0 = (idxL l k)[q]'(by omega) := by simp [List.getD, show q < (idxL l k).length by omega]
  have e2 : (idxL l k).getD r 0 = (idxL l k)[r] := by simp [List.getD, hr]
  rw [e1, e2]
  exact h
theorem act_at {q : Nat} (hq : q < (idxL l k).length) : (actL l k).getD q z0 = l.getD ((idxL l k).getD q 0) z0 := by
  unfold actL
  simp [List.getD, hq]

/-- The least one among the Active ones is the least one among all. -/
theorem lst_act (m : Hs → Bool) (t : Hs → Int) (hm : ∀ h, m h = true → (h.st == 0) = true) {n : Nat} (hn : (idxL l k).length = n) :
    (lst m t (actL l k) n = none ∧ lst m t l k = none) ∨ ∃ q, q < n ∧ lst m t (actL l k) n = some q ∧ lst m t l k = some ((idxL l k).getD q 0) := by
  subst hn
  cases e : lst m t (actL l k) (idxL l k).length with
  | none =>
    refine .inl ⟨rfl, lst_none fun j hj => ?_⟩
    cases hmj : m (l.getD j z0) with
    | false => rfl
    | true =>
      obtain ⟨q, hq, rfl⟩ := idx_ex hj (hm _ hmj)
      have := (lst_spec m t (actL l k) (idxL l k).length).1 e q hq
      rw [act_at hq, hmj] at this
      cases this
  | some q =>
    obtain ⟨h1, h2, h3⟩ := (lst_spec m t (actL l k) (idxL l k).length).2 q e
    refine .inr ⟨q, h1, rfl, lst_of_is ⟨(idx_at h1).1, by rw [← act_at h1]; exact h2, fun j hj hmj => ?_⟩⟩
    obtain ⟨r, hr, rfl⟩ := idx_ex hj (hm _ hmj)
    have := h3 r hr (by rw [act_at hr]; exact hmj)
    rw [act_at h1, act_at hr] at this
    refine ⟨this.1, fun hlt => this.2 ?_⟩
    rcases Nat.lt_or_ge r q with h | h
    · exact h
    · rcases Nat.lt_or_eq_of_le h with h | h
      · have := idx_mono (l := l) (k := k) h hr
        omega
      · rw [h] at hlt
        omega
/-- So is the first one. -/
theorem fst_act (m : Hs → Bool) (hm : ∀ h, m h = true → (h.st == 0) = true) (hk : l.length = k) {n : Nat} (hn : (idxL l k).length = n) :
    (fstO m (actL l k) = none ∧ fstO m l = none) ∨ ∃ q, q < n ∧ fstO m (actL l k) = some q ∧ fstO m l = some ((idxL l k).getD q 0) := by
  subst hn
  have hal := actL_length l k
  unfold fstO
  by_cases hF : fst m (actL l k) < (actL l k).length
  · have h1 : fst m (actL l k) < (idxL l k).length := by omega
    have hat := fst_at m (actL l k) hF
    rw [act_at h1] at hat
    have hp := idx_at (l := l) (k := k) h1
    have e : fst m l = (idxL l k).getD (fst m (actL l k)) 0 := by
      refine fst_of (by omega) hat fun j hj => ?_
      cases hmj : m (l.getD j z0) with
      | false => rfl
      | true =>
        obtain ⟨r, hr, rfl⟩ := idx_ex (l := l) (k := k) (by omega) (hm _ hmj)
        have hrq : r < fst m (actL l k) := by
          rcases Nat.lt_or_ge r (fst m (actL l k)) with h | h
          · exact h
          · rcases Nat.lt_or_eq_of_le h with h | h
            · have := idx_mono (l := l) (k := k) h hr
              omega
            · rw [← h] at hj
              omega
        have := fst_lt m (actL l k) r hrq
        rw [act_at hr, hmj] at this
        cases this
    refine .inr ⟨fst m (actL l k), h1, by rw [if_pos hF], ?_⟩
    rw [e, if_pos (by omega)]
  · refine .inl ⟨by rw [if_neg hF], ?_⟩
    have e : fst m l = l.length := fst_none fun j hj => by
      cases hmj : m (l.getD j z0) with
      | false => rfl
      | true =>
        obtain ⟨r, hr, rfl⟩ := idx_ex (l := l) (k := k) (by omega) (hm _ hmj)
        have := fst_lt m (actL l k) r (by have := fst_le m (actL l k); omega)
        rw [act_at hr, hmj] at this
        cases this
    rw [e, if_neg (Nat.lt_irrefl _)]
end

theorem serves_st (h : Hs) (hm : servesH h = true) : (h.st == 0) = true := by
  unfold servesH at hm
  rw [Bool.and_eq_true] at hm
  exact hm.1
theorem opens_st (each : Int) (h : Hs) (hm : opensH each h = true) : (h.st == 0) = true := by
  unfold opensH at hm
  rw [Bool.and_eq_true, Bool.and_eq_true] at hm
  exact hm.1.1
theorem warm_st (each warm : Int) (h : Hs) (hm : warmH each warm h = true) : (h.st == 0) = true := by
  unfold warmH at hm
  rw [Bool.and_eq_true] at hm
  exact opens_st each h hm.1

end Go.Proofs.Ytdiifnakmemadaa
