/-
  The least one, as plain mathematics: none that may be chosen is less, and none as little stands ahead of it; it is the only such one. No conditions.
-/
import Derived.Test.YtdiifnakmemadaaLeast
namespace Go.Proofs.Ytdiifnakmemadaa

/-- p is the least one of the first k that may be chosen, of several the first. -/
def Is (m : Hs → Bool) (t : Hs → Int) (l : List Hs) (k p : Nat) : Prop :=
  p < k ∧ m (l.getD p z0) = true ∧ ∀ j, j < k → m (l.getD j z0) = true → t (l.getD p z0) ≤ t (l.getD j z0) ∧ (j < p → t (l.getD p z0) < t (l.getD j z0))

theorem lst_spec (m : Hs → Bool) (t : Hs → Int) (l : List Hs) : ∀ k, (lst m t l k = none → ∀ j, j < k → m (l.getD j z0) = false) ∧ (∀ p, lst m t l k = some p → Is m t l k p)
  | 0 => ⟨fun _ j hj => absurd hj (Nat.not_lt_zero _), fun p hp => by cases hp⟩
  | k + 1 => by
    obtain ⟨ih1, ih2⟩ := lst_spec m t l k
    cases hm : m (l.getD k z0) with
    | false =>
      rw [lst_no m t l k hm]
      refine ⟨fun h j hj => ?_, fun p hp => ?_⟩
      · by_cases e : j = k
        · rw [e]; exact hm
        · exact ih1 h j (by omega)
      · obtain ⟨h1, h2, h3⟩ := ih2 p hp
        refine ⟨by omega, h2, fun j hj hmj => ?_⟩
        by_cases e : j = k
        · rw [e, hm] at hmj; cases hmj
        · exact h3 j (by omega) hmj
    | true =>
      cases hl : lst m t l k with
      | none =>
        rw [lst_new m t l k hm hl]
        refine ⟨fun h => by (cases h), fun p hp => ?_⟩
        obtain rfl : k = p := by simpa using hp
        refine ⟨by omega, hm, fun j hj hmj => ?_⟩
        by_cases e : j = k
        · rw [e]; exact ⟨Int.le_refl _, fun h => absurd h (Nat.lt_irrefl _)⟩
        · have := ih1 hl j (by omega)
          rw [this] at hmj; cases hmj
      | some q =>
        obtain ⟨h1, h2, h3⟩ := ih2 q hl
        by_cases ht : t (l.getD k z0) < t (l.getD q z0)
        · rw [lst_less m t l k q hm hl ht]
          refine ⟨fun h => by (cases h), fun p hp => ?_⟩
          obtain rfl : k = p := by simpa using hp
          refine ⟨by omega, hm, fun j hj hmj => ?_⟩
          by_cases e : j = k
          · rw [e]; exact ⟨Int.le_refl _, fun h => absurd h (Nat.lt_irrefl _)⟩
          · have := h3 j (by omega) hmj
            exact ⟨by omega, fun _ => by omega⟩
        · rw [lst_more m t l k q hm hl ht]
          refine ⟨fun h => by (cases h), fun p hp => ?_⟩
          obtain rfl : q = p := by simpa using hp
          refine ⟨by omega, h2, fun j hj hmj => ?_⟩
          by_cases e : j = k
          · rw [e]; exact ⟨by omega, fun h => by omega⟩
          · exact h3 j (by omega) hmj

theorem Is.uniq {m : Hs → Bool} {t : Hs → Int} {l : List Hs} {k p q : Nat} (h : Is m t l k p) (g : Is m t l k q) : p = q := by
  obtain ⟨h1, h2, h3⟩ := h
  obtain ⟨g1, g2, g3⟩ := g
  have a := h3 q g1 g2
  have b := g3 p h1 h2
  rcases Nat.lt_trichotomy p q with e | e | e
  · have := b.2 e; omega
  · exact e
  · have := a.2 e; omega
theorem lst_of_is {m : Hs → Bool} {t : Hs → Int} {l : List Hs} {k p : Nat} (h : Is m t l k p) : lst m t l k = some p := by
  cases e : lst m t l k with
  | none =>
    have := (lst_spec m t l k).1 e p h.1
    rw [h.2.1] at this
    cases this
  | some q => rw [h.uniq ((lst_spec m t l k).2 q e)]
theorem lst_none {m : Hs → Bool} {t : Hs → Int} {l : List Hs} {k : Nat} (h : ∀ j, j < k → m (l.getD j z0) = false) : lst m t l k = none := by
  cases e : lst m t l k with
  | none => rfl
  | some q =>
    obtain ⟨h1, h2, _⟩ := (lst_spec m t l k).2 q e
    rw [h q h1] at h2
    cases h2

/-- The first one is F. -/
theorem fst_of {m : Hs → Bool} : ∀ {l : List Hs} {F : Nat}, F < l.length → m (l.getD F z0) = true → (∀ j, j < F → m (l.getD j z0) = false) → fst m l = F
  | [], F, h, _, _ => by simp at h
  | y :: l, 0, h, hm, _ => by
    have hm2 : m y = true := by simpa using hm
    simp [fst, hm2]
  | y :: l, F + 1, h, hm, hn => by
    have h0 : m y = false := by simpa using hn 0 (by omega)
    have := fst_of (m := m) (l := l) (F := F) (by simpa using h) (by simpa using hm) (fun j hj => by simpa using hn (j + 1) (by omega))
    simp [fst, h0, this]
theorem fst_none {m : Hs → Bool} : ∀ {l : List Hs}, (∀ j, j < l.length → m (l.getD j z0) = false) → fst m l = l.length
  | [], _ => rfl
  | y :: l, hn => by
    have h0 : m y = false := by simpa using hn 0 (by simp)
    have := fst_none (m := m) (l := l) (fun j hj => by simpa using hn (j + 1) (by simpa using hj))
    simp [fst, h0, this]

end Go.Proofs.Ytdiifnakmemadaa
