/-
  Warming, step by step, as plain mathematics: one host has one more that is being made; how many may still come. Conditions: each has at most 8 that are being made.
-/
import Derived.Test.YtdiifnakmemadaaRAll
namespace Go.Proofs.Ytdiifnakmemadaa

/-- The host at k has x that are being made. -/
def setM (l : List Hs) (k : Nat) (x : Int) : List Hs := l.set k { l.getD k z0 with mg := x }
theorem setM_length (l : List Hs) (k : Nat) (x : Int) : (setM l k x).length = l.length := by simp [setM]
theorem setM_at {l : List Hs} {k : Nat} (hk : k < l.length) (x : Int) : (setM l k x).getD k z0 = { l.getD k z0 with mg := x } := by simp [setM, List.getD, hk]
theorem setM_ne {l : List Hs} {k j : Nat} (h : j ≠ k) (x : Int) : (setM l k x).getD j z0 = l.getD j z0 := by
  unfold setM
  by_cases hj : j < l.length
  · simp [List.getD, List.getElem?_set_ne (Ne.symm h)]
  · simp [List.getD, hj]

/-- How many may still come, with 8 at most. -/
def left : List Hs → Nat
  | [] => 0
  | h :: l => (8 - h.mg).toNat + left l
theorem left_le : ∀ l : List Hs, (∀ h ∈ l, 0 ≤ h.mg) → left l ≤ 8 * l.length
  | [], _ => Nat.le_refl _
  | h :: l, hm => by
    have h1 := hm h (by simp)
    have h2 := left_le l (fun x hx => hm x (by simp [hx]))
    simp only [left, List.length_cons]
    omega
theorem left_set : ∀ (l : List Hs) (k : Nat) (x : Int), k < l.length → (l.getD k z0).mg + 1 = x → x ≤ 8 → left (setM l k x) + 1 = left l
  | [], k, x, h, _, _ => by simp at h
  | h :: l, 0, x, _, e, h8 => by
    simp [List.getD] at e
    simp [setM, left]
    omega
  | h :: l, k + 1, x, hk, e, h8 => by
    have := left_set l k x (by simpa using hk) (by simpa using e) h8
    have e1 : setM (h :: l) (k + 1) x = h :: setM l k x := by simp [setM]
    rw [e1]
    simp only [left]
    omega

/-- What stands of the hosts while they are warmed. -/
def Warmed (l : List Hs) : Prop := ∀ j, 0 ≤ (l.getD j z0).mg ∧ (l.getD j z0).mg ≤ 8 ∧ -1000 ≤ (l.getD j z0).id ∧ (l.getD j z0).id ≤ 1000 ∧ -1000 ≤ (l.getD j z0).bz ∧ (l.getD j z0).bz ≤ 1000
theorem Warmed.mem {l : List Hs} (h : Warmed l) : ∀ x ∈ l, 0 ≤ x.mg := by
  intro x hx
  obtain ⟨j, hj, rfl⟩ := List.mem_iff_getElem.1 hx
  have := (h j).1
  simpa [List.getD, hj] using this
theorem Warmed.set {l : List Hs} (h : Warmed l) {k : Nat} {x : Int} (h0 : 0 ≤ x) (h8 : x ≤ 8) : Warmed (setM l k x) := by
  intro j
  by_cases e : j = k
  · subst e
    by_cases hj : j < l.length
    · rw [setM_at hj]
      have := h j
      exact ⟨h0, h8, this.2.2.1, this.2.2.2.1, this.2.2.2.2.1, this.2.2.2.2.2⟩
    · have e1 : (setM l j x).getD j z0 = l.getD j z0 := by simp [setM, List.getD, hj]
      rw [e1]
      exact h j
  · rw [setM_ne e]
    exact h j

/-- The first k have at most 3 that are being made. -/
def Cut4 (l : List Hs) (k : Nat) : Prop := ∀ j, (j < k → 0 ≤ (l.getD j z0).mg ∧ (l.getD j z0).mg ≤ 3) ∧ -1000 ≤ (l.getD j z0).id ∧ (l.getD j z0).id ≤ 1000 ∧ -1000 ≤ (l.getD j z0).bz ∧ (l.getD j z0).bz ≤ 1000
theorem Cut4.start {l : List Hs} (h : Small l) : Cut4 l 0 := fun j => ⟨fun h => absurd h (Nat.not_lt_zero _), (h.at_ j).2.2.1, (h.at_ j).2.2.2.1, (h.at_ j).2.2.2.2.1, (h.at_ j).2.2.2.2.2⟩
theorem Cut4.step {l : List Hs} {k : Nat} (h : Cut4 l k) {x : Int} (h0 : 0 ≤ x) (h3 : x ≤ 3) (hk : k < l.length) : Cut4 (setM l k x) (k + 1) := by
  intro j
  by_cases e : j = k
  · subst e
    rw [setM_at hk]
    exact ⟨fun _ => ⟨h0, h3⟩, (h j).2⟩
  · rw [setM_ne e]
    exact ⟨fun hj => (h j).1 (by omega), (h j).2⟩
theorem Cut4.all {l : List Hs} (h : Cut4 l l.length) : Warmed l := by
  intro j
  have hr := (h j).2
  by_cases hj : j < l.length
  · have := (h j).1 hj
    exact ⟨by omega, by omega, hr⟩
  · have e1 : l.getD j z0 = z0 := by simp [List.getD, hj]
    rw [e1]
    exact ⟨by decide, by decide, by decide, by decide, by decide, by decide⟩

end Go.Proofs.Ytdiifnakmemadaa
