/-
  Plain functions on lists of names: which bytes and names may be, what is wrong with a list, which came, went and stayed, both joined. No conditions.
-/
import Derived.Test.YtmlkpfkeeifgeaaDoorRows
import Derived.WalkKit
import Derived.ProofKit
import Derived.OpenShut
import Derived.WalkLawsBesides
import Derived.WalkSpells
import Derived.Deep.QuietTactic
import Derived.BigQuiet
import Derived.Lib.SmallJoins
namespace Go.Proofs.YtmlkpfkeeifgeaaDoor

def letB (b : UInt8) : Bool := (decide (97 ≤ b.toNat) && decide (b.toNat ≤ 122)) || (decide (48 ≤ b.toNat) && decide (b.toNat ≤ 57)) || decide (b.toNat = 46) || decide (b.toNat = 45)
def nameB (s : ByteArray) : Bool := decide (1 ≤ s.size) && decide (s.size ≤ 16) && s.data.toList.all letB
def hasB (m : List ByteArray) (x : ByteArray) : Bool := m.any (fun y => decide (y = x))
theorem hasB_iff {m : List ByteArray} {x : ByteArray} : hasB m x = true ↔ x ∈ m := by unfold hasB; simp
theorem hasB_not {m : List ByteArray} {x : ByteArray} : hasB m x = false ↔ x ∉ m := by rw [← hasB_iff]; cases hasB m x <;> simp
/-- How a byte lies to the letters. -/
theorem let_cases (b : UInt8) :
    (letB b = true ∧ (97 : Int) ≤ b.toNat ∧ (b.toNat : Int) ≤ 122) ∨ (letB b = true ∧ (b.toNat : Int) < 97 ∧ (48 : Int) ≤ b.toNat ∧ (b.toNat : Int) ≤ 57) ∨ (letB b = true ∧ (b.toNat : Int) = 46) ∨ (letB b = true ∧ (b.toNat : Int) = 45) ∨
    (letB b = false ∧ (97 : Int) ≤ b.toNat ∧ (48 : Int) ≤ b.toNat ∧ decide ((b.toNat : Int) ≤ 122) = false ∧ decide ((b.toNat : Int) ≤ 57) = false ∧ ((b.toNat : Int) == 46) = false ∧ ((b.toNat : Int) == 45) = false) ∨ (letB b = false ∧ decide ((97 : Int) ≤ b.toNat) = false ∧ (48 : Int) ≤ b.toNat ∧ decide ((b.toNat : Int) ≤ 57) = false ∧ ((b.toNat : Int) == 46) = false ∧ ((b.toNat : Int) == 45) = false) ∨ (letB b = false ∧ decide ((97 : Int) ≤ b.toNat) = false ∧ decide ((48 : Int) ≤ b.toNat) = false ∧ ((b.toNat : Int) == 46) = false ∧ ((b.toNat : Int) == 45) = false) := by
  unfold letB
  generalize b.toNat = n
  by_cases h1 : 97 ≤ n
  · by_cases h2 : n ≤ 122
    · left; refine ⟨by simp [h1, h2], by omega, by omega⟩
    · right; right; right; right; left
      refine ⟨?_, by omega, by omega, by simp; omega, by simp; omega, by simp; omega, by simp; omega⟩
      simp [h2]; omega
  · by_cases h3 : 48 ≤ n
    · by_cases h4 : n ≤ 57
      · right; left; refine ⟨by simp [h3, h4], by omega, by omega, by omega⟩
      · right; right; right; right; right; left
        refine ⟨?_, by simp; omega, by omega, by simp; omega, by simp; omega, by simp; omega⟩
        simp [h1, h4]; omega
    · by_cases h5 : n = 46
      · right; right; left; exact ⟨by simp [h5], by omega⟩
      · by_cases h6 : n = 45
        · right; right; right; left; exact ⟨by simp [h6], by omega⟩
        · right; right; right; right; right; right
          refine ⟨?_, by simp; omega, by simp; omega, by simp; omega, by simp; omega⟩
          simp [h1, h3, h5, h6]

theorem all_snoc {l : List UInt8} {k : Nat} (h : k < l.length) (ha : (l.take k).all letB = true) (hb : letB l[k] = true) : (l.take (k + 1)).all letB = true := by
  rw [List.take_succ_eq_append_getElem h, List.all_append, ha]
  simp [hb]
theorem all_fail {l : List UInt8} {k : Nat} (h : k < l.length) (hb : letB l[k] = false) : l.all letB = false := by
  cases hx : l.all letB with
  | false => rfl
  | true => exact absurd (List.all_eq_true.1 hx _ (List.getElem_mem h)) (by simp [hb])

theorem nameB_big {s : ByteArray} (h : 16 < s.size) : nameB s = false := by unfold nameB; simp; omega
theorem nameB_nil {s : ByteArray} (h : s.size = 0) : nameB s = false := by unfold nameB; simp [h]
theorem nameB_mid {s : ByteArray} (h1 : 1 ≤ s.size) (h2 : s.size ≤ 16) : nameB s = s.data.toList.all letB := by unfold nameB; simp [h1, h2]
theorem nameB_bad {s : ByteArray} (h : s.data.toList.all letB = false) : nameB s = false := by unfold nameB; rw [h]; simp
theorem nameB_size {s : ByteArray} (h : nameB s = true) : 1 ≤ s.size ∧ s.size ≤ 16 := by
  unfold nameB at h
  simp only [Bool.and_eq_true, decide_eq_true_eq] at h
  exact h.1

/-- Texts are one just if their bytes are. -/
theorem beq_toList (x y : ByteArray) : (x.toList == y.toList) = decide (x = y) := by
  rw [Lib.toList_data, Lib.toList_data]
  by_cases h : x = y
  · subst h; simp
  · have : x.data.toList ≠ y.data.toList := fun e => h (ByteArray.ext (Array.toList_inj.1 e))
    rw [decide_eq_false h]
    simpa using this
theorem bne_toList (x y : ByteArray) : (x.toList != y.toList) = !decide (x = y) := by rw [← beq_toList]; rfl
theorem empty_of_size {s : ByteArray} (h : s.size = 0) : s = ⟨#[]⟩ := by
  apply ByteArray.ext
  apply Array.eq_empty_of_size_eq_zero
  exact h

end Go.Proofs.YtmlkpfkeeifgeaaDoor
