/-
  Which host is next, as plain mathematics: sums that stop at the greatest int, what is asked of each host, the least one, the first one. No conditions.
-/
import Derived.Test.YtdiifnakmemadaaRows
namespace Go.Proofs.Ytdiifnakmemadaa

/-- A host: its state, how many are being made, idle and busy, and whether it may be dialled. -/
structure Hs where
  st : Int
  mg : Int
  id : Int
  bz : Int
  my : Bool
def z0 : Hs := ⟨0, 0, 0, 0, false⟩

/-- One number more, no greater than the greatest int. -/
def addS (a n : Int) : Int := a + min (max n 0) (9223372036854775807 - a)
def sumS (zs : List Int) : Int := zs.foldl addS 0

theorem addS_bd {a : Int} (n : Int) (h0 : 0 ≤ a) (h1 : a ≤ 9223372036854775807) : a ≤ addS a n ∧ addS a n ≤ 9223372036854775807 := by
  unfold addS
  omega
theorem foldS_bd : ∀ (zs : List Int) (a : Int), 0 ≤ a → a ≤ 9223372036854775807 → a ≤ zs.foldl addS a ∧ zs.foldl addS a ≤ 9223372036854775807
  | [], a, h0, h1 => ⟨Int.le_refl _, h1⟩
  | n :: zs, a, h0, h1 => by
    have h2 := addS_bd n h0 h1
    have h3 := foldS_bd zs (addS a n) (by omega) h2.2
    exact ⟨by have := h3.1; simp only [List.foldl_cons]; omega, h3.2⟩
theorem sumS_bd (zs : List Int) : 0 ≤ sumS zs ∧ sumS zs ≤ 9223372036854775807 := foldS_bd zs 0 (by decide) (by decide)
theorem sumS_take {zs : List Int} {k : Nat} (h : k < zs.length) : sumS (zs.take (k + 1)) = addS (sumS (zs.take k)) (zs.getD k 0) := by
  have e : zs.take (k + 1) = zs.take k ++ [zs.getD k 0] := by
    rw [List.take_add_one]
    congr 1
    simp [List.getD, h]
  rw [e, sumS, List.foldl_append]
  rfl

/-- How many a host has in all; how many that are being made or idle; how many busy ones. -/
def allH (h : Hs) : Int := sumS [h.mg, h.id, h.bz]
def ownH (h : Hs) : Int := sumS [h.mg, h.id]
def busyH (h : Hs) : Int := sumS [h.bz]
def servesH (h : Hs) : Bool := h.st == 0 && decide (0 < h.id)
def opensH (each : Int) (h : Hs) : Bool := h.st == 0 && h.my && decide (allH h < each)
def warmH (each warm : Int) (h : Hs) : Bool := opensH each h && decide (ownH h < warm)

theorem allH_bd (h : Hs) : 0 ≤ allH h ∧ allH h ≤ 9223372036854775807 := sumS_bd _
theorem ownH_bd (h : Hs) : 0 ≤ ownH h ∧ ownH h ≤ 9223372036854775807 := sumS_bd _
theorem busyH_bd (h : Hs) : 0 ≤ busyH h ∧ busyH h ≤ 9223372036854775807 := sumS_bd _

/-- The least one of the first k of l that may be chosen, of several the first. -/
def lst (m : Hs → Bool) (t : Hs → Int) (l : List Hs) : Nat → Option Nat
  | 0 => none
  | k + 1 => match lst m t l k with
    | none => if m (l.getD k z0) then some k else none
    | some p => if m (l.getD k z0) && decide (t (l.getD k z0) < t (l.getD p z0)) then some k else some p

/-- A place, and whether there is one. -/
def plc (o : Option Nat) : Int := ((o.getD 0 : Nat) : Int)

theorem lst_lt (m : Hs → Bool) (t : Hs → Int) (l : List Hs) : ∀ k p, lst m t l k = some p → p < k
  | 0, p, h => by cases h
  | k + 1, p, h => by
    unfold lst at h
    cases e : lst m t l k with
    | none =>
      rw [e] at h
      simp only [] at h
      split at h
      · simp at h; omega
      · cases h
    | some q =>
      rw [e] at h
      have := lst_lt m t l k q e
      simp only [] at h
      split at h
      · simp at h; omega
      · simp at h; omega

/-- The place of the first one of l that may be chosen; its length, if there is none. -/
def fst (m : Hs → Bool) : List Hs → Nat
  | [] => 0
  | h :: l => if m h then 0 else fst m l + 1
theorem fst_le (m : Hs → Bool) : ∀ l, fst m l ≤ l.length
  | [] => Nat.le_refl _
  | h :: l => by
    unfold fst
    have := fst_le m l
    split
    · omega
    · simp; omega
theorem fst_lt (m : Hs → Bool) : ∀ l j, j < fst m l → m (l.getD j z0) = false
  | [], j, h => by simp [fst] at h
  | y :: l, j, h => by
    unfold fst at h
    split at h
    · omega
    · rename_i hy
      cases j with
      | zero => simpa using hy
      | succ j => simpa using fst_lt m l j (by omega)
theorem fst_at (m : Hs → Bool) : ∀ l, fst m l < l.length → m (l.getD (fst m l) z0) = true
  | [], h => by simp at h
  | y :: l, h => by
    unfold fst at h ⊢
    split
    · rename_i hy; simpa using hy
    · rename_i hy
      rw [if_neg hy] at h
      simpa using fst_at m l (by simpa using h)

end Go.Proofs.Ytdiifnakmemadaa
