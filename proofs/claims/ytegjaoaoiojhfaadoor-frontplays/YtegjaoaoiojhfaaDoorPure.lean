/-
  A client's front as plain mathematics: the states' table, what comes of a frame, of each call; what always holds of it. No conditions.
-/
import Derived.Test.YtegjaoaoiojhfaaDoorRows
import Derived.WalkKit
import Derived.ProofKit
import Derived.OpenShut
import Derived.WalkLawsBesides
import Derived.WalkSpells
import Derived.Deep.QuietTactic
import Derived.BigQuiet
import Derived.Lib.SmallJoins
namespace Go.Proofs.YtegjaoaoiojhfaaDoor
open Go.ChangeShapes Go.WideShapes Go.ChangeAt Go.RowKit

theorem Hid.mk' {p : Prop} (h : p) : Hid p := h
theorem own : ownKnob Tryd.prog.godebug = none := by kernel_rfl
theorem laidOut : laidOutB Tryd.prog = true := by kernel_rfl
theorem ret_int {k : IntKind} {a b : Int} (h : a = b) : Ending.returned (.int k a) = .returned (.int k b) := by rw [h]
theorem ret_bool {a b : Bool} (h : a = b) : Ending.returned (.bool a) = .returned (.bool b) := by rw [h]
theorem ret_str {a b : ByteArray} (h : a = b) : Ending.returned (.string a) = .returned (.string b) := by rw [h]
theorem ret_ii {a b p q : Int} (h : a = b) (h' : p = q) : Ending.returned (.tuple #[.int .i64 a, .int .i64 p]) = .returned (.tuple #[.int .i64 b, .int .i64 q]) := by rw [h, h']

/-- A frame: its kind, its data. -/
structure Fr where
  k : Int
  s : ByteArray
def f0 : Fr := ⟨0, ⟨#[]⟩⟩
/-- A front: its state, the frames that it holds. -/
structure Ft where
  st : Int
  hl : List Fr

/-- The kinds' columns. -/
def cols : List Int := [0, 1, 2, 3, 4, 4, 0, 0, 5]
/-- The table, row by row: the state behind it, and what is to be done. -/
def tab : List Int := [6, 7, 1, 1, 6, 7, 6, 7, 6, 7, 6, 5, 6, 7, 6, 7, 2, 2, 6, 7, 6, 7, 6, 5, 6, 7, 2, 3, 2, 3, 2, 3, 2, 3, 6, 5, 6, 8, 6, 8, 6, 8, 3, 4, 4, 4, 6, 6, 6, 8, 4, 3, 4, 3, 4, 3, 4, 3, 6, 6, 6, 7, 6, 7, 6, 7, 5, 0, 1, 0, 6, 5, 6, 0, 6, 0, 6, 0, 6, 0, 6, 0, 6, 0]
def inS (s : Int) : Bool := decide (0 ≤ s) && decide (s ≤ 6)
def col (k : Int) : Int := if 0 ≤ k ∧ k ≤ 8 then cols.getD k.toNat 0 else 0
def lnx (s c : Int) : Int := if inS s = true then tab.getD (s.toNat * 12 + c.toNat * 2) 0 else s
def lwh (s c : Int) : Int := if inS s = true then tab.getD (s.toNat * 12 + c.toNat * 2 + 1) 0 else 0
/-- The state behind a frame of the kind, and what is to be done. -/
def onx (s k : Int) : Int := lnx s (col k)
def onw (s k : Int) : Int := lwh s (col k)

theorem inS_iff {s : Int} : inS s = true ↔ 0 ≤ s ∧ s ≤ 6 := by simp [inS]
theorem inS_false {s : Int} (h : ¬ (0 ≤ s ∧ s ≤ 6)) : inS s = false := by
  cases hb : inS s with
  | false => rfl
  | true => exact absurd (inS_iff.1 hb) h
theorem lnx_out {s : Int} (c : Int) (h : inS s = false) : lnx s c = s := by simp [lnx, h]
theorem lwh_out {s : Int} (c : Int) (h : inS s = false) : lwh s c = 0 := by simp [lwh, h]
theorem seven {s : Int} (h0 : 0 ≤ s) (h1 : s ≤ 6) : s = 0 ∨ s = 1 ∨ s = 2 ∨ s = 3 ∨ s = 4 ∨ s = 5 ∨ s = 6 := by omega
theorem nine {s : Int} (h0 : 0 ≤ s) (h1 : s ≤ 8) : s = 0 ∨ s = 1 ∨ s = 2 ∨ s = 3 ∨ s = 4 ∨ s = 5 ∨ s = 6 ∨ s = 7 ∨ s = 8 := by omega
/-- Each kind's column. -/
theorem col_of (k : Int) : (k = 1 ∧ col k = 1) ∨ (k = 2 ∧ col k = 2) ∨ (k = 3 ∧ col k = 3) ∨ (k = 4 ∧ col k = 4) ∨ (k = 5 ∧ col k = 4) ∨ (k = 8 ∧ col k = 5) ∨ ((k ≠ 1 ∧ k ≠ 2 ∧ k ≠ 3 ∧ k ≠ 4 ∧ k ≠ 5 ∧ k ≠ 8) ∧ col k = 0) := by
  by_cases h : 0 ≤ k ∧ k ≤ 8
  · rcases nine h.1 h.2 with rfl | rfl | rfl | rfl | rfl | rfl | rfl | rfl | rfl <;> simp [col, cols]
  · have : col k = 0 := if_neg h
    omega
theorem col_in (k : Int) : 0 ≤ col k ∧ col k ≤ 5 := by have := col_of k; omega

/-- What is to be done with a frame, and the state behind it. -/
def tkw (s : Ft) (k : Int) : Int := if onw s.st k = 3 ∧ s.hl.length = 4 then lwh s.st 0 else onw s.st k
def tkx (s : Ft) (k : Int) : Int := if onw s.st k = 3 ∧ s.hl.length = 4 then lnx s.st 0 else onx s.st k
def tkh (s : Ft) (x : Fr) : List Fr := if tkx s x.k = 6 then [] else if tkw s x.k = 3 then s.hl ++ [x] else s.hl
def tk (s : Ft) (x : Fr) : Ft := ⟨tkx s x.k, tkh s x⟩

/-- What always holds of one. -/
structure Inv (s : Ft) : Prop where
  lo : 0 ≤ s.st
  hi : s.st ≤ 6
  le : s.hl.length ≤ 4
  cl : s.st = 6 → s.hl = []

def n0 : Ft := ⟨0, []⟩
theorem inv0 : Inv n0 := ⟨by decide, by decide, by decide, fun h => by cases h⟩
/-- One that isn't there. -/
def nn : Ft := ⟨6, []⟩
theorem invn : Inv nn := ⟨by decide, by decide, by decide, fun _ => rfl⟩

/-- The table, as a whole. -/
theorem tab_all (s k : Int) (h0 : 0 ≤ s) (h1 : s ≤ 6) :
    (0 ≤ onx s k ∧ onx s k ≤ 6) ∧ (0 ≤ onw s k ∧ onw s k ≤ 8) ∧ (onw s k = 3 → (s = 2 ∨ s = 4) ∧ onx s k = s ∧ 1 ≤ k ∧ k ≤ 5) ∧ (s = 6 → onx s k = 6 ∧ onw s k = 0) ∧
    (onw s k = 4 → s = 3 ∧ 3 ≤ k ∧ k ≤ 5 ∧ ((k = 3 ∧ onx s k = 3) ∨ (k ≠ 3 ∧ onx s k = 4))) ∧ (onx s k = 3 → s = 3 ∧ onw s k = 4) ∧
    (onw s k = 5 ∨ onw s k = 6 ∨ onw s k = 7 ∨ onw s k = 8 → onx s k = 6) ∧ (s = 3 → onw s k ≠ 0 ∧ onw s k ≠ 1 ∧ onw s k ≠ 2 ∧ onw s k ≠ 3) := by
  unfold onx onw
  rcases col_of k with ⟨hk, h⟩ | ⟨hk, h⟩ | ⟨hk, h⟩ | ⟨hk, h⟩ | ⟨hk, h⟩ | ⟨hk, h⟩ | ⟨hk, h⟩ <;> rw [h] <;> clear h <;>
    rcases seven h0 h1 with rfl | rfl | rfl | rfl | rfl | rfl | rfl <;> simp [lnx, lwh, tab, inS] <;> omega
theorem others_all (s : Int) (h : s = 2 ∨ s = 4) : lnx s 0 = 6 ∧ lwh s 0 = (if s = 4 then 8 else 7) := by
  rcases h with rfl | rfl <;> decide

theorem tk_cases {s : Ft} (hI : Inv s) (k : Int) :
    (onw s.st k = 3 ∧ s.hl.length = 4 ∧ tkx s k = 6 ∧ (tkw s k = 7 ∨ tkw s k = 8) ∧ (s.st = 2 ∨ s.st = 4)) ∨ (¬ (onw s.st k = 3 ∧ s.hl.length = 4) ∧ tkx s k = onx s.st k ∧ tkw s k = onw s.st k) := by
  by_cases h : onw s.st k = 3 ∧ s.hl.length = 4
  · left
    have h1 := (tab_all s.st k hI.lo hI.hi).2.2.1 h.1
    obtain ⟨h2, h3⟩ := others_all s.st h1.1
    refine ⟨h.1, h.2, ?_, ?_, h1.1⟩
    · unfold tkx; rw [if_pos h]; exact h2
    · unfold tkw; rw [if_pos h, h3]; split <;> simp
  · right
    exact ⟨h, by unfold tkx; rw [if_neg h], by unfold tkw; rw [if_neg h]⟩

theorem inv_tk {s : Ft} (hI : Inv s) (x : Fr) : Inv (tk s x) := by
  have ht := tab_all s.st x.k hI.lo hI.hi
  have hc := tk_cases hI x.k
  refine ⟨?_, ?_, ?_, ?_⟩
  · show 0 ≤ tkx s x.k
    rcases hc with ⟨_, _, h, _⟩ | ⟨_, h, _⟩ <;> rw [h]
    · decide
    · exact ht.1.1
  · show tkx s x.k ≤ 6
    rcases hc with ⟨_, _, h, _⟩ | ⟨_, h, _⟩ <;> rw [h]
    · decide
    · exact ht.1.2
  · show (tkh s x).length ≤ 4
    have hl := hI.le
    unfold tkh
    split
    · simp
    · split
      · rename_i h1 h2
        rcases hc with ⟨_, _, _, h | h, _⟩ | ⟨h3, _, h⟩
        · omega
        · omega
        · rw [h] at h2
          have : s.hl.length ≠ 4 := fun e => h3 ⟨h2, e⟩
          simp
          omega
      · exact hl
  · intro h
    exact if_pos (show tkx s x.k = 6 from h)

/-- Next: is there one? -/
def nxB (s : Ft) : Bool := !(s.hl.length == 0 || (s.st == 2 || s.st == 4))
def nxF (s : Ft) : Fr := if nxB s = true then s.hl.getD 0 f0 else f0
def nxs (s : Ft) : Ft := ⟨s.st, s.hl.drop 1⟩
def nxW (s : Ft) : Int := if nxB s = true then tkw (nxs s) (nxF s).k else 0
def nxT (s : Ft) : Ft := if nxB s = true then tk (nxs s) (nxF s) else s
theorem inv_nxs {s : Ft} (hI : Inv s) : Inv (nxs s) := ⟨hI.lo, hI.hi, by have := hI.le; simp [nxs]; omega, fun h => by simp [nxs, hI.cl h]⟩
theorem inv_nxT {s : Ft} (hI : Inv s) : Inv (nxT s) := by
  unfold nxT
  split
  · exact inv_tk (inv_nxs hI) _
  · exact hI

/-- Bound 0, Done 1, Abort 2, Quit 3 (and all others): does it do anything, and where does it lead. -/
def goB (n s : Int) : Bool := if n = 0 then s == 2 else if n = 1 then s == 4 else if n = 2 then (s == 2 || s == 3 || s == 4) else !(s == 6)
def goX (n s : Int) : Int := if n = 0 then 3 else if n = 1 then 1 else if n = 2 then (if s = 4 then 1 else 5) else 6
def goT (n : Int) (s : Ft) : Ft := if goB n s.st = true then ⟨goX n s.st, if goX n s.st = 6 then [] else s.hl⟩ else s
theorem goX_in (n s : Int) : 0 ≤ goX n s ∧ goX n s ≤ 6 := by unfold goX; repeat' split <;> omega
theorem inv_goT {n : Int} {s : Ft} (hI : Inv s) : Inv (goT n s) := by
  unfold goT
  split
  · have := goX_in n s.st
    refine ⟨this.1, this.2, ?_, fun h => ?_⟩
    · show (if goX n s.st = 6 then [] else s.hl).length ≤ 4
      split
      · simp
      · exact hI.le
    · show (if goX n s.st = 6 then [] else s.hl) = []
      rw [if_pos h]
  · exact hI

/-- The states' names. -/
def nms : List ByteArray := [⟨#[110, 101, 119]⟩, ⟨#[105, 100, 108, 101]⟩, ⟨#[119, 97, 105, 116, 105, 110, 103]⟩, ⟨#[98, 111, 117, 110, 100]⟩, ⟨#[101, 110, 100, 105, 110, 103]⟩, ⟨#[115, 107, 105, 112, 112, 105, 110, 103]⟩, ⟨#[99, 108, 111, 115, 101, 100]⟩]
def nm (s : Int) : ByteArray := if inS s = true then nms.getD s.toNat ⟨#[]⟩ else ⟨#[]⟩
theorem nm_out {s : Int} (h : inS s = false) : nm s = ⟨#[]⟩ := by simp [nm, h]

end Go.Proofs.YtegjaoaoiojhfaaDoor
