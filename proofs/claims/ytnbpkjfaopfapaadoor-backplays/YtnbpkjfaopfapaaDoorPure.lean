/-
  A connection in plain mathematics: its state, the tick since which it is idle, its client, its replies to come, its birth, its deadline; what each call makes of it, and what always holds of it. No conditions beside those that each line says.
-/
import Derived.Test.YtnbpkjfaopfapaaDoorBase
namespace Go.Proofs.YtnbpkjfaopfapaaDoor

/-- State, since, client, owes, born, deadline. -/
structure Bk where
  st : Int
  si : Int
  cl : Int
  ow : Int
  bo : Int
  dl : Int

def b0 : Bk := ⟨0, 0, 0, 0, 0, 0⟩
def thr (s : Bk) (a b : Int) : Bk × Bool := if s.st = 0 then (⟨1, 0, 0, 0, cut a, cut b⟩, true) else (s, false)
def gre (s : Bk) (a : Int) : Bk × Bool := if s.st = 1 then (⟨2, cut a, 0, 0, s.bo, s.dl⟩, true) else (s, false)
def bin (s : Bk) (a : Int) : Bk × Bool := if s.st = 2 ∧ 1 ≤ a then (⟨3, 0, a, 0, s.bo, s.dl⟩, true) else (s, false)
def sen (s : Bk) : Bk × Bool := if s.st = 3 then (⟨s.st, s.si, s.cl, s.ow + 1, s.bo, s.dl⟩, true) else (s, false)
def got (s : Bk) : Bk × Bool := if s.st = 3 ∧ 0 < s.ow then (⟨s.st, s.si, s.cl, s.ow - 1, s.bo, s.dl⟩, true) else (s, false)
def fre (s : Bk) (a : Int) : Bk × Bool := if s.st = 3 ∧ s.ow = 0 then (⟨2, cut a, 0, 0, s.bo, s.dl⟩, true) else (s, false)
def kil (s : Bk) : Bk × Bool := if s.st = 4 then (s, false) else (⟨4, 0, 0, 0, s.bo, s.dl⟩, true)
/-- A step of kind k. -/
def stp (k a b : Int) (s : Bk) : Bk × Bool :=
  if k = 0 then thr s a b else if k = 1 then gre s a else if k = 2 then bin s a else if k = 3 then sen s else if k = 4 then got s else if k = 5 then fre s a else kil s

def oldB (s : Bk) (n : Int) : Bool := !(s.st == 0) && (!(s.st == 4) && past n s.dl)
def staB (s : Bk) (n i : Int) : Bool := (s.st == 2) && past n (add s.si i)

/-- What always holds of it, behind at most n calls. -/
structure Inv (s : Bk) (n : Int) : Prop where
  s0 : 0 ≤ s.st
  s4 : s.st ≤ 4
  o0 : 0 ≤ s.ow
  on : s.ow ≤ n
  busy : s.st = 3 → 1 ≤ s.cl
  free : s.st ≠ 3 → s.cl = 0 ∧ s.ow = 0
  idle : s.st ≠ 2 → s.si = 0

theorem inv0 : Inv b0 0 := ⟨by decide, by decide, by decide, by decide, by decide, fun _ => ⟨rfl, rfl⟩, fun _ => rfl⟩
theorem Inv.up {s : Bk} {n m : Int} (h : Inv s n) (hm : n ≤ m) : Inv s m := ⟨h.s0, h.s4, h.o0, Int.le_trans h.on hm, h.busy, h.free, h.idle⟩

theorem inv_stp {s : Bk} {n : Int} (h : Inv s n) (h0 : 0 ≤ n) (k a b : Int) : Inv (stp k a b s).1 (n + 1) := by
  obtain ⟨h1, h2, h3, h4, h5, h6, h7⟩ := h
  unfold stp thr gre bin sen got fre kil
  repeat' split
  all_goals first
    | exact ⟨h1, h2, h3, by omega, h5, h6, h7⟩
    | (constructor <;> dsimp only <;> omega)
    | (constructor <;> dsimp only <;> intros <;> first | omega | (constructor <;> omega))

end Go.Proofs.YtnbpkjfaopfapaaDoor
