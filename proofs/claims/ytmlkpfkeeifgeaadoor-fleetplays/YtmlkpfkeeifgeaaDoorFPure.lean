/-
  What a fleet's calls answer and leave, as plain functions on lists of hosts and drains. No conditions.
-/
import Derived.Test.YtmlkpfkeeifgeaaDoorFMem
import Derived.Test.YtmlkpfkeeifgeaaDoorBeg
import Derived.Test.YtmlkpfkeeifgeaaDoorGd
import Derived.Test.YtmlkpfkeeifgeaaDoorDf
namespace Go.Proofs.YtmlkpfkeeifgeaaDoor

/-- The place of a host; -1, if there is none. -/
def pl (x : ByteArray) (H : List Hs) : Int := plc x (hn H)
def plN (x : ByteArray) (H : List Hs) : Nat := fidx x (hn H)
def isH (x : ByteArray) (H : List Hs) : Bool := decide (plN x H < H.length)
theorem isH_iff {x : ByteArray} {H : List Hs} : isH x H = true ↔ x ∈ hn H := by
  unfold isH plN
  rw [decide_eq_true_iff, ← fidx_mem, hn_length]
theorem isH_not {x : ByteArray} {H : List Hs} : isH x H = false ↔ x ∉ hn H := by rw [← isH_iff]; cases isH x H <;> simp
theorem pl_yes {x : ByteArray} {H : List Hs} (h : isH x H = true) : pl x H = plN x H ∧ plN x H < H.length :=
  ⟨plc_mem (isH_iff.1 h), by unfold isH at h; exact of_decide_eq_true h⟩
theorem pl_no {x : ByteArray} {H : List Hs} (h : isH x H = false) : pl x H = -1 := plc_not (isH_not.1 h)
theorem pl_nm {x : ByteArray} {H : List Hs} (h : isH x H = true) : (atH H (plN x H)).nm = x := by
  have := pl_yes h
  rw [← hn_getD]
  exact fidx_at x _ (by rw [hn_length]; exact this.2)
/-- The host of a name. -/
def ofN (x : ByteArray) (H : List Hs) : Hs := atH H (plN x H)
/-- What is wrong with a name. -/
def errF (x : ByteArray) (H : List Hs) : Int := if nameB x = false then 11 else if isH x H = false then 5 else 0
/-- An event of the host of a place. -/
def tnH (i : Nat) (ev : Int) (H : List Hs) : List Hs := setS H i (St.nx (atH H i).st ev)
theorem tnH_length (i : Nat) (ev : Int) (H : List Hs) : (tnH i ev H).length = H.length := setS_length _ _ _
theorem hn_tnH {i : Nat} {H : List Hs} (h : i < H.length) (ev : Int) : hn (tnH i ev H) = hn H := hn_setS h _
/-- May the host leave? -/
def mayF (x : ByteArray) (H : List Hs) (e gd : Int) : Bool := Gd.mayB (hz H) (pl x H) e gd

/-- A fleet's state. -/
structure Fl where
  H : List Hs
  L : List Dr
  M : List Dr

def drE (x : ByteArray) (s : Fl) : Int := if errF x s.H = 0 then (if (ofN x s.H).st = 1 ∨ (ofN x s.H).st = 3 then 8 else askE x s.L s.M) else errF x s.H
def drS (x : ByteArray) (s : Fl) : Fl := if drE x s = 0 then ⟨s.H, askL x s.L s.M, s.M⟩ else s
def unE (x : ByteArray) (s : Fl) : Int := if errF x s.H = 0 then (if (ofN x s.H).lv = true then 8 else if isIn x s.L = false ∧ St.did (ofN x s.H).st 1 = false then 8 else 0) else errF x s.H
def unS (x : ByteArray) (s : Fl) : Fl := if unE x s = 0 then ⟨if isIn x s.L = true then s.H else tnH (plN x s.H) 1 s.H, wo x s.L, wo x s.M⟩ else s
def foE (x : ByteArray) (s : Fl) : Int := if errF x s.H = 0 then (if (ofN x s.H).st = 3 then 8 else 0) else errF x s.H
def foS (x : ByteArray) (d : Int) (s : Fl) : Fl := if foE x s = 0 then ⟨tnH (plN x s.H) 0 s.H, begL x (wo x s.L) (wo x s.M), begM x d (wo x s.M)⟩ else s
def ejE (x : ByteArray) (e gd : Int) (s : Fl) : Int := if errF x s.H = 0 then (if (ofN x s.H).st = 0 then (if mayF x s.H e gd = true then 0 else 9) else 8) else errF x s.H
def ejS (x : ByteArray) (e gd : Int) (s : Fl) : Fl := if ejE x e gd s = 0 then ⟨tnH (plN x s.H) 2 s.H, s.L, s.M⟩ else s
def prB (x : ByteArray) (s : Fl) : Bool := isH x s.H && St.did (ofN x s.H).st 3
def prS (x : ByteArray) (s : Fl) : Fl := if prB x s = true then ⟨tnH (plN x s.H) 3 s.H, s.L, s.M⟩ else s
def emB (x : ByteArray) (s : Fl) : Bool := isH x s.H && St.did (ofN x s.H).st 4
def emS (x : ByteArray) (s : Fl) : Fl := if emB x s = true then ⟨if (ofN x s.H).lv = true then s.H.eraseIdx (plN x s.H) else tnH (plN x s.H) 4 s.H, wo x s.L, wo x s.M⟩ else s
/-- Drains are admitted, one behind the other: the hosts, those that wait still, those under way, the names. -/
def adm (e gd d : Int) : List Hs → List Dr → List Dr → Fl × List ByteArray
  | H, [], M => (⟨H, [], M⟩, [])
  | H, p :: L, M => if mayF p.1 H e gd = true then ((adm e gd d (tnH (plN p.1 H) 0 H) L (begM p.1 d M)).1, p.1 :: (adm e gd d (tnH (plN p.1 H) 0 H) L (begM p.1 d M)).2) else (⟨H, p :: L, M⟩, [])
def adS (e gd d : Int) (s : Fl) : Fl := (adm e gd d s.H s.L s.M).1
def adN (e gd d : Int) (s : Fl) : List ByteArray := (adm e gd d s.H s.L s.M).2
/-- What stays of a host where hosts are resolved to l; whether it leaves now. -/
def lvNow (l : List ByteArray) (h : Hs) : Bool := !hasB l h.nm && !h.lv
def lvStay (l : List ByteArray) (h : Hs) : List Hs := if lvNow l h = false then [h] else if h.st = 3 then [] else [⟨h.nm, St.nx h.st 5, true⟩]
def lvBeg (l : List ByteArray) (h : Hs) : Bool := lvNow l h && (!decide (h.st = 3) && St.did h.st 5)
/-- Hosts leave: those that stay, those that wait, those under way, those that leave now. -/
def lvH (l : List ByteArray) : List Hs → List Hs
  | [] => []
  | h :: H => lvStay l h ++ lvH l H
def lvN (l : List ByteArray) : List Hs → List ByteArray
  | [] => []
  | h :: H => (if lvNow l h = true then [h.nm] else []) ++ lvN l H
def lvL (l : List ByteArray) (d : Int) : List Hs → List Dr → List Dr → List Dr × List Dr
  | [], L, M => (L, M)
  | h :: H, L, M => if lvBeg l h = true then lvL l d H (begL h.nm L M) (begM h.nm d M) else lvL l d H L M
def lvS (l : List ByteArray) (d : Int) (s : Fl) : Fl := ⟨lvH l s.H, (lvL l d s.H s.L s.M).1, (lvL l d s.H s.L s.M).2⟩
/-- A host enters, or is back. -/
def en1 (x : ByteArray) (s : Fl) : Fl := if isH x s.H = false then ⟨s.H ++ [⟨x, 0, false⟩], s.L, s.M⟩ else if (ofN x s.H).lv = true then ⟨tnH (plN x s.H) 6 (setV s.H (plN x s.H) false), wo x s.L, wo x s.M⟩ else s
def enN1 (x : ByteArray) (s : Fl) : List ByteArray := if isH x s.H = false then [x] else if (ofN x s.H).lv = true then [x] else []
def enS : List ByteArray → Fl → Fl
  | [], s => s
  | x :: l, s => enS l (en1 x s)
def enN : List ByteArray → Fl → List ByteArray
  | [], _ => []
  | x :: l, s => enN1 x s ++ enN l (en1 x s)
def reE (l : List ByteArray) : Int := Df.chk l
def reS (l : List ByteArray) (d : Int) (s : Fl) : Fl := if Df.chk l = 0 then enS l (lvS l d s) else s
def reC (l : List ByteArray) (d : Int) (s : Fl) : List ByteArray := if Df.chk l = 0 then enN l (lvS l d s) else []
def reN (l : List ByteArray) (s : Fl) : List ByteArray := if Df.chk l = 0 then lvN l s.H else []

theorem enS_append : ∀ (l m : List ByteArray) (s : Fl), enS (l ++ m) s = enS m (enS l s)
  | [], _, _ => rfl
  | x :: l, m, s => by
    show enS (l ++ m) (en1 x s) = enS m (enS l (en1 x s))
    exact enS_append l m _
theorem enN_append : ∀ (l m : List ByteArray) (s : Fl), enN (l ++ m) s = enN l s ++ enN m (enS l s)
  | [], _, _ => rfl
  | x :: l, m, s => by
    show enN1 x s ++ enN (l ++ m) (en1 x s) = (enN1 x s ++ enN l (en1 x s)) ++ enN m (enS l (en1 x s))
    rw [enN_append l m, List.append_assoc]
theorem lvH_append (l : List ByteArray) : ∀ H G, lvH l (H ++ G) = lvH l H ++ lvH l G
  | [], _ => rfl
  | h :: H, G => by simp [lvH, lvH_append l H G]
theorem lvN_append (l : List ByteArray) : ∀ H G, lvN l (H ++ G) = lvN l H ++ lvN l G
  | [], _ => rfl
  | h :: H, G => by simp [lvN, lvN_append l H G]
theorem lvL_append (l : List ByteArray) (d : Int) : ∀ H G L M, lvL l d (H ++ G) L M = lvL l d G (lvL l d H L M).1 (lvL l d H L M).2
  | [], _, _, _ => rfl
  | h :: H, G, L, M => by
    show (if lvBeg l h = true then lvL l d (H ++ G) (begL h.nm L M) (begM h.nm d M) else lvL l d (H ++ G) L M) = lvL l d G (if lvBeg l h = true then lvL l d H (begL h.nm L M) (begM h.nm d M) else lvL l d H L M).1 (if lvBeg l h = true then lvL l d H (begL h.nm L M) (begM h.nm d M) else lvL l d H L M).2
    split
    · exact lvL_append l d H G _ _
    · exact lvL_append l d H G _ _
theorem lvH_len (l : List ByteArray) : ∀ H, (lvH l H).length ≤ H.length
  | [] => Nat.le_refl _
  | h :: H => by
    have := lvH_len l H
    unfold lvH lvStay
    rw [List.length_append]
    split <;> (try split) <;> simp <;> omega
theorem lvN_len (l : List ByteArray) : ∀ H, (lvN l H).length ≤ H.length
  | [] => Nat.le_refl _
  | h :: H => by
    have := lvN_len l H
    unfold lvN
    rw [List.length_append]
    split <;> simp <;> omega
theorem enN_len : ∀ (l : List ByteArray) (s : Fl), (enN l s).length ≤ l.length
  | [], _ => Nat.le_refl _
  | x :: l, s => by
    have := enN_len l (en1 x s)
    unfold enN enN1
    rw [List.length_append]
    split <;> (try split) <;> simp <;> omega
theorem en1_len (x : ByteArray) (s : Fl) : (en1 x s).H.length ≤ s.H.length + 1 := by
  unfold en1
  split
  · simp
  · split
    · simp [tnH_length, setV_length]
    · simp
theorem enS_len : ∀ (l : List ByteArray) (s : Fl), (enS l s).H.length ≤ s.H.length + l.length
  | [], _ => Nat.le_refl _
  | x :: l, s => by
    have h1 := enS_len l (en1 x s)
    have h2 := en1_len x s
    show (enS l (en1 x s)).H.length ≤ _
    simp
    omega

end Go.Proofs.YtmlkpfkeeifgeaaDoor
