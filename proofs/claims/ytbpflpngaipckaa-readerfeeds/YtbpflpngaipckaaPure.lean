/-
  Plain mathematics of frames as bytes: caps, checks, the head and the frame at the beginning of a list of bytes, all frames of it, and a frame's bytes; nothing of the program. No conditions.
-/
import Derived.Lib.AppendStr
import Derived.Laws.BytesArg
namespace Go.Proofs.Ytbpflpngaipckaa

def capd (c : Int) : Int := if c < 0 then 0 else if 1024 < c then 1024 else c
theorem capd_lo (c : Int) : 0 ≤ capd c := by unfold capd; split <;> (try split) <;> omega
theorem capd_hi (c : Int) : capd c ≤ 1024 := by unfold capd; split <;> (try split) <;> omega
theorem capd_neg {c : Int} (h : c < 0) : capd c = 0 := by unfold capd; rw [if_pos h]
theorem capd_big {c : Int} (h : 1024 < c) : capd c = 1024 := by unfold capd; rw [if_neg (by omega), if_pos h]
theorem capd_mid {c : Int} (h0 : 0 ≤ c) (h1 : c ≤ 1024) : capd c = c := by unfold capd; rw [if_neg (by omega), if_neg (by omega)]

def kn (k : Int) : Bool := decide (1 ≤ k ∧ k ≤ 8)
theorem kn_true {k : Int} (h1 : 1 ≤ k) (h2 : k ≤ 8) : kn k = true := by simp [kn, h1, h2]
theorem kn_false {k : Int} (h : ¬ (1 ≤ k ∧ k ≤ 8)) : kn k = false := by simpa [kn] using h
theorem kn_iff {k : Int} : kn k = true ↔ 1 ≤ k ∧ k ≤ 8 := by simp [kn]

def chk (k n c : Int) : Int := if k < 1 ∨ 8 < k then 4 else if capd c < n then 3 else 0
theorem chk_kind {k n c : Int} (h : ¬ (1 ≤ k ∧ k ≤ 8)) : chk k n c = 4 := by unfold chk; rw [if_pos (by omega)]
theorem chk_big {k n c : Int} (h1 : 1 ≤ k) (h2 : k ≤ 8) (h : capd c < n) : chk k n c = 3 := by unfold chk; rw [if_neg (by omega), if_pos h]
theorem chk_ok {k n c : Int} (h1 : 1 ≤ k) (h2 : k ≤ 8) (h : n ≤ capd c) : chk k n c = 0 := by unfold chk; rw [if_neg (by omega), if_neg (by omega)]
theorem chk_zero {k n c : Int} (h : chk k n c = 0) : 1 ≤ k ∧ k ≤ 8 ∧ n ≤ capd c := by
  unfold chk at h
  split at h
  · omega
  · split at h <;> omega
theorem chk_bd (k n c : Int) : 0 ≤ chk k n c ∧ chk k n c ≤ 4 := by unfold chk; split <;> (try split) <;> omega

/-- The text of bytes. -/
def mkS (l : List UInt8) : ByteArray := ⟨l.toArray⟩
theorem mkS_size (l : List UInt8) : (mkS l).size = l.length := by simp [mkS, ByteArray.size]
theorem mkS_data (l : List UInt8) : (mkS l).data.toList = l := by simp [mkS]
theorem mkS_of (s : ByteArray) : mkS s.data.toList = s := by cases s; simp [mkS]
theorem strOf_mkS (l : List UInt8) : strOfNums (l.map fun b => (b.toNat : Int)) = mkS l := by
  unfold strOfNums mkS
  congr 2
  rw [List.map_map]
  conv => rhs; rw [← List.map_id l]
  apply List.map_congr_left
  intro b _
  simp

/-- A frame: its kind, its text. -/
structure Fr where
  k : Int
  s : ByteArray

def Fr.zero : Fr := ⟨0, ByteArray.empty⟩

/-- The head at the beginning of bytes: kind, how many follow, error. -/
def headB (bs : List UInt8) (c : Int) : Int × Int × Int :=
  match bs with
  | a :: b :: d :: _ => if chk a.toNat (b.toNat * 256 + d.toNat) c = 0 then (a.toNat, b.toNat * 256 + d.toNat, 0) else (0, 0, chk a.toNat (b.toNat * 256 + d.toNat) c)
  | _ => (0, 0, 2)

theorem headB_short {bs : List UInt8} {c : Int} (h : bs.length < 3) : headB bs c = (0, 0, 2) := by
  match bs, h with
  | [], _ => rfl
  | [_], _ => rfl
  | [_, _], _ => rfl
  | _ :: _ :: _ :: _, h => simp at h; omega

theorem headB_bad {a b d : UInt8} {r : List UInt8} {c : Int} (h : chk a.toNat (b.toNat * 256 + d.toNat) c ≠ 0) : headB (a :: b :: d :: r) c = (0, 0, chk a.toNat (b.toNat * 256 + d.toNat) c) := by
  simp only [headB, if_neg h]
theorem headB_ok {a b d : UInt8} {r : List UInt8} {c : Int} (h : chk a.toNat (b.toNat * 256 + d.toNat) c = 0) : headB (a :: b :: d :: r) c = ((a.toNat : Int), (b.toNat : Int) * 256 + (d.toNat : Int), (0 : Int)) := by
  simp only [headB, if_pos h]

/-- Either the error is not none, and the numbers are nought; or the head is there. -/
theorem headB_cases (bs : List UInt8) (c : Int) : ((headB bs c).2.2 ≠ 0 ∧ (headB bs c).1 = 0 ∧ (headB bs c).2.1 = 0 ∧ 0 ≤ (headB bs c).2.2 ∧ (headB bs c).2.2 ≤ 4) ∨
    ((headB bs c).2.2 = 0 ∧ 1 ≤ (headB bs c).1 ∧ (headB bs c).1 ≤ 8 ∧ 0 ≤ (headB bs c).2.1 ∧ (headB bs c).2.1 ≤ capd c ∧ 3 ≤ bs.length) := by
  match bs with
  | [] => left; simp [headB]
  | [_] => left; simp [headB]
  | [_, _] => left; simp [headB]
  | a :: b :: d :: r =>
    by_cases h : chk a.toNat (b.toNat * 256 + d.toNat) c = 0
    · right
      rw [headB_ok h]
      have := chk_zero h
      refine ⟨rfl, this.1, this.2.1, ?_, this.2.2, by simp⟩
      show (0 : Int) ≤ b.toNat * 256 + d.toNat
      omega
    · left
      rw [headB_bad h]
      have := chk_bd a.toNat (b.toNat * 256 + d.toNat) c
      exact ⟨h, rfl, rfl, this.1, this.2⟩

/-- The frame at the beginning, how many bytes it has, the error. -/
def readB (bs : List UInt8) (c : Int) : Fr × Int × Int :=
  if (headB bs c).2.2 ≠ 0 then (Fr.zero, 0, (headB bs c).2.2)
  else if (bs.length : Int) < 3 + (headB bs c).2.1 then (Fr.zero, 0, 2)
  else (⟨(headB bs c).1, mkS ((bs.drop 3).take (headB bs c).2.1.toNat)⟩, 3 + (headB bs c).2.1, 0)

theorem readB_head {bs : List UInt8} {c : Int} (h : (headB bs c).2.2 ≠ 0) : readB bs c = (Fr.zero, 0, (headB bs c).2.2) := by
  unfold readB; rw [if_pos h]
theorem readB_part {bs : List UInt8} {c : Int} (h : (headB bs c).2.2 = 0) (hl : (bs.length : Int) < 3 + (headB bs c).2.1) : readB bs c = (Fr.zero, 0, 2) := by
  unfold readB; rw [if_neg (by simpa using h), if_pos hl]
theorem readB_ok {bs : List UInt8} {c : Int} (h : (headB bs c).2.2 = 0) (hl : 3 + (headB bs c).2.1 ≤ (bs.length : Int)) : readB bs c = (⟨(headB bs c).1, mkS ((bs.drop 3).take (headB bs c).2.1.toNat)⟩, 3 + (headB bs c).2.1, 0) := by
  unfold readB; rw [if_neg (by simpa using h), if_neg (by omega)]

theorem readB_bd (bs : List UInt8) (c : Int) : 0 ≤ (readB bs c).2.2 ∧ (readB bs c).2.2 ≤ 4 ∧ 0 ≤ (readB bs c).2.1 ∧ (readB bs c).2.1 ≤ bs.length ∧ ((readB bs c).2.2 = 0 → 3 ≤ (readB bs c).2.1) := by
  rcases headB_cases bs c with ⟨h, _, _, h4, h5⟩ | ⟨h, _, _, h4, _, _⟩
  · rw [readB_head h]
    exact ⟨h4, h5, Int.le_refl _, by simp, fun e => absurd e h⟩
  · by_cases hl : (bs.length : Int) < 3 + (headB bs c).2.1
    · rw [readB_part h hl]
      refine ⟨by decide, by decide, by decide, by simp, fun e => ?_⟩
      exact absurd e (by decide)
    · rw [readB_ok h (by omega)]
      refine ⟨Int.le_refl _, (by decide : (0 : Int) ≤ 4), ?_, ?_, fun _ => ?_⟩
      · show (0 : Int) ≤ 3 + (headB bs c).2.1; omega
      · show 3 + (headB bs c).2.1 ≤ (bs.length : Int); omega
      · show (3 : Int) ≤ 3 + (headB bs c).2.1; omega

/-- All frames: so many rounds at most. -/
def allF : Nat → List UInt8 → Int → List Fr × Nat × Int
  | 0, _, _ => ([], 0, 0)
  | f + 1, bs, c =>
    if (readB bs c).2.2 = 2 then ([], 0, 0)
    else if (readB bs c).2.2 ≠ 0 then ([], 0, (readB bs c).2.2)
    else ((readB bs c).1 :: (allF f (bs.drop (readB bs c).2.1.toNat) c).1, (readB bs c).2.1.toNat + (allF f (bs.drop (readB bs c).2.1.toNat) c).2.1, (allF f (bs.drop (readB bs c).2.1.toNat) c).2.2)

theorem allF_form {f : Nat} {bs : List UInt8} {c : Int} (h : (readB bs c).2.2 = 2) : allF (f + 1) bs c = ([], 0, 0) := by
  simp only [allF, if_pos h]
theorem allF_bad {f : Nat} {bs : List UInt8} {c : Int} (h : (readB bs c).2.2 ≠ 2) (h0 : (readB bs c).2.2 ≠ 0) : allF (f + 1) bs c = ([], 0, (readB bs c).2.2) := by
  simp only [allF, if_neg h, if_pos h0]
theorem allF_step {f : Nat} {bs : List UInt8} {c : Int} (h0 : (readB bs c).2.2 = 0) :
    allF (f + 1) bs c = ((readB bs c).1 :: (allF f (bs.drop (readB bs c).2.1.toNat) c).1, (readB bs c).2.1.toNat + (allF f (bs.drop (readB bs c).2.1.toNat) c).2.1, (allF f (bs.drop (readB bs c).2.1.toNat) c).2.2) := by
  have h2 : ¬ (readB bs c).2.2 = 2 := by rw [h0]; decide
  have h3 : ¬ (readB bs c).2.2 ≠ 0 := by simpa using h0
  simp only [allF, if_neg h2, if_neg h3]

/-- A frame's bytes. -/
def encB (f : Fr) : List UInt8 := UInt8.ofNat f.k.toNat :: UInt8.ofNat (f.s.size / 256) :: UInt8.ofNat (f.s.size % 256) :: f.s.data.toList
theorem encB_length (f : Fr) : (encB f).length = 3 + f.s.size := by
  have : f.s.data.toList.length = f.s.size := Array.length_toList
  simp only [encB, List.length_cons, this]
  omega

end Go.Proofs.Ytbpflpngaipckaa
