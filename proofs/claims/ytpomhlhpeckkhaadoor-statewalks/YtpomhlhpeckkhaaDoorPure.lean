/-
  What a host is, as plain mathematics: where each event leads from each state, rows of events, the names of states and events. No conditions.
-/
import Derived.Test.YtpomhlhpeckkhaaDoorRows
namespace Go.Proofs.YtpomhlhpeckkhaaDoor

/-- Where events lead, row by row; -1: it does nothing there. -/
def tab : List Int := [1, -1, 2, -1, -1, 1, -1, -1, 0, -1, -1, 3, -1, 0, 1, -1, -1, 0, -1, 1, -1, -1, 0, -1, -1, -1, -1, 0]
def inS (s : Int) : Bool := decide (0 ≤ s) && decide (s ≤ 3)
def inE (e : Int) : Bool := decide (0 ≤ e) && decide (e ≤ 6)
def ld (s e : Int) : Int := tab.getD (s.toNat * 7 + e.toNat) 0
/-- Did it do anything? -/
def did (s e : Int) : Bool := inS s && (inE e && !(ld s e == -1))
/-- The state behind it. -/
def nx (s e : Int) : Int := if did s e = true then ld s e else s

theorem inS_iff {s : Int} : inS s = true ↔ 0 ≤ s ∧ s ≤ 3 := by simp [inS]
theorem inE_iff {e : Int} : inE e = true ↔ 0 ≤ e ∧ e ≤ 6 := by simp [inE]
theorem inS_false {s : Int} (h : ¬ (0 ≤ s ∧ s ≤ 3)) : inS s = false := by
  cases hb : inS s with
  | false => rfl
  | true => exact absurd (inS_iff.1 hb) h
theorem inE_false {e : Int} (h : ¬ (0 ≤ e ∧ e ≤ 6)) : inE e = false := by
  cases hb : inE e with
  | false => rfl
  | true => exact absurd (inE_iff.1 hb) h
theorem did_outS {s e : Int} (h : inS s = false) : did s e = false := by simp [did, h]
theorem did_outE {s e : Int} (h : inE e = false) : did s e = false := by simp [did, h]
theorem nx_still {s e : Int} (h : did s e = false) : nx s e = s := by simp [nx, h]
theorem nx_did {s e : Int} (h : did s e = true) : nx s e = ld s e := by simp [nx, h]

theorem four {s : Int} (h0 : 0 ≤ s) (h1 : s ≤ 3) : s = 0 ∨ s = 1 ∨ s = 2 ∨ s = 3 := by omega
theorem seven {e : Int} (h0 : 0 ≤ e) (h1 : e ≤ 6) : e = 0 ∨ e = 1 ∨ e = 2 ∨ e = 3 ∨ e = 4 ∨ e = 5 ∨ e = 6 := by omega

/-- A state stays a state. -/
theorem nx_in {s : Int} (e : Int) (h0 : 0 ≤ s) (h1 : s ≤ 3) : 0 ≤ nx s e ∧ nx s e ≤ 3 := by
  by_cases he : 0 ≤ e ∧ e ≤ 6
  · rcases four h0 h1 with rfl | rfl | rfl | rfl <;> rcases seven he.1 he.2 with rfl | rfl | rfl | rfl | rfl | rfl | rfl <;> decide
  · rw [nx_still (did_outE (inE_false he))]
    exact ⟨h0, h1⟩

/-- What did something does nothing, if it comes again. -/
theorem again_not {s e : Int} (h : did s e = true) : did (nx s e) e = false := by
  have hs : inS s = true := by simp [did] at h; exact h.1
  have he : inE e = true := by simp [did] at h; exact h.2.1
  obtain ⟨h0, h1⟩ := inS_iff.1 hs
  obtain ⟨h2, h3⟩ := inE_iff.1 he
  clear hs he
  rcases four h0 h1 with rfl | rfl | rfl | rfl <;> rcases seven h2 h3 with rfl | rfl | rfl | rfl | rfl | rfl | rfl <;> revert h <;> decide

/-- A retired host stays so but by Undrain and Enter. -/
theorem nx_three {e : Int} (h1 : ¬ e = 1) (h6 : ¬ e = 6) : nx 3 e = 3 := by
  by_cases he : 0 ≤ e ∧ e ≤ 6
  · rcases seven he.1 he.2 with rfl | rfl | rfl | rfl | rfl | rfl | rfl <;> first | decide | exact absurd rfl h1 | exact absurd rfl h6
  · exact nx_still (did_outE (inE_false he))

/-- Row by row. -/
theorem did0 (e : Int) : did 0 e = (decide (e = 0) || decide (e = 5) || decide (e = 2)) := by
  by_cases he : 0 ≤ e ∧ e ≤ 6
  · rcases seven he.1 he.2 with rfl | rfl | rfl | rfl | rfl | rfl | rfl <;> decide
  · rw [did_outE (inE_false he)]
    have a0 : ¬ e = 0 := by omega
    have a1 : ¬ e = 5 := by omega
    have a2 : ¬ e = 2 := by omega
    simp [a0, a1, a2]
theorem did1 (e : Int) : did 1 e = (decide (e = 1) || decide (e = 6) || decide (e = 4)) := by
  by_cases he : 0 ≤ e ∧ e ≤ 6
  · rcases seven he.1 he.2 with rfl | rfl | rfl | rfl | rfl | rfl | rfl <;> decide
  · rw [did_outE (inE_false he)]
    have a0 : ¬ e = 1 := by omega
    have a1 : ¬ e = 6 := by omega
    have a2 : ¬ e = 4 := by omega
    simp [a0, a1, a2]
theorem did2 (e : Int) : did 2 e = (decide (e = 0) || decide (e = 5) || decide (e = 3)) := by
  by_cases he : 0 ≤ e ∧ e ≤ 6
  · rcases seven he.1 he.2 with rfl | rfl | rfl | rfl | rfl | rfl | rfl <;> decide
  · rw [did_outE (inE_false he)]
    have a0 : ¬ e = 0 := by omega
    have a1 : ¬ e = 5 := by omega
    have a2 : ¬ e = 3 := by omega
    simp [a0, a1, a2]
theorem did3 (e : Int) : did 3 e = (decide (e = 1) || decide (e = 6)) := by
  by_cases he : 0 ≤ e ∧ e ≤ 6
  · rcases seven he.1 he.2 with rfl | rfl | rfl | rfl | rfl | rfl | rfl <;> decide
  · rw [did_outE (inE_false he)]
    have a0 : ¬ e = 1 := by omega
    have a1 : ¬ e = 6 := by omega
    simp [a0, a1]

/-- The state behind a row of events. -/
def wk (s : Int) : List Int → Int
  | [] => s
  | e :: r => wk (nx s e) r
/-- How many of them did anything. -/
def wn (s : Int) : List Int → Nat
  | [] => 0
  | e :: r => (if did s e = true then 1 else 0) + wn (nx s e) r
/-- Those that did anything. -/
def wd (s : Int) : List Int → List Int
  | [] => []
  | e :: r => (if did s e = true then [e] else []) ++ wd (nx s e) r

theorem wk_append (s : Int) (l m : List Int) : wk s (l ++ m) = wk (wk s l) m := by
  induction l generalizing s with
  | nil => rfl
  | cons e r ih => exact ih _
theorem wn_append (s : Int) (l m : List Int) : wn s (l ++ m) = wn s l + wn (wk s l) m := by
  induction l generalizing s with
  | nil => simp [wn, wk]
  | cons e r ih => simp only [List.cons_append, wn, wk, ih]; omega
theorem wd_append (s : Int) (l m : List Int) : wd s (l ++ m) = wd s l ++ wd (wk s l) m := by
  induction l generalizing s with
  | nil => simp [wd, wk]
  | cons e r ih => simp only [List.cons_append, wd, wk, ih, List.append_assoc]
theorem wn_le (s : Int) (l : List Int) : wn s l ≤ l.length := by
  induction l generalizing s with
  | nil => exact Nat.le_refl _
  | cons e r ih =>
    have := ih (nx s e)
    simp only [wn, List.length_cons]
    split <;> omega
theorem wd_length (s : Int) (l : List Int) : (wd s l).length = wn s l := by
  induction l generalizing s with
  | nil => rfl
  | cons e r ih =>
    simp only [wd, wn, List.length_append, ih]
    split <;> rfl
/-- Those that did nothing may be left out. -/
theorem wd_same (s : Int) (l : List Int) : wk s (wd s l) = wk s l ∧ wn s (wd s l) = wn s l := by
  induction l generalizing s with
  | nil => exact ⟨rfl, rfl⟩
  | cons e r ih =>
    obtain ⟨h1, h2⟩ := ih (nx s e)
    by_cases h : did s e = true
    · simp only [wd, wk, wn, if_pos h, List.cons_append, List.nil_append, h1, h2]
      exact ⟨trivial, trivial⟩
    · have hf : did s e = false := by simpa using h
      rw [nx_still hf] at h1 h2
      simp only [wd, wk, wn, if_neg h, List.nil_append, h1, h2, nx_still hf]
      exact ⟨trivial, by omega⟩

theorem take_snoc (zs : List Int) (k : Nat) (hk : k < zs.length) : zs.take (k + 1) = zs.take k ++ [zs.getD k 0] := by
  rw [List.take_succ_eq_append_getElem hk]
  simp [List.getD, List.getElem?_eq_getElem hk]
theorem wk_snoc (s : Int) (l : List Int) (e : Int) : wk s (l ++ [e]) = nx (wk s l) e := by rw [wk_append]; rfl
theorem wn_snoc (s : Int) (l : List Int) (e : Int) : wn s (l ++ [e]) = wn s l + (if did (wk s l) e = true then 1 else 0) := by rw [wn_append]; rfl
theorem wd_snoc (s : Int) (l : List Int) (e : Int) : wd s (l ++ [e]) = wd s l ++ (if did (wk s l) e = true then [e] else []) := by rw [wd_append]; simp [wd]

/-- The states' names. -/
def nms : List ByteArray := [⟨#[97, 99, 116, 105, 118, 101]⟩, ⟨#[100, 114, 97, 105, 110, 105, 110, 103]⟩, ⟨#[113, 117, 97, 114, 97, 110, 116, 105, 110, 101, 100]⟩, ⟨#[114, 101, 116, 105, 114, 101, 100]⟩]
/-- The events' names. -/
def evs : List ByteArray := [⟨#[100, 114, 97, 105, 110]⟩, ⟨#[117, 110, 100, 114, 97, 105, 110]⟩, ⟨#[101, 106, 101, 99, 116]⟩, ⟨#[112, 114, 111, 98, 101]⟩, ⟨#[101, 109, 112, 116, 121]⟩, ⟨#[108, 101, 97, 118, 101]⟩, ⟨#[101, 110, 116, 101, 114]⟩]
def nm (s : Int) : ByteArray := if inS s = true then nms.getD s.toNat ⟨#[]⟩ else ⟨#[]⟩
def ev (e : Int) : ByteArray := if inE e = true then evs.getD e.toNat ⟨#[]⟩ else ⟨#[]⟩
theorem nm_out {s : Int} (h : inS s = false) : nm s = ⟨#[]⟩ := by unfold nm; rw [h]; rfl
theorem ev_out {s : Int} (h : inE s = false) : ev s = ⟨#[]⟩ := by unfold ev; rw [h]; rfl

end Go.Proofs.YtpomhlhpeckkhaaDoor
