/-
  The table of states; what Next answers (package state's, and the document's own); what the start-up leaves. Condition: the table lies where it is said to lie.
-/
import Derived.Test.YtmlkpfkeeifgeaaDoorRows
import Derived.WalkKit
import Derived.ProofKit
import Derived.OpenShut
import Derived.WalkLawsBesides
import Derived.WalkSpells
import Derived.Deep.QuietTactic
import Derived.BigQuiet
import Derived.Test.YtmlkpfkeeifgeaaDoorTie
import Derived.LaidMore
import Derived.Stop.Joined
import Derived.Stop.LaidErr
namespace Go.Proofs.YtmlkpfkeeifgeaaDoor.St

/-- Where events lead, row by row; -1: it does nothing there. -/
def tab : List Int := [1, -1, 2, -1, -1, 1, -1, -1, 0, -1, -1, 3, -1, 0, 1, -1, -1, 0, -1, 1, -1, -1, 0, -1, -1, -1, -1, 0]
def inS (s : Int) : Bool := decide (0 ≤ s) && decide (s ≤ 3)
def inE (e : Int) : Bool := decide (0 ≤ e) && decide (e ≤ 6)
def ld (s e : Int) : Int := tab.getD (s.toNat * 7 + e.toNat) 0
/-- Did it do anything? -/
def did (s e : Int) : Bool := inS s && (inE e && !(ld s e == -1))
/-- The state behind it. -/
def nx (s e : Int) : Int := if did s e = true then ld s e else s

theorem inS_iff {s : Int} : inS s = true ↔ 0 ≤ s ∧ s ≤ 3 := by simp [inS]
theorem inE_iff {e : Int} : inE e = true ↔ 0 ≤ e ∧ e ≤ 6 := by simp [inE]
theorem inS_false {s : Int} (h : ¬ (0 ≤ s ∧ s ≤ 3)) : inS s = false := by
  cases hb : inS s with
  | false => rfl
  | true => exact absurd (inS_iff.1 hb) h
theorem inE_false {e : Int} (h : ¬ (0 ≤ e ∧ e ≤ 6)) : inE e = false := by
  cases hb : inE e with
  | false => rfl
  | true => exact absurd (inE_iff.1 hb) h
theorem did_outS {s e : Int} (h : inS s = false) : did s e = false := by simp [did, h]
theorem did_outE {s e : Int} (h : inE e = false) : did s e = false := by simp [did, h]
theorem nx_still {s e : Int} (h : did s e = false) : nx s e = s := by simp [nx, h]
theorem nx_did {s e : Int} (h : did s e = true) : nx s e = ld s e := by simp [nx, h]

theorem four {s : Int} (h0 : 0 ≤ s) (h1 : s ≤ 3) : s = 0 ∨ s = 1 ∨ s = 2 ∨ s = 3 := by omega
theorem seven {e : Int} (h0 : 0 ≤ e) (h1 : e ≤ 6) : e = 0 ∨ e = 1 ∨ e = 2 ∨ e = 3 ∨ e = 4 ∨ e = 5 ∨ e = 6 := by omega

/-- A state stays a state. -/
theorem nx_in {s : Int} (e : Int) (h0 : 0 ≤ s) (h1 : s ≤ 3) : 0 ≤ nx s e ∧ nx s e ≤ 3 := by
  by_cases he : 0 ≤ e ∧ e ≤ 6
  · rcases four h0 h1 with rfl | rfl | rfl | rfl <;> rcases seven he.1 he.2 with rfl | rfl | rfl | rfl | rfl | rfl | rfl <;> decide
  · rw [nx_still (did_outE (inE_false he))]
    exact ⟨h0, h1⟩

/-- What did something does nothing, if it comes again. -/
theorem again_not {s e : Int} (h : did s e = true) : did (nx s e) e = false := by
  have hs : inS s = true := by simp [did] at h; exact h.1
  have he : inE e = true := by simp [did] at h; exact h.2.1
  obtain ⟨h0, h1⟩ := inS_iff.1 hs
  obtain ⟨h2, h3⟩ := inE_iff.1 he
  clear hs he
  rcases four h0 h1 with rfl | rfl | rfl | rfl <;> rcases seven h2 h3 with rfl | rfl | rfl | rfl | rfl | rfl | rfl <;> revert h <;> decide

/-- A retired host stays so but by Undrain and Enter. -/
theorem nx_three {e : Int} (h1 : ¬ e = 1) (h6 : ¬ e = 6) : nx 3 e = 3 := by
  by_cases he : 0 ≤ e ∧ e ≤ 6
  · rcases seven he.1 he.2 with rfl | rfl | rfl | rfl | rfl | rfl | rfl <;> first | decide | exact absurd rfl h1 | exact absurd rfl h6
  · exact nx_still (did_outE (inE_false he))

/-- Row by row. -/
theorem did0 (e : Int) : did 0 e = (decide (e = 0) || decide (e = 5) || decide (e = 2)) := by
  by_cases he : 0 ≤ e ∧ e ≤ 6
  · rcases seven he.1 he.2 with rfl | rfl | rfl | rfl | rfl | rfl | rfl <;> decide
  · rw [did_outE (inE_false he)]
    have a0 : ¬ e = 0 := by omega
    have a1 : ¬ e = 5 := by omega
    have a2 : ¬ e = 2 := by omega
    simp [a0, a1, a2]
theorem did1 (e : Int) : did 1 e = (decide (e = 1) || decide (e = 6) || decide (e = 4)) := by
  by_cases he : 0 ≤ e ∧ e ≤ 6
  · rcases seven he.1 he.2 with rfl | rfl | rfl | rfl | rfl | rfl | rfl <;> decide
  · rw [did_outE (inE_false he)]
    have a0 : ¬ e = 1 := by omega
    have a1 : ¬ e = 6 := by omega
    have a2 : ¬ e = 4 := by omega
    simp [a0, a1, a2]
theorem did2 (e : Int) : did 2 e = (decide (e = 0) || decide (e = 5) || decide (e = 3)) := by
  by_cases he : 0 ≤ e ∧ e ≤ 6
  · rcases seven he.1 he.2 with rfl | rfl | rfl | rfl | rfl | rfl | rfl <;> decide
  · rw [did_outE (inE_false he)]
    have a0 : ¬ e = 0 := by omega
    have a1 : ¬ e = 5 := by omega
    have a2 : ¬ e = 3 := by omega
    simp [a0, a1, a2]
theorem did3 (e : Int) : did 3 e = (decide (e = 1) || decide (e = 6)) := by
  by_cases he : 0 ≤ e ∧ e ≤ 6
  · rcases seven he.1 he.2 with rfl | rfl | rfl | rfl | rfl | rfl | rfl <;> decide
  · rw [did_outE (inE_false he)]
    have a0 : ¬ e = 1 := by omega
    have a1 : ¬ e = 6 := by omega
    simp [a0, a1]

/-- The state behind a row of events. -/
def wk (s : Int) : List Int → Int
  | [] => s
  | e :: r => wk (nx s e) r
/-- How many of them did anything. -/
def wn (s : Int) : List Int → Nat
  | [] => 0
  | e :: r => (if did s e = true then 1 else 0) + wn (nx s e) r
/-- Those that did anything. -/
def wd (s : Int) : List Int → List Int
  | [] => []
  | e :: r => (if did s e = true then [e] else []) ++ wd (nx s e) r

theorem wk_append (s : Int) (l m : List Int) : wk s (l ++ m) = wk (wk s l) m := by
  induction l generalizing s with
  | nil => rfl
  | cons e r ih => exact ih _
theorem wn_append (s : Int) (l m : List Int) : wn s (l ++ m) = wn s l + wn (wk s l) m := by
  induction l generalizing s with
  | nil => simp [wn, wk]
  | cons e r ih => simp only [List.cons_append, wn, wk, ih]; omega
theorem wd_append (s : Int) (l m : List Int) : wd s (l ++ m) = wd s l ++ wd (wk s l) m := by
  induction l generalizing s with
  | nil => simp [wd, wk]
  | cons e r ih => simp only [List.cons_append, wd, wk, ih, List.append_assoc]
theorem wn_le (s : Int) (l : List Int) : wn s l ≤ l.length := by
  induction l generalizing s with
  | nil => exact Nat.le_refl _
  | cons e r ih =>
    have := ih (nx s e)
    simp only [wn, List.length_cons]
    split <;> omega
theorem wd_length (s : Int) (l : List Int) : (wd s l).length = wn s l := by
  induction l generalizing s with
  | nil => rfl
  | cons e r ih =>
    simp only [wd, wn, List.length_append, ih]
    split <;> rfl
/-- Those that did nothing may be left out. -/
theorem wd_same (s : Int) (l : List Int) : wk s (wd s l) = wk s l ∧ wn s (wd s l) = wn s l := by
  induction l generalizing s with
  | nil => exact ⟨rfl, rfl⟩
  | cons e r ih =>
    obtain ⟨h1, h2⟩ := ih (nx s e)
    by_cases h : did s e = true
    · simp only [wd, wk, wn, if_pos h, List.cons_append, List.nil_append, h1, h2]
      exact ⟨trivial, trivial⟩
    · have hf : did s e = false := by simpa using h
      rw [nx_still hf] at h1 h2
      simp only [wd, wk, wn, if_neg h, List.nil_append, h1, h2, nx_still hf]
      exact ⟨trivial, by omega⟩

theorem take_snoc (zs : List Int) (k : Nat) (hk : k < zs.length) : zs.take (k + 1) = zs.take k ++ [zs.getD k 0] := by
  rw [List.take_succ_eq_append_getElem hk]
  simp [List.getD, List.getElem?_eq_getElem hk]
theorem wk_snoc (s : Int) (l : List Int) (e : Int) : wk s (l ++ [e]) = nx (wk s l) e := by rw [wk_append]; rfl
theorem wn_snoc (s : Int) (l : List Int) (e : Int) : wn s (l ++ [e]) = wn s l + (if did (wk s l) e = true then 1 else 0) := by rw [wn_append]; rfl
theorem wd_snoc (s : Int) (l : List Int) (e : Int) : wd s (l ++ [e]) = wd s l ++ (if did (wk s l) e = true then [e] else []) := by rw [wd_append]; simp [wd]

/-- The states' names. -/
def nms : List ByteArray := [⟨#[97, 99, 116, 105, 118, 101]⟩, ⟨#[100, 114, 97, 105, 110, 105, 110, 103]⟩, ⟨#[113, 117, 97, 114, 97, 110, 116, 105, 110, 101, 100]⟩, ⟨#[114, 101, 116, 105, 114, 101, 100]⟩]
/-- The events' names. -/
def evs : List ByteArray := [⟨#[100, 114, 97, 105, 110]⟩, ⟨#[117, 110, 100, 114, 97, 105, 110]⟩, ⟨#[101, 106, 101, 99, 116]⟩, ⟨#[112, 114, 111, 98, 101]⟩, ⟨#[101, 109, 112, 116, 121]⟩, ⟨#[108, 101, 97, 118, 101]⟩, ⟨#[101, 110, 116, 101, 114]⟩]
def nm (s : Int) : ByteArray := if inS s = true then nms.getD s.toNat ⟨#[]⟩ else ⟨#[]⟩
def ev (e : Int) : ByteArray := if inE e = true then evs.getD e.toNat ⟨#[]⟩ else ⟨#[]⟩
theorem nm_out {s : Int} (h : inS s = false) : nm s = ⟨#[]⟩ := by unfold nm; rw [h]; rfl
theorem ev_out {s : Int} (h : inE s = false) : ev s = ⟨#[]⟩ := by unfold ev; rw [h]; rfl

end Go.Proofs.YtmlkpfkeeifgeaaDoor.St
namespace Go.Proofs.YtmlkpfkeeifgeaaDoor.St
open Go.ChangeShapes Go.WideShapes Go.ChangeAt Go.RowKit

theorem ret_int {k : IntKind} {a b : Int} (h : a = b) : Ending.returned (.int k a) = .returned (.int k b) := by rw [h]
theorem ret_bool {a b : Bool} (h : a = b) : Ending.returned (.bool a) = .returned (.bool b) := by rw [h]
theorem ret_str {a b : ByteArray} (h : a = b) : Ending.returned (.string a) = .returned (.string b) := by rw [h]
theorem ret_ib {a b : Int} {p q : Bool} (h : a = b) (h' : p = q) : Ending.returned (.tuple #[.int .i64 a, .bool p]) = .returned (.tuple #[.int .i64 b, .bool q]) := by rw [h, h']
theorem ret_ii {a b p q : Int} (h : a = b) (h' : p = q) : Ending.returned (.tuple #[.int .i64 a, .int .i64 p]) = .returned (.tuple #[.int .i64 b, .int .i64 q]) := by rw [h, h']

/-- The slice (a, len, cap) reads as the ints zs. -/
structure IntsAt (w : World) (a : Option Addr) (len cap : Nat) (zs : List Int) : Prop where
  hlen : zs.length = len
  hle : len ≤ cap
  hcap : cap ≤ maxLen
  at_ : ∀ j, j < len → ∃ b off, a = some ⟨b, off, none⟩ ∧ b < w.heap.size ∧ w.cell? ⟨b, off + j, none⟩ = some (.int .i64 (zs.getD j 0))

theorem IntsAt.below {w w' : World} {a : Option Addr} {len cap : Nat} {zs : List Int} (h : IntsAt w a len cap zs) (hb : Below w.heap.size w w') : IntsAt w' a len cap zs := by
  refine ⟨h.hlen, h.hle, h.hcap, fun j hj => ?_⟩
  obtain ⟨b, off, e, hlt, hc⟩ := h.at_ j hj
  exact ⟨b, off, e, Nat.lt_of_lt_of_le hlt hb.size, (hb.cell (p := ⟨b, off + j, none⟩) hlt).trans hc⟩
theorem IntsAt.take {w : World} {a : Option Addr} {len cap : Nat} {zs : List Int} (h : IntsAt w a len cap zs) {n : Nat} (hn : n ≤ len) : IntsAt w a n cap (zs.take n) := by
  refine ⟨by rw [List.length_take, h.hlen]; omega, Nat.le_trans hn h.hle, h.hcap, fun j hj => ?_⟩
  obtain ⟨b, off, e, hlt, hc⟩ := h.at_ j (by omega)
  refine ⟨b, off, e, hlt, hc.trans ?_⟩
  simp [List.getD, hj]

/-- The table of states: where events lead. -/
structure Tabs (w : World) : Prop where
  pos : 0 < w.heap.size
  leads : ∀ j, j < 28 → w.cell? ⟨0, j, none⟩ = some (.int .i64 (tab.getD j 0))
theorem Tabs.below {w w' : World} (h : Tabs w) (hb : Below w.heap.size w w') : Tabs w' :=
  ⟨Nat.lt_of_lt_of_le h.pos hb.size, fun j hj => (hb.cell (p := ⟨0, j, none⟩) h.pos).trans (h.leads j hj)⟩

end Go.Proofs.YtmlkpfkeeifgeaaDoor.St
namespace Go.Proofs.YtmlkpfkeeifgeaaDoor.St
open Go.ChangeShapes Go.WideShapes Go.ChangeAt Go.RowKit

theorem isState_any (s : Int) (w : World) :
    Calls Tryd.prog 102 #[.int .i64 s] w fun e w' => e = .returned (.bool (inS s)) ∧ w' = w := by
  by_cases h1 : 0 ≤ s
  · by_cases h2 : s ≤ 3
    · go_enter Tryd.func102, Tryd.ntmps102
      go_wp2
      go_ret
      exact ⟨ret_bool (inS_iff.2 ⟨h1, h2⟩).symm, rfl⟩
    · have hb : decide (s ≤ 3) = false := by simpa using h2
      go_enter Tryd.func102, Tryd.ntmps102
      go_wp2
      go_ret
      exact ⟨ret_bool (inS_false (by omega)).symm, rfl⟩
  · have hb : decide (0 ≤ s) = false := by simpa using h1
    go_enter Tryd.func102, Tryd.ntmps102
    go_wp2
    go_ret
    exact ⟨ret_bool (inS_false (by omega)).symm, rfl⟩

theorem isEvent_any (s : Int) (w : World) :
    Calls Tryd.prog 103 #[.int .i64 s] w fun e w' => e = .returned (.bool (inE s)) ∧ w' = w := by
  by_cases h1 : 0 ≤ s
  · by_cases h2 : s ≤ 6
    · go_enter Tryd.func103, Tryd.ntmps103
      go_wp2
      go_ret
      exact ⟨ret_bool (inE_iff.2 ⟨h1, h2⟩).symm, rfl⟩
    · have hb : decide (s ≤ 6) = false := by simpa using h2
      go_enter Tryd.func103, Tryd.ntmps103
      go_wp2
      go_ret
      exact ⟨ret_bool (inE_false (by omega)).symm, rfl⟩
  · have hb : decide (0 ≤ s) = false := by simpa using h1
    go_enter Tryd.func103, Tryd.ntmps103
    go_wp2
    go_ret
    exact ⟨ret_bool (inE_false (by omega)).symm, rfl⟩

end Go.Proofs.YtmlkpfkeeifgeaaDoor.St
namespace Go.Proofs.YtmlkpfkeeifgeaaDoor.St
open Go.ChangeShapes Go.WideShapes Go.ChangeAt Go.RowKit

set_option maxHeartbeats 1000000 in
theorem next_any (s e : Int) (w : World) (hn : Tabs w) :
    Calls Tryd.prog 85 #[.int .i64 s, .int .i64 e] w fun r w' => r = .returned (.tuple #[.int .i64 (nx s e), .bool (did s e)]) ∧ w' = w := by
  by_cases hs : 0 ≤ s ∧ s ≤ 3
  · have hks : inS s = true := inS_iff.2 hs
    by_cases he : 0 ≤ e ∧ e ≤ 6
    · have hke : inE e = true := inE_iff.2 he
      obtain ⟨i, rfl⟩ : ∃ i : Nat, s = i := ⟨s.toNat, by omega⟩
      obtain ⟨j, rfl⟩ : ∃ j : Nat, e = j := ⟨e.toNat, by omega⟩
      obtain ⟨h1, h2⟩ := hs
      obtain ⟨h3, h4⟩ := he
      have hi4 : (i : Int) < 4 := by omega
      have hj7 : (j : Int) < 7 := by omega
      have hc := hn.leads (i * 7 + j) (by omega)
      obtain ⟨x, hx⟩ : ∃ x, x = tab.getD (i * 7 + j) 0 := ⟨_, rfl⟩
      rw [← hx] at hc
      have hl : ld i j = x := by rw [hx]; rfl
      clear hx
      by_cases h : x = -1
      · have hd : did i j = false := by simp [did, hl, h]
        rw [nx_still hd, hd]
        subst h
        clear hd hl hn
        go_enter Tryd.func85, Tryd.ntmps85
        go_wp2_with (first
          | (go_at_call 102; refine (isState_any _ _).mono ?_; rintro e w' ⟨rfl, rfl⟩)
          | (go_at_call 103; refine (isEvent_any _ _).mono ?_; rintro e w' ⟨rfl, rfl⟩))
        go_ret2
        exact ⟨rfl, rfl⟩
      · have hd : did i j = true := by simp [did, hl, h, hks, hke]
        rw [nx_did hd, hd, hl]
        have h' : (x == -1) = false := by simpa using h
        clear hd hl hn h
        go_enter Tryd.func85, Tryd.ntmps85
        go_wp2_with (first
          | (go_at_call 102; refine (isState_any _ _).mono ?_; rintro e w' ⟨rfl, rfl⟩)
          | (go_at_call 103; refine (isEvent_any _ _).mono ?_; rintro e w' ⟨rfl, rfl⟩))
        go_ret2
        exact ⟨rfl, rfl⟩
    · have hke := inE_false he
      have hd : did s e = false := did_outE hke
      rw [nx_still hd, hd]
      clear hd hs he hn
      go_enter Tryd.func85, Tryd.ntmps85
      go_wp2_with (first
        | (go_at_call 102; refine (isState_any _ _).mono ?_; rintro e w' ⟨rfl, rfl⟩)
        | (go_at_call 103; refine (isEvent_any _ _).mono ?_; rintro e w' ⟨rfl, rfl⟩))
      go_ret2
      exact ⟨rfl, rfl⟩
  · have hks := inS_false hs
    have hd : did s e = false := did_outS hks
    rw [nx_still hd, hd]
    clear hd hs hn
    go_enter Tryd.func85, Tryd.ntmps85
    go_wp2_with (first
      | (go_at_call 102; refine (isState_any _ _).mono ?_; rintro e w' ⟨rfl, rfl⟩)
      | (go_at_call 103; refine (isEvent_any _ _).mono ?_; rintro e w' ⟨rfl, rfl⟩))
    go_ret2
    exact ⟨rfl, rfl⟩

/-- By names. -/
theorem next_n (s e : Int) (w : World) (hn : Tabs w) (t : Int) (b : Bool) (ht : nx s e = t) (hb : did s e = b) :
    Calls Tryd.prog 85 #[.int .i64 s, .int .i64 e] w fun r w' => r = .returned (.tuple #[.int .i64 t, .bool b]) ∧ w' = w := by
  rw [← ht, ← hb]
  exact next_any s e w hn

theorem rnext_out (s e : Int) (w : World) (h0 : (s == 0) = false) (h1 : (s == 1) = false) (h2 : (s == 2) = false) (h3 : (s == 3) = false) :
    Calls Tryd.prog 69 #[.int .i64 s, .int .i64 e] w fun r w' => r = .returned (.tuple #[.int .i64 s, .bool false]) ∧ w' = w := by
  go_enter Tryd.func69, Tryd.ntmps69
  go_wp2
  go_ret2
  exact ⟨rfl, rfl⟩

theorem rnext_0 (e : Int) (w : World) :
    Calls Tryd.prog 69 #[.int .i64 0, .int .i64 e] w fun r w' => r = .returned (.tuple #[.int .i64 (nx 0 e), .bool (did 0 e)]) ∧ w' = w := by
  by_cases h0 : e = 0
  · subst h0
    have hx : nx 0 0 = 1 := by decide
    have hd : did 0 0 = true := by decide
    rw [hx, hd]
    clear hx hd
    go_enter Tryd.func69, Tryd.ntmps69
    go_wp2
    go_ret2
    exact ⟨rfl, rfl⟩
  by_cases h5 : e = 5
  · subst h5
    have hx : nx 0 5 = 1 := by decide
    have hd : did 0 5 = true := by decide
    rw [hx, hd]
    clear hx hd
    go_enter Tryd.func69, Tryd.ntmps69
    go_wp2
    go_ret2
    exact ⟨rfl, rfl⟩
  by_cases h2 : e = 2
  · subst h2
    have hx : nx 0 2 = 2 := by decide
    have hd : did 0 2 = true := by decide
    rw [hx, hd]
    clear hx hd
    go_enter Tryd.func69, Tryd.ntmps69
    go_wp2
    go_ret2
    exact ⟨rfl, rfl⟩
  have hd : did 0 e = false := by rw [did0]; simp [h0, h5, h2]
  rw [nx_still hd, hd]
  have b0 : (e == 0) = false := by simpa using h0
  have b5 : (e == 5) = false := by simpa using h5
  have b2 : (e == 2) = false := by simpa using h2
  clear hd h0 h5 h2
  go_enter Tryd.func69, Tryd.ntmps69
  go_wp2
  go_ret2
  exact ⟨rfl, rfl⟩

theorem rnext_1 (e : Int) (w : World) :
    Calls Tryd.prog 69 #[.int .i64 1, .int .i64 e] w fun r w' => r = .returned (.tuple #[.int .i64 (nx 1 e), .bool (did 1 e)]) ∧ w' = w := by
  by_cases h1 : e = 1
  · subst h1
    have hx : nx 1 1 = 0 := by decide
    have hd : did 1 1 = true := by decide
    rw [hx, hd]
    clear hx hd
    go_enter Tryd.func69, Tryd.ntmps69
    go_wp2
    go_ret2
    exact ⟨rfl, rfl⟩
  by_cases h6 : e = 6
  · subst h6
    have hx : nx 1 6 = 0 := by decide
    have hd : did 1 6 = true := by decide
    rw [hx, hd]
    clear hx hd
    go_enter Tryd.func69, Tryd.ntmps69
    go_wp2
    go_ret2
    exact ⟨rfl, rfl⟩
  by_cases h4 : e = 4
  · subst h4
    have hx : nx 1 4 = 3 := by decide
    have hd : did 1 4 = true := by decide
    rw [hx, hd]
    clear hx hd
    go_enter Tryd.func69, Tryd.ntmps69
    go_wp2
    go_ret2
    exact ⟨rfl, rfl⟩
  have hd : did 1 e = false := by rw [did1]; simp [h1, h6, h4]
  rw [nx_still hd, hd]
  have b1 : (e == 1) = false := by simpa using h1
  have b6 : (e == 6) = false := by simpa using h6
  have b4 : (e == 4) = false := by simpa using h4
  clear hd h1 h6 h4
  go_enter Tryd.func69, Tryd.ntmps69
  go_wp2
  go_ret2
  exact ⟨rfl, rfl⟩

theorem rnext_2 (e : Int) (w : World) :
    Calls Tryd.prog 69 #[.int .i64 2, .int .i64 e] w fun r w' => r = .returned (.tuple #[.int .i64 (nx 2 e), .bool (did 2 e)]) ∧ w' = w := by
  by_cases h0 : e = 0
  · subst h0
    have hx : nx 2 0 = 1 := by decide
    have hd : did 2 0 = true := by decide
    rw [hx, hd]
    clear hx hd
    go_enter Tryd.func69, Tryd.ntmps69
    go_wp2
    go_ret2
    exact ⟨rfl, rfl⟩
  by_cases h5 : e = 5
  · subst h5
    have hx : nx 2 5 = 1 := by decide
    have hd : did 2 5 = true := by decide
    rw [hx, hd]
    clear hx hd
    go_enter Tryd.func69, Tryd.ntmps69
    go_wp2
    go_ret2
    exact ⟨rfl, rfl⟩
  by_cases h3 : e = 3
  · subst h3
    have hx : nx 2 3 = 0 := by decide
    have hd : did 2 3 = true := by decide
    rw [hx, hd]
    clear hx hd
    go_enter Tryd.func69, Tryd.ntmps69
    go_wp2
    go_ret2
    exact ⟨rfl, rfl⟩
  have hd : did 2 e = false := by rw [did2]; simp [h0, h5, h3]
  rw [nx_still hd, hd]
  have b0 : (e == 0) = false := by simpa using h0
  have b5 : (e == 5) = false := by simpa using h5
  have b3 : (e == 3) = false := by simpa using h3
  clear hd h0 h5 h3
  go_enter Tryd.func69, Tryd.ntmps69
  go_wp2
  go_ret2
  exact ⟨rfl, rfl⟩

theorem rnext_3 (e : Int) (w : World) :
    Calls Tryd.prog 69 #[.int .i64 3, .int .i64 e] w fun r w' => r = .returned (.tuple #[.int .i64 (nx 3 e), .bool (did 3 e)]) ∧ w' = w := by
  by_cases h1 : e = 1
  · subst h1
    have hx : nx 3 1 = 0 := by decide
    have hd : did 3 1 = true := by decide
    rw [hx, hd]
    clear hx hd
    go_enter Tryd.func69, Tryd.ntmps69
    go_wp2
    go_ret2
    exact ⟨rfl, rfl⟩
  by_cases h6 : e = 6
  · subst h6
    have hx : nx 3 6 = 0 := by decide
    have hd : did 3 6 = true := by decide
    rw [hx, hd]
    clear hx hd
    go_enter Tryd.func69, Tryd.ntmps69
    go_wp2
    go_ret2
    exact ⟨rfl, rfl⟩
  have hd : did 3 e = false := by rw [did3]; simp [h1, h6]
  rw [nx_still hd, hd]
  have b1 : (e == 1) = false := by simpa using h1
  have b6 : (e == 6) = false := by simpa using h6
  clear hd h1 h6
  go_enter Tryd.func69, Tryd.ntmps69
  go_wp2
  go_ret2
  exact ⟨rfl, rfl⟩

theorem rnext_any (s e : Int) (w : World) :
    Calls Tryd.prog 69 #[.int .i64 s, .int .i64 e] w fun r w' => r = .returned (.tuple #[.int .i64 (nx s e), .bool (did s e)]) ∧ w' = w := by
  by_cases hs : 0 ≤ s ∧ s ≤ 3
  · rcases four hs.1 hs.2 with rfl | rfl | rfl | rfl
    · exact rnext_0 e w
    · exact rnext_1 e w
    · exact rnext_2 e w
    · exact rnext_3 e w
  · have hd : did s e = false := did_outS (inS_false hs)
    rw [nx_still hd, hd]
    exact rnext_out s e w (by simp; omega) (by simp; omega) (by simp; omega) (by simp; omega)

theorem rnext_n (s e : Int) (w : World) (t : Int) (b : Bool) (ht : nx s e = t) (hb : did s e = b) :
    Calls Tryd.prog 69 #[.int .i64 s, .int .i64 e] w fun r w' => r = .returned (.tuple #[.int .i64 t, .bool b]) ∧ w' = w := by
  rw [← ht, ← hb]
  exact rnext_any s e w

end Go.Proofs.YtmlkpfkeeifgeaaDoor.St
namespace Go.Proofs.YtmlkpfkeeifgeaaDoor.St
open Go.ChangeShapes Go.WideShapes Go.ChangeAt Go.RowKit

theorem own : ownKnob Tryd.prog.godebug = none := by kernel_rfl
theorem laidOut : laidOutB Tryd.prog = true := by kernel_rfl
theorem gLeads : Tryd.prog.globalNamed "hostler/state.leads" = some 0 := by kernel_rfl
theorem tLeads : (Tryd.prog.globals[0]?).map (·.type) = some 136 := by kernel_rfl
theorem cells3 : Tryd.prog.cellsOf 3 = 1 := by kernel_rfl
theorem cells135 : Tryd.prog.cellsOf 135 = 7 := by kernel_rfl
theorem cells136 : Tryd.prog.cellsOf 136 = 28 := by kernel_rfl
def laidL : List (String × DataW Unit) := [("hostler/state.leads", Rows.laid_hostler_state_leads)]
theorem door_met (os : Os) (args : Array Value) : laidMetH Tryd.prog laidL ((World.doorLaid Tryd.prog 40 os).forCall (fun _ _ => 0) ⟨#[], args, []⟩).memory :=
  laidMetH_of_parts3 (fuel := 8) (laidMet_of_run' 8 (by kernel_rfl) (by kernel_rfl)) (by kernel_rfl) (by kernel_rfl)
set_option maxRecDepth 100000 in
theorem leads_of {W : World} {r : List (String × DataW Unit)} (h : laidMet Tryd.prog (("hostler/state.leads", Rows.laid_hostler_state_leads) :: r) W) : ∀ j, j < 28 → W.cell? ⟨0, j, none⟩ = some (.int .i64 (tab.getD j 0)) := by
  obtain ⟨ps, ⟨g0, t0, cs0, f0, p0, q0, hg0, ht0, hv0, hd0, _, _⟩, _, _⟩ := h
  obtain rfl := Option.some.inj (gLeads.symm.trans hg0)
  obtain rfl := Option.some.inj (tLeads.symm.trans ht0)
  obtain ⟨xs, m, rfl, hx, hlen, hn4, hel⟩ := DataW.trod_array Tryd.underlying136 hd0
  rw [cells136] at hlen
  simp only [cells135] at hel
  simp only [Prod.mk.injEq] at hx
  have hcell := World.var?_cell hg0 hv0
  have hd := hx.1
  unfold Rows.laid_hostler_state_leads at hd
  simp only [DataW.agg.injEq] at hd
  have key : ∀ i, i < 4 → ∀ k, k < 7 → ∃ n row, (xs.map (·.1))[i]? = some (.agg row) ∧ row[k]? = some (.lit (.int .i64 n)) ∧ W.cell? ⟨0, i * 7 + k, none⟩ = some (.int .i64 n) := by
    intro i hi k hk
    have hi' := hel i hi
    rw [List.getElem?_eq_getElem (by omega)] at hi'
    obtain ⟨ys, m', hm', hy, hl7, hn7, hey⟩ := DataW.trod_array Tryd.underlying135 hi'
    simp only [cells3, Nat.mul_one] at hey
    have hk' := hey k hk
    have hcs : i * 7 + k < cs0.toList.length := by omega
    have e1 : (((cs0.toList.drop (i * 7)).take 7).drop k).take 1 = [cs0.toList[i * 7 + k]] := by
      apply List.ext_getElem?
      intro q
      rw [List.getElem?_take, List.getElem?_drop, List.getElem?_take, List.getElem?_drop]
      match q with
      | 0 => simp [hk]
      | q + 1 => simp
    rw [e1, List.getElem?_eq_getElem (by omega)] at hk'
    obtain ⟨n, e2, e3, _⟩ := DataW.trod_int Tryd.underlying3 hk'
    refine ⟨n, ys.map (·.1), ?_, ?_, ?_⟩
    · rw [List.getElem?_map, List.getElem?_eq_getElem (by omega), hy]
      rfl
    · rw [List.getElem?_map, List.getElem?_eq_getElem (by omega), e3]
      rfl
    · have hc := hcell (i * 7 + k)
      simp only [List.cons.injEq, and_true] at e2
      rw [hc, ← Array.getElem?_toList, List.getElem?_eq_getElem hcs, e2]
  intro j hj
  obtain ⟨n, row, k1, k2, k3⟩ := key (j / 7) (by omega) (j % 7) (by omega)
  have ej : j / 7 * 7 + j % 7 = j := by omega
  rw [ej] at k3
  rw [k3]
  rw [← hd] at k1
  clear ej k3 key hcell hel hx hd hlen hn4 hd0 hv0 ht0 hg0
  have fin : ∀ (i k : Nat), i < 4 → k < 7 → ∀ (n : Int) (row : List (DataW Unit)), ([DataW.agg [.lit (.int .i64 1), .lit (.int .i64 (-1)), .lit (.int .i64 2), .lit (.int .i64 (-1)), .lit (.int .i64 (-1)), .lit (.int .i64 1), .lit (.int .i64 (-1))], .agg [.lit (.int .i64 (-1)), .lit (.int .i64 0), .lit (.int .i64 (-1)), .lit (.int .i64 (-1)), .lit (.int .i64 3), .lit (.int .i64 (-1)), .lit (.int .i64 0)], .agg [.lit (.int .i64 1), .lit (.int .i64 (-1)), .lit (.int .i64 (-1)), .lit (.int .i64 0), .lit (.int .i64 (-1)), .lit (.int .i64 1), .lit (.int .i64 (-1))], .agg [.lit (.int .i64 (-1)), .lit (.int .i64 0), .lit (.int .i64 (-1)), .lit (.int .i64 (-1)), .lit (.int .i64 (-1)), .lit (.int .i64 (-1)), .lit (.int .i64 0)]] : List (DataW Unit))[i]? = some (.agg row) →
      row[k]? = some (.lit (.int .i64 n)) → n = tab.getD (i * 7 + k) 0 := by
    intro i k hi hk n row h1 h2
    match i, hi with
    | 0, _ | 1, _ | 2, _ | 3, _ =>
      simp at h1
      subst h1
      match k, hk with
      | 0, _ | 1, _ | 2, _ | 3, _ | 4, _ | 5, _ | 6, _ => simp at h2; subst h2; rfl
  have := fin (j / 7) (j % 7) (by omega) (by omega) n row k1 k2
  rw [this]
  congr 4
  omega

theorem tabs_of_laid {W : World} (h : laidMetH Tryd.prog laidL W) : Tabs W := by
  rw [MakeChecks.laidMetH_plain _ _ _ (by kernel_rfl)] at h
  have h1 := leads_of h
  exact ⟨World.block_lt_of_cell? W ⟨0, 0, none⟩ (h1 0 (by omega)), h1⟩

end Go.Proofs.YtmlkpfkeeifgeaaDoor.St
