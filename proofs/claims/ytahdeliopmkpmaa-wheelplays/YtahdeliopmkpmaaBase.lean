/-
  What the small calls do, each as a contract: Cut and Past (the program's and the document's), cmp.Compare at int, and the methods Len, Less and compare of the order. Conditions: the entries lie where they are said to lie.
-/
import Derived.Test.YtahdeliopmkpmaaRows
import Derived.Test.YtahdeliopmkpmaaHeap
import Derived.WalkKit
import Derived.ProofKit
import Derived.OpenShut
import Derived.WalkLawsBesides
import Derived.WalkSpells
import Derived.Deep.QuietTactic
import Derived.BigQuiet
namespace Go.Proofs.Ytahdeliopmkpmaa
open Go.ChangeShapes Go.WideShapes Go.ChangeAt Go.RowKit

theorem ret_int {k : IntKind} {a b : Int} (h : a = b) : Ending.returned (.int k a) = .returned (.int k b) := by rw [h]
theorem ret_bool {a b : Bool} (h : a = b) : Ending.returned (.bool a) = .returned (.bool b) := by rw [h]

theorem quiet2_same {P : Program} {f : FuncId} {args : Array Value} {w : World} {n m : Nat} {v : Value}
    (h : Calls P f args (w.drewN (n + m)) fun e w' => e = .returned v ∧ w' = w.drewN (n + m)) : Calls P f args (w.drewN (n + m)) fun e w'' => e = .returned v ∧ ∃ k, w'' = w.drewN (n + k) :=
  h.mono fun _ _ ⟨he, hm⟩ => ⟨he, m, hm⟩
theorem quiet2_of {P : Program} {f : FuncId} {args : Array Value} {w : World} {n m : Nat} {v : Value}
    (h : Calls P f args (w.drewN (n + m)) fun e w' => e = .returned v ∧ ∃ q, w' = (w.drewN (n + m)).drewN q) : Calls P f args (w.drewN (n + m)) fun e w'' => e = .returned v ∧ ∃ k, w'' = w.drewN (n + k) :=
  h.mono fun _ _ ⟨he, q, hm⟩ => ⟨he, m + q, by rw [hm, World.drewN_drewN, Nat.add_assoc]⟩

def cut (n : Int) : Int := if n < 0 then 0 else if 1099511627776 < n then 1099511627776 else n
def past (a b : Int) : Bool := decide (cut b ≤ cut a)

theorem cut_lo (n : Int) : 0 ≤ cut n := by unfold cut; split <;> (try split) <;> omega
theorem cut_hi (n : Int) : cut n ≤ 1099511627776 := by unfold cut; split <;> (try split) <;> omega

theorem cut_neg {n : Int} (h : n < 0) : cut n = 0 := by unfold cut; rw [if_pos h]
theorem cut_big {n : Int} (h : 1099511627776 < n) : cut n = 1099511627776 := by unfold cut; rw [if_neg (by omega), if_pos h]
theorem cut_mid {n : Int} (h0 : 0 ≤ n) (h1 : n ≤ 1099511627776) : cut n = n := by unfold cut; rw [if_neg (by omega), if_neg (by omega)]

theorem cut_any (n : Int) (w : World) :
    Calls Try.prog 31 #[.int .i64 n] w fun e w' => e = .returned (.int .i64 (cut n)) ∧ w' = w := by
  by_cases h0 : n < 0
  · go_enter Try.func31, Try.ntmps31
    go_wp2
    go_ret
    exact ⟨ret_int (cut_neg h0).symm, rfl⟩
  · by_cases h1 : 1099511627776 < n
    · go_enter Try.func31, Try.ntmps31
      go_wp2
      go_ret
      exact ⟨ret_int (cut_big h1).symm, rfl⟩
    · go_enter Try.func31, Try.ntmps31
      go_wp2
      go_ret
      exact ⟨ret_int (cut_mid (by omega) (by omega)).symm, rfl⟩

theorem rcut_any (n : Int) (w : World) :
    Calls Try.prog 26 #[.int .i64 n] w fun e w' => e = .returned (.int .i64 (cut n)) ∧ w' = w := by
  by_cases h0 : n < 0
  · go_enter Try.func26, Try.ntmps26
    go_wp2
    go_ret
    exact ⟨ret_int (cut_neg h0).symm, rfl⟩
  · by_cases h1 : 1099511627776 < n
    · go_enter Try.func26, Try.ntmps26
      go_wp2
      go_ret
      exact ⟨ret_int (cut_big h1).symm, rfl⟩
    · go_enter Try.func26, Try.ntmps26
      go_wp2
      go_ret
      exact ⟨ret_int (cut_mid (by omega) (by omega)).symm, rfl⟩

theorem past_any (a b : Int) (w : World) :
    Calls Try.prog 37 #[.int .i64 a, .int .i64 b] w fun e w' => e = .returned (.bool (past a b)) ∧ w' = w := by
  go_enter Try.func37, Try.ntmps37
  go_wp2_with (go_at_call 31; refine (cut_any _ _).mono ?_; rintro e w' ⟨rfl, rfl⟩)
  go_ret
  exact ⟨rfl, rfl⟩

theorem rpast_any (a b : Int) (w : World) :
    Calls Try.prog 36 #[.int .i64 a, .int .i64 b] w fun e w' => e = .returned (.bool (past a b)) ∧ w' = w := by
  go_enter Try.func36, Try.ntmps36
  go_wp2_with (go_at_call 26; refine (rcut_any _ _).mono ?_; rintro e w' ⟨rfl, rfl⟩)
  go_ret
  exact ⟨rfl, rfl⟩

theorem nan_any (a : Int) (w : World) :
    Calls Try.prog 68 #[.int .i64 a] w fun e w' => e = .returned (.bool false) ∧ w' = w := by
  go_enter Try.func68, Try.ntmps68
  go_wp2
  go_ret
  exact ⟨ret_bool (by simp), rfl⟩

def cmpI (x y : Int) : Int := if x < y then -1 else if y < x then 1 else 0

theorem cmp_any (x y : Int) (w : World) :
    Calls Try.prog 48 #[.int .i64 x, .int .i64 y] w fun e w' => e = .returned (.int .i64 (cmpI x y)) ∧ w' = w := by
  by_cases h0 : x < y
  · go_enter Try.func48, Try.ntmps48
    go_wp2_with (go_at_call 68; refine (nan_any _ _).mono ?_; rintro e w' ⟨rfl, rfl⟩)
    go_ret
    exact ⟨ret_int (by unfold cmpI; rw [if_pos (by omega)]), rfl⟩
  · by_cases h1 : y < x
    · go_enter Try.func48, Try.ntmps48
      go_wp2_with (go_at_call 68; refine (nan_any _ _).mono ?_; rintro e w' ⟨rfl, rfl⟩)
      go_ret
      exact ⟨ret_int (by unfold cmpI; rw [if_neg (by omega), if_pos (by omega)]), rfl⟩
    · go_enter Try.func48, Try.ntmps48
      go_wp2_with (go_at_call 68; refine (nan_any _ _).mono ?_; rintro e w' ⟨rfl, rfl⟩)
      go_ret
      exact ⟨ret_int (by unfold cmpI; rw [if_neg (by omega), if_neg (by omega)]), rfl⟩

/-- How two entries stand. -/
def cmpE (x y : Ent) : Int := if x.a ≠ y.a then cmpI x.a y.a else cmpI x.k y.k
theorem cmpE_lt (x y : Ent) : decide (cmpE x y < 0) = ltE x y := by
  unfold cmpE cmpI ltE
  by_cases h1 : x.a = y.a
  · rw [if_neg (by simpa using h1)]
    by_cases h2 : x.k < y.k
    · rw [if_pos h2]; simp [h1, h2]
    · rw [if_neg h2]
      by_cases h3 : y.k < x.k
      · rw [if_pos h3]; simp [h1, h2]
      · rw [if_neg h3]; simp [h1, h2]
  · rw [if_pos h1]
    by_cases h2 : x.a < y.a
    · rw [if_pos h2]; simp [h2]
    · rw [if_neg h2]
      by_cases h3 : y.a < x.a
      · rw [if_pos h3]; simp [h1, h2]
      · rw [if_neg h3]; simp [h1, h2]

/-- An entry lies at its block, its place i in it. -/
def EntAt (w : World) (e : Ent) (i : Nat) : Prop := w.heap[e.b]? = some (.cells #[.int .i64 e.k, .int .i64 e.a, .int .i64 i] 66 (0, 0))

theorem EntAt.c0 {w : World} {e : Ent} {i : Nat} (h : EntAt w e i) : w.cell? ⟨e.b, 0, none⟩ = some (.int .i64 e.k) := by unfold EntAt at h; simp [World.cell?, h]
theorem EntAt.c1 {w : World} {e : Ent} {i : Nat} (h : EntAt w e i) : w.cell? ⟨e.b, 1, none⟩ = some (.int .i64 e.a) := by unfold EntAt at h; simp [World.cell?, h]
theorem EntAt.c2 {w : World} {e : Ent} {i : Nat} (h : EntAt w e i) : w.cell? ⟨e.b, 2, none⟩ = some (.int .i64 i) := by unfold EntAt at h; simp [World.cell?, h]
theorem EntAt.fz {w : World} {e : Ent} {i : Nat} (h : EntAt w e i) (o : Nat) : w.frozen? ⟨e.b, o, none⟩ = false := by unfold EntAt at h; simp [World.frozen?, h]
theorem EntAt.lt {w : World} {e : Ent} {i : Nat} (h : EntAt w e i) : e.b < w.heap.size := (Array.getElem?_eq_some_iff.1 h).1

set_option maxRecDepth 100000 in
theorem compare_any (e f : Ent) (i j : Nat) (w : World) (he : EntAt w e i) (hf : EntAt w f j) :
    Calls Try.prog 42 #[.pointer (some ⟨e.b, 0, none⟩), .pointer (some ⟨f.b, 0, none⟩)] w fun x w' => x = .returned (.int .i64 (cmpE e f)) ∧ ∃ q, w' = w.drewN q := by
  have k0 := he.c0
  have k1 := he.c1
  have l0 := hf.c0
  have l1 := hf.c1
  clear he hf
  by_cases hne : e.a = f.a
  · have hb : (e.a != f.a) = false := by simpa using hne
    have hc : cmpE e f = cmpI e.k f.k := by unfold cmpE; rw [if_neg (by simpa using hne)]
    clear hne
    go_enter Try.func42, Try.ntmps42
    go_wp2
    go_quiet (fail)
    go_wp2
    go_quiet (first | (go_at_call 48; exact quiet2_same (cmp_any _ _ _)))
    go_wp2
    go_ret
    exact ⟨ret_int hc.symm, _, World.drewN_drewN _ _ _⟩
  · have hb : (e.a != f.a) = true := by simpa using hne
    have hc : cmpE e f = cmpI e.a f.a := by unfold cmpE; rw [if_pos hne]
    clear hne
    go_enter Try.func42, Try.ntmps42
    go_wp2
    go_quiet (fail)
    go_wp2
    go_quiet (first | (go_at_call 48; exact quiet2_same (cmp_any _ _ _)))
    go_wp2
    go_ret
    exact ⟨ret_int hc.symm, _, World.drewN_drewN _ _ _⟩

end Go.Proofs.Ytahdeliopmkpmaa
