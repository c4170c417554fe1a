/-
  What sat.Cut, Add and Past, and draw's Size, Below, Spread and Life do, the program's and the document's, each as a contract: they return their number and leave the world as it was. Conditions: a draw is an int, where its size is taken.
-/
import Derived.Test.YtcofkaackpecjaaRows
import Derived.WalkKit
import Derived.ProofKit
import Derived.OpenShut
import Derived.BigQuiet
import Derived.WalkLawsBesides
import Derived.WalkSpells
import Derived.Deep.QuietTactic
namespace Go.Proofs.Ytcofkaackpecjaa
open Go.ChangeShapes Go.WideShapes Go.ChangeAt Go.RowKit

theorem own : ownKnob Try.prog.godebug = none := by kernel_rfl
theorem laidOut : laidOutB Try.prog = true := by kernel_rfl
theorem ret_int {k : IntKind} {a b : Int} (h : a = b) : Ending.returned (.int k a) = .returned (.int k b) := by rw [h]

/-- An int. -/
def In (d : Int) : Prop := -9223372036854775808 ≤ d ∧ d ≤ 9223372036854775807

def cut (n : Int) : Int := if n < 0 then 0 else if 1099511627776 < n then 1099511627776 else n
def add (a b : Int) : Int := cut (cut a + cut b)
def size (d : Int) : Int := if d < 0 then -1 - d else d
def below (d n : Int) : Int := if n < 1 then 0 else size d % n
def spread (d b j : Int) : Int := cut (cut b - cut j + below d (2 * cut j + 1))
def life (d now l j : Int) : Int := add now (spread d l j)

theorem cut_lo (n : Int) : 0 ≤ cut n := by unfold cut; split <;> (try split) <;> omega
theorem cut_hi (n : Int) : cut n ≤ 1099511627776 := by unfold cut; split <;> (try split) <;> omega
theorem cut_neg {n : Int} (h : n < 0) : cut n = 0 := by unfold cut; rw [if_pos h]
theorem cut_big {n : Int} (h : 1099511627776 < n) : cut n = 1099511627776 := by unfold cut; rw [if_neg (by omega), if_pos h]
theorem cut_mid {n : Int} (h0 : 0 ≤ n) (h1 : n ≤ 1099511627776) : cut n = n := by unfold cut; rw [if_neg (by omega), if_neg (by omega)]
theorem cut_cases (n : Int) : (n < 0 ∧ cut n = 0) ∨ (1099511627776 < n ∧ cut n = 1099511627776) ∨ (0 ≤ n ∧ n ≤ 1099511627776 ∧ cut n = n) := by
  by_cases h0 : n < 0
  · exact Or.inl ⟨h0, cut_neg h0⟩
  · by_cases h1 : 1099511627776 < n
    · exact Or.inr (Or.inl ⟨h1, cut_big h1⟩)
    · exact Or.inr (Or.inr ⟨by omega, by omega, cut_mid (by omega) (by omega)⟩)

theorem size_neg {d : Int} (h : d < 0) : size d = -1 - d := by unfold size; rw [if_pos h]
theorem size_pos {d : Int} (h : ¬ d < 0) : size d = d := by unfold size; rw [if_neg h]
theorem size_lo (d : Int) : 0 ≤ size d := by unfold size; split <;> omega
theorem size_hi {d : Int} (h : In d) : size d ≤ 9223372036854775807 := by unfold size; obtain ⟨h1, h2⟩ := h; split <;> omega
theorem size_twin (d : Int) : size (-1 - d) = size d := by unfold size; split <;> split <;> omega

theorem below_none {d n : Int} (h : n < 1) : below d n = 0 := by unfold below; rw [if_pos h]
theorem below_some {d n : Int} (h : ¬ n < 1) : below d n = size d % n := by unfold below; rw [if_neg h]
theorem below_lo (d n : Int) : 0 ≤ below d n := by
  unfold below
  split
  · omega
  · exact Int.emod_nonneg _ (by omega)
theorem below_hi {d n : Int} (h : 1 ≤ n) : below d n < n := by
  rw [below_some (by omega)]
  exact Int.emod_lt_of_pos _ (by omega)
theorem below_twin (d n : Int) : below (-1 - d) n = below d n := by unfold below; rw [size_twin]

theorem cut_any (n : Int) (w : World) :
    Calls Try.prog 31 #[.int .i64 n] w fun e w' => e = .returned (.int .i64 (cut n)) ∧ w' = w := by
  by_cases h0 : n < 0
  · go_enter Try.func31, Try.ntmps31
    go_wp2
    go_ret
    exact ⟨ret_int (cut_neg h0).symm, rfl⟩
  · by_cases h1 : 1099511627776 < n
    · go_enter Try.func31, Try.ntmps31
      go_wp2
      go_ret
      exact ⟨ret_int (cut_big h1).symm, rfl⟩
    · go_enter Try.func31, Try.ntmps31
      go_wp2
      go_ret
      exact ⟨ret_int (cut_mid (by omega) (by omega)).symm, rfl⟩

theorem rcut_any (n : Int) (w : World) :
    Calls Try.prog 22 #[.int .i64 n] w fun e w' => e = .returned (.int .i64 (cut n)) ∧ w' = w := by
  by_cases h0 : n < 0
  · go_enter Try.func22, Try.ntmps22
    go_wp2
    go_ret
    exact ⟨ret_int (cut_neg h0).symm, rfl⟩
  · by_cases h1 : 1099511627776 < n
    · go_enter Try.func22, Try.ntmps22
      go_wp2
      go_ret
      exact ⟨ret_int (cut_big h1).symm, rfl⟩
    · go_enter Try.func22, Try.ntmps22
      go_wp2
      go_ret
      exact ⟨ret_int (cut_mid (by omega) (by omega)).symm, rfl⟩

theorem add_any (a b : Int) (w : World) :
    Calls Try.prog 29 #[.int .i64 a, .int .i64 b] w fun e w' => e = .returned (.int .i64 (add a b)) ∧ w' = w := by
  have a1 := cut_lo a
  have a2 := cut_hi a
  have b1 := cut_lo b
  have b2 := cut_hi b
  go_enter Try.func29, Try.ntmps29
  go_wp2_with (go_at_call 31; refine (cut_any _ _).mono ?_; rintro e w' ⟨rfl, rfl⟩)
  go_ret
  exact ⟨rfl, rfl⟩

theorem radd_any (a b : Int) (w : World) :
    Calls Try.prog 27 #[.int .i64 a, .int .i64 b] w fun e w' => e = .returned (.int .i64 (add a b)) ∧ w' = w := by
  have a1 := cut_lo a
  have a2 := cut_hi a
  have b1 := cut_lo b
  have b2 := cut_hi b
  go_enter Try.func27, Try.ntmps27
  go_wp2_with (go_at_call 22; refine (rcut_any _ _).mono ?_; rintro e w' ⟨rfl, rfl⟩)
  go_ret
  exact ⟨rfl, rfl⟩

theorem size_any (d : Int) (hd : In d) (w : World) :
    Calls Try.prog 35 #[.int .i64 d] w fun e w' => e = .returned (.int .i64 (size d)) ∧ w' = w := by
  obtain ⟨d1, d2⟩ := hd
  by_cases h0 : d < 0
  · go_enter Try.func35, Try.ntmps35
    go_wp2
    go_ret
    exact ⟨ret_int (size_neg h0).symm, rfl⟩
  · go_enter Try.func35, Try.ntmps35
    go_wp2
    go_ret
    exact ⟨ret_int (size_pos (by omega)).symm, rfl⟩

theorem rsize_any (d : Int) (hd : In d) (w : World) :
    Calls Try.prog 34 #[.int .i64 d] w fun e w' => e = .returned (.int .i64 (size d)) ∧ w' = w := by
  obtain ⟨d1, d2⟩ := hd
  by_cases h0 : d < 0
  · go_enter Try.func34, Try.ntmps34
    go_wp2
    go_ret
    exact ⟨ret_int (by rw [size_neg h0]; omega), rfl⟩
  · go_enter Try.func34, Try.ntmps34
    go_wp2
    go_ret
    exact ⟨ret_int (size_pos (by omega)).symm, rfl⟩

theorem below_any (d n : Int) (hd : In d) (hn : n ≤ 9223372036854775807) (w : World) :
    Calls Try.prog 33 #[.int .i64 d, .int .i64 n] w fun e w' => e = .returned (.int .i64 (below d n)) ∧ w' = w := by
  have s1 := size_lo d
  have s2 := size_hi hd
  by_cases h0 : n < 1
  · go_enter Try.func33, Try.ntmps33
    go_wp2
    go_ret
    exact ⟨ret_int (below_none h0).symm, rfl⟩
  · have b1 := below_lo d n
    have b2 := below_hi (d := d) (n := n) (by omega)
    have b3 := below_some (d := d) h0
    rw [b3] at b1 b2
    go_enter Try.func33, Try.ntmps33
    go_wp2_with (go_at_call 35; refine (size_any _ hd _).mono ?_; rintro e w' ⟨rfl, rfl⟩)
    go_ret
    exact ⟨ret_int b3.symm, rfl⟩

theorem rbelow_any (d n : Int) (hd : In d) (hn : n ≤ 9223372036854775807) (w : World) :
    Calls Try.prog 32 #[.int .i64 d, .int .i64 n] w fun e w' => e = .returned (.int .i64 (below d n)) ∧ w' = w := by
  have s1 := size_lo d
  have s2 := size_hi hd
  by_cases h0 : n < 1
  · go_enter Try.func32, Try.ntmps32
    go_wp2
    go_ret
    exact ⟨ret_int (below_none h0).symm, rfl⟩
  · have b1 := below_lo d n
    have b2 := below_hi (d := d) (n := n) (by omega)
    have b3 := below_some (d := d) h0
    rw [b3] at b1 b2
    go_enter Try.func32, Try.ntmps32
    go_wp2_with (go_at_call 34; refine (rsize_any _ hd _).mono ?_; rintro e w' ⟨rfl, rfl⟩)
    go_ret
    exact ⟨ret_int b3.symm, rfl⟩

theorem spread_any (d b j : Int) (hd : In d) (w : World) :
    Calls Try.prog 30 #[.int .i64 d, .int .i64 b, .int .i64 j] w fun e w' => e = .returned (.int .i64 (spread d b j)) ∧ w' = w := by
  have a1 := cut_lo b
  have a2 := cut_hi b
  have c1 := cut_lo j
  have c2 := cut_hi j
  have b1 := below_lo d (2 * cut j + 1)
  have b2 := below_hi (d := d) (n := 2 * cut j + 1) (by omega)
  go_enter Try.func30, Try.ntmps30
  go_wp2_with (first
    | (go_at_call 31; refine (cut_any _ _).mono ?_; rintro e w' ⟨rfl, rfl⟩)
    | (go_at_call 33; refine (below_any _ _ hd (by omega) _).mono ?_; rintro e w' ⟨rfl, rfl⟩))
  go_ret
  exact ⟨rfl, rfl⟩

theorem rspread_any (d b j : Int) (hd : In d) (w : World) :
    Calls Try.prog 28 #[.int .i64 d, .int .i64 b, .int .i64 j] w fun e w' => e = .returned (.int .i64 (spread d b j)) ∧ w' = w := by
  have a1 := cut_lo b
  have a2 := cut_hi b
  have c1 := cut_lo j
  have c2 := cut_hi j
  have b1 := below_lo d (2 * cut j + 1)
  have b2 := below_hi (d := d) (n := 2 * cut j + 1) (by omega)
  go_enter Try.func28, Try.ntmps28
  go_wp2_with (first
    | (go_at_call 22; refine (rcut_any _ _).mono ?_; rintro e w' ⟨rfl, rfl⟩)
    | (go_at_call 32; refine (rbelow_any _ _ hd (by omega) _).mono ?_; rintro e w' ⟨rfl, rfl⟩))
  go_ret
  exact ⟨rfl, rfl⟩

theorem life_any (d now l j : Int) (hd : In d) (w : World) :
    Calls Try.prog 24 #[.int .i64 d, .int .i64 now, .int .i64 l, .int .i64 j] w fun e w' => e = .returned (.int .i64 (life d now l j)) ∧ w' = w := by
  go_enter Try.func24, Try.ntmps24
  go_wp2_with (first
    | (go_at_call 30; refine (spread_any _ _ _ hd _).mono ?_; rintro e w' ⟨rfl, rfl⟩)
    | (go_at_call 29; refine (add_any _ _ _).mono ?_; rintro e w' ⟨rfl, rfl⟩))
  go_ret
  exact ⟨rfl, rfl⟩

theorem rlife_any (d now l j : Int) (hd : In d) (w : World) :
    Calls Try.prog 23 #[.int .i64 d, .int .i64 now, .int .i64 l, .int .i64 j] w fun e w' => e = .returned (.int .i64 (life d now l j)) ∧ w' = w := by
  go_enter Try.func23, Try.ntmps23
  go_wp2_with (first
    | (go_at_call 28; refine (rspread_any _ _ _ hd _).mono ?_; rintro e w' ⟨rfl, rfl⟩)
    | (go_at_call 27; refine (radd_any _ _ _).mono ?_; rintro e w' ⟨rfl, rfl⟩))
  go_ret
  exact ⟨rfl, rfl⟩

def past (now d : Int) : Bool := decide (cut d ≤ cut now)
theorem ret_bool {a b : Bool} (h : a = b) : Ending.returned (.bool a) = .returned (.bool b) := by rw [h]

theorem past_any (now d : Int) (w : World) :
    Calls Try.prog 25 #[.int .i64 now, .int .i64 d] w fun e w' => e = .returned (.bool (past now d)) ∧ w' = w := by
  go_enter Try.func25, Try.ntmps25
  go_wp2_with (go_at_call 31; refine (cut_any _ _).mono ?_; rintro e w' ⟨rfl, rfl⟩)
  go_ret
  exact ⟨rfl, rfl⟩

theorem rpast_any (now d : Int) (w : World) :
    Calls Try.prog 26 #[.int .i64 now, .int .i64 d] w fun e w' => e = .returned (.bool (past now d)) ∧ w' = w := by
  go_enter Try.func26, Try.ntmps26
  go_wp2_with (go_at_call 22; refine (rcut_any _ _).mono ?_; rintro e w' ⟨rfl, rfl⟩)
  go_ret
  exact ⟨rfl, rfl⟩

theorem quiet2_same {P : Program} {f : FuncId} {args : Array Value} {w : World} {n m : Nat} {v : Value}
    (h : Calls P f args (w.drewN (n + m)) fun e w' => e = .returned v ∧ w' = w.drewN (n + m)) : Calls P f args (w.drewN (n + m)) fun e w'' => e = .returned v ∧ ∃ k, w'' = w.drewN (n + k) :=
  h.mono fun _ _ ⟨he, hm⟩ => ⟨he, m, hm⟩
theorem quiet2_of {P : Program} {f : FuncId} {args : Array Value} {w : World} {n m : Nat} {v : Value}
    (h : Calls P f args (w.drewN (n + m)) fun e w' => e = .returned v ∧ ∃ q, w' = (w.drewN (n + m)).drewN q) : Calls P f args (w.drewN (n + m)) fun e w'' => e = .returned v ∧ ∃ k, w'' = w.drewN (n + k) :=
  h.mono fun _ _ ⟨he, q, hm⟩ => ⟨he, m + q, by rw [hm, World.drewN_drewN, Nat.add_assoc]⟩

end Go.Proofs.Ytcofkaackpecjaa
