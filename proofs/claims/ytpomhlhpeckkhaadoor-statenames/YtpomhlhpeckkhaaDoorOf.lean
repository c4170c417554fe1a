/-
  Of is the state of a name, and whether there is one, as a contract. Condition: the tables read as they are laid.
-/
import Derived.Test.YtpomhlhpeckkhaaDoorLives
import Derived.Lib.Strings
namespace Go.Proofs.YtpomhlhpeckkhaaDoor
open Go.ChangeShapes Go.WideShapes Go.ChangeAt Go.RowKit

def ofI (b0 b1 b2 b3 : Bool) : Int := if b0 then 0 else if b1 then 1 else if b2 then 2 else if b3 then 3 else 0
def ofT (b0 b1 b2 b3 : Bool) : Bool := b0 || b1 || b2 || b3

set_option maxHeartbeats 1000000 in
theorem of_gen (s n0 n1 n2 n3 : ByteArray) (w : World) (h0 : w.cell? ⟨1, 0, none⟩ = some (.string n0)) (h1 : w.cell? ⟨1, 1, none⟩ = some (.string n1)) (h2 : w.cell? ⟨1, 2, none⟩ = some (.string n2)) (h3 : w.cell? ⟨1, 3, none⟩ = some (.string n3))
    (b0 b1 b2 b3 : Bool) (hb0 : (n0.toList == s.toList) = b0) (hb1 : (n1.toList == s.toList) = b1) (hb2 : (n2.toList == s.toList) = b2) (hb3 : (n3.toList == s.toList) = b3) :
    Calls Tryd.prog 19 #[.string s] w fun e w' => e = .returned (.tuple #[.int .i64 (ofI b0 b1 b2 b3), .bool (ofT b0 b1 b2 b3)]) ∧ w' = w := by
  go_enter Tryd.func19, Tryd.ntmps19
  go_wp2
  clear h0 h1 h2 h3
  have x0 : ∀ w : World, (Instr.index 40 (.agg #[.string n0, .string n1, .string n2, .string n3]) (.int .i64 0)).run Tryd.prog w = .ok (.string n0) w := fun _ => by kernel_rfl
  have x1 : ∀ w : World, (Instr.index 40 (.agg #[.string n0, .string n1, .string n2, .string n3]) (.int .i64 1)).run Tryd.prog w = .ok (.string n1) w := fun _ => by kernel_rfl
  have x2 : ∀ w : World, (Instr.index 40 (.agg #[.string n0, .string n1, .string n2, .string n3]) (.int .i64 2)).run Tryd.prog w = .ok (.string n2) w := fun _ => by kernel_rfl
  have x3 : ∀ w : World, (Instr.index 40 (.agg #[.string n0, .string n1, .string n2, .string n3]) (.int .i64 3)).run Tryd.prog w = .ok (.string n3) w := fun _ => by kernel_rfl
  go_loop [7] (fun i => ∃ k : Nat, k ≤ 4 ∧ i = .int .i64 k ∧ (1 ≤ k → b0 = false) ∧ (2 ≤ k → b1 = false) ∧ (3 ≤ k → b2 = false) ∧ (4 ≤ k → b3 = false)) (fun i => 4 - (intOf i).toNat)
  case atStart => exact ⟨0, by omega, rfl, by omega, by omega, by omega, by omega⟩
  case round =>
    obtain ⟨k, hk, rfl, q0, q1, q2, q3⟩ := hrel
    match k, hk with
    | 0, _ =>
      clear q0 q1 q2 q3
      cases b0 with
      | true =>
        go_wp2
        go_ret2
        exact ⟨rfl, rfl⟩
      | false =>
        go_wp2
        go_round
        case rel => exact ⟨1, by omega, by go_num, by simp, by omega, by omega, by omega⟩
        case measure => simp [intOf]
    | 1, _ =>
      obtain rfl := q0 (by omega)
      clear q0 q1 q2 q3
      cases b1 with
      | true =>
        go_wp2
        go_ret2
        exact ⟨rfl, rfl⟩
      | false =>
        go_wp2
        go_round
        case rel => exact ⟨2, by omega, by go_num, by simp, by simp, by omega, by omega⟩
        case measure => simp [intOf]
    | 2, _ =>
      obtain rfl := q0 (by omega)
      obtain rfl := q1 (by omega)
      clear q0 q1 q2 q3
      cases b2 with
      | true =>
        go_wp2
        go_ret2
        exact ⟨rfl, rfl⟩
      | false =>
        go_wp2
        go_round
        case rel => exact ⟨3, by omega, by go_num, by simp, by simp, by simp, by omega⟩
        case measure => simp [intOf]
    | 3, _ =>
      obtain rfl := q0 (by omega)
      obtain rfl := q1 (by omega)
      obtain rfl := q2 (by omega)
      clear q0 q1 q2 q3
      cases b3 with
      | true =>
        go_wp2
        go_ret2
        exact ⟨rfl, rfl⟩
      | false =>
        go_wp2
        go_round
        case rel => exact ⟨4, by omega, by go_num, by simp, by simp, by simp, by simp⟩
        case measure => simp [intOf]
    | 4, _ =>
      obtain rfl := q0 (by omega)
      obtain rfl := q1 (by omega)
      obtain rfl := q2 (by omega)
      obtain rfl := q3 (by omega)
      clear q0 q1 q2 q3
      go_wp2
      go_ret2
      exact ⟨rfl, rfl⟩

/-- Is it that state's name? -/
def isN (s : ByteArray) (k : Nat) : Bool := (nm k).toList == s.toList

/-- By names. -/
theorem of_n (s : ByteArray) (w : World) (hn : Tabs w) (A : Int) (b : Bool) (hA : ofI (isN s 0) (isN s 1) (isN s 2) (isN s 3) = A) (hb : ofT (isN s 0) (isN s 1) (isN s 2) (isN s 3) = b) :
    Calls Tryd.prog 19 #[.string s] w fun e w' => e = .returned (.tuple #[.int .i64 A, .bool b]) ∧ w' = w := by
  rw [← hA, ← hb]
  exact of_gen s (nm (0 : Nat)) (nm (1 : Nat)) (nm (2 : Nat)) (nm (3 : Nat)) w (hn.names 0 (by omega)) (hn.names 1 (by omega)) (hn.names 2 (by omega)) (hn.names 3 (by omega)) _ _ _ _ rfl rfl rfl rfl

theorem nm_apart (i j : Nat) (hi : i < 4) (hj : j < 4) (h : (nm i).toList = (nm j).toList) : i = j := by
  rw [Lib.toList_data, Lib.toList_data] at h
  match i, hi, j, hj with
  | 0, _, 0, _ | 1, _, 1, _ | 2, _, 2, _ | 3, _, 3, _ => rfl
  | 0, _, 1, _ | 0, _, 2, _ | 0, _, 3, _ | 1, _, 0, _ | 1, _, 2, _ | 1, _, 3, _ | 2, _, 0, _ | 2, _, 1, _ | 2, _, 3, _ | 3, _, 0, _ | 3, _, 1, _ | 3, _, 2, _ => exact absurd h (by decide)

theorem isN_one {s : ByteArray} {i j : Nat} (hi : i < 4) (hj : j < 4) (h1 : isN s i = true) (h2 : isN s j = true) : i = j := by
  unfold isN at h1 h2
  simp only [beq_iff_eq] at h1 h2
  exact nm_apart i j hi hj (h1.trans h2.symm)

/-- The last one that it is. -/
def wI (s : ByteArray) : Nat → Int
  | 0 => 0
  | k + 1 => if isN s k = true then k else wI s k
def wT (s : ByteArray) : Nat → Bool
  | 0 => false
  | k + 1 => if isN s k = true then true else wT s k

theorem of_last (s : ByteArray) : ofI (isN s 0) (isN s 1) (isN s 2) (isN s 3) = wI s 4 ∧ ofT (isN s 0) (isN s 1) (isN s 2) (isN s 3) = wT s 4 := by
  have e01 := isN_one (s := s) (i := 0) (j := 1) (by omega) (by omega)
  have e02 := isN_one (s := s) (i := 0) (j := 2) (by omega) (by omega)
  have e03 := isN_one (s := s) (i := 0) (j := 3) (by omega) (by omega)
  have e12 := isN_one (s := s) (i := 1) (j := 2) (by omega) (by omega)
  have e13 := isN_one (s := s) (i := 1) (j := 3) (by omega) (by omega)
  have e23 := isN_one (s := s) (i := 2) (j := 3) (by omega) (by omega)
  unfold wI wI wI wI wI wT wT wT wT wT ofI ofT
  generalize isN s 0 = b0 at *
  generalize isN s 1 = b1 at *
  generalize isN s 2 = b2 at *
  generalize isN s 3 = b3 at *
  cases b0 <;> cases b1 <;> cases b2 <;> cases b3 <;> simp at *

theorem isN_nm (s : Int) (h0 : 0 ≤ s) (h1 : s ≤ 3) : ofI (isN (nm s) 0) (isN (nm s) 1) (isN (nm s) 2) (isN (nm s) 3) = s ∧ ofT (isN (nm s) 0) (isN (nm s) 1) (isN (nm s) 2) (isN (nm s) 3) = true := by
  unfold isN
  simp only [Lib.toList_data]
  rcases four h0 h1 with rfl | rfl | rfl | rfl <;> decide

theorem isN_no (s : Int) (h : ¬ (0 ≤ s ∧ s ≤ 3)) : ofI (isN (nm s) 0) (isN (nm s) 1) (isN (nm s) 2) (isN (nm s) 3) = 0 ∧ ofT (isN (nm s) 0) (isN (nm s) 1) (isN (nm s) 2) (isN (nm s) 3) = false := by
  rw [nm_out (inS_false h)]
  unfold isN
  simp only [Lib.toList_data]
  decide

end Go.Proofs.YtpomhlhpeckkhaaDoor
