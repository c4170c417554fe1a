/-
  What the document's Digits answers, as a contract: a number's digits, as the library writes them; it turns nothing. Condition: the number is one that an int holds.
-/
import Derived.Test.YtmhigndplbdknaaDoorText
namespace Go.Proofs.YtmhigndplbdknaaDoor
open Go.ChangeShapes Go.WideShapes Go.ChangeAt Go.RowKit

def tenS : ByteArray := ⟨#[48, 49, 50, 51, 52, 53, 54, 55, 56, 57]⟩
theorem ten_get : ∀ d : Fin 10, tenS.extract d.val (d.val + 1) = ⟨#[UInt8.ofNat (48 + d.val)]⟩ := by decide +kernel

set_option maxRecDepth 100000 in
theorem digit_one (d : Nat) (h : d < 10) (w : World) :
    Calls Tryd.prog 28 #[.int .i64 d] w fun e w' => e = .returned (.string (mk (Lib.decDigits d))) ∧ ∃ q, w' = w.drewN q := by
  have e : mk (Lib.decDigits d) = tenS.extract d (d + 1) := by
    rw [ten_get ⟨d, h⟩, Lib.decDigits_one h]
    rfl
  rw [e]
  clear e
  have h0 : (0 : Int) ≤ (d : Int) := by omega
  have h1 : (d : Int) < 10 := by omega
  have hd : decide ((d : Int) < 0) = false := by simp
  have ht : (⟨#[48, 49, 50, 51, 52, 53, 54, 55, 56, 57]⟩ : ByteArray) = tenS := rfl
  have hs : tenS.size = 10 := by decide
  go_enter Tryd.func28, Tryd.ntmps28
  go_wp2
  go_ret
  exact ⟨rfl, 0, rfl⟩

theorem mk_append (a b : List UInt8) : mk a ++ mk b = mk (a ++ b) := by
  have h : (mk a ++ mk b).data = (mk (a ++ b)).data := by
    rw [ByteArray.data_append]
    simp [mk]
  cases hx : mk a ++ mk b
  cases hy : mk (a ++ b)
  rw [hx, hy] at h
  simpa using h
theorem dec_len (u : Nat) (h : u < 18446744073709551616) : (Lib.decDigits u).length ≤ 20 := by
  rw [Lib.decDigits_length]
  exact Lib.nDigits_le20 u h

set_option maxRecDepth 100000 in
set_option maxHeartbeats 1000000 in
theorem digits_step (u : Int) (a d : Nat) (T : ByteArray) (HR : Hid (∀ w : World, Calls Tryd.prog 28 #[.int .i64 a] w fun e w' => e = .returned (.string T) ∧ ∃ q, w' = w.drewN q))
    (hq : u.tdiv 10 = (a : Int)) (hr : u.tmod 10 = (d : Int)) (h1 : 10 ≤ u) (d1 : (d : Int) < 10) (hT : T.size ≤ 20) (a1 : (a : Int) < 9223372036854775808) (w : World) :
    Calls Tryd.prog 28 #[.int .i64 u] w fun e w' => e = .returned (.string (T ++ tenS.extract d (d + 1))) ∧ ∃ q, w' = w.drewN q := by
  have h0 : decide (u < 0) = false := by simp; omega
  have h2 : decide (u < 10) = false := by simp; omega
  have ht : (⟨#[48, 49, 50, 51, 52, 53, 54, 55, 56, 57]⟩ : ByteArray) = tenS := rfl
  have hs : tenS.size = 10 := by decide
  have d0 : (0 : Int) ≤ (d : Int) := by omega
  go_enter Tryd.func28, Tryd.ntmps28
  go_wp2_with fail
  go_quiet (first | (go_at_call 28; exact Calls.quiet_of (HR.out _)))
  go_wp2
  go_ret
  exact ⟨rfl, _, rfl⟩

theorem digits_nat (u : Nat) : u < 9223372036854775808 → ∀ w : World,
    Calls Tryd.prog 28 #[.int .i64 u] w fun e w' => e = .returned (.string (mk (Lib.decDigits u))) ∧ ∃ q, w' = w.drewN q := by
  induction u using Nat.strongRecOn with
  | _ u ih =>
    intro hu w
    by_cases h9 : u < 10
    · exact digit_one u h9 w
    · have hrec := ih (u / 10) (by omega) (by omega)
      have e : mk (Lib.decDigits u) = mk (Lib.decDigits (u / 10)) ++ tenS.extract (u % 10) (u % 10 + 1) := by
        rw [decDigits_step u h9, ten_get ⟨u % 10, by omega⟩]
        exact (mk_append _ _).symm
      rw [e]
      exact digits_step u (u / 10) (u % 10) _ hrec (by rw [Int.tdiv_eq_ediv_of_nonneg (by omega)]; omega) (by rw [Int.tmod_eq_emod_of_nonneg (by omega)]; omega) (by omega) (by omega)
        (by rw [mk_size]; exact dec_len (u / 10) (by omega)) (by omega) w

def leastT : List UInt8 := [45, 57, 50, 50, 51, 51, 55, 50, 48, 51, 54, 56, 53, 52, 55, 55, 53, 56, 48, 56]
theorem least_itoa : Lib.itoa (-9223372036854775808) = leastT := by
  simp [Lib.itoa, Lib.decDigits, leastT]

set_option maxRecDepth 100000 in
theorem digits_least (w : World) :
    Calls Tryd.prog 28 #[.int .i64 (-9223372036854775808)] w fun e w' => e = .returned (.string (mk leastT)) ∧ ∃ q, w' = w.drewN q := by
  go_enter Tryd.func28, Tryd.ntmps28
  go_wp2
  go_ret
  exact ⟨rfl, 0, rfl⟩

set_option maxRecDepth 100000 in
theorem digits_neg (n u : Int) (T : ByteArray) (HR : Hid (∀ w : World, Calls Tryd.prog 28 #[.int .i64 u] w fun e w' => e = .returned (.string T) ∧ ∃ q, w' = w.drewN q)) (hu : -n = u) (h0 : n < 0) (h1 : -9223372036854775807 ≤ n) (hT : T.size ≤ 20) (w : World) :
    Calls Tryd.prog 28 #[.int .i64 n] w fun e w' => e = .returned (.string (⟨#[45]⟩ ++ T)) ∧ ∃ q, w' = w.drewN q := by
  have h2 : decide (n < -9223372036854775807) = false := by simp; omega
  have h3 : wrap64 (-n) = u := by rw [hu]; unfold wrap64; omega
  go_enter Tryd.func28, Tryd.ntmps28
  go_wp2_with (first
    | (go_at_call 28; refine (HR.out _).mono ?_; rintro e w' ⟨rfl, q, rfl⟩))
  go_ret
  exact ⟨rfl, q, rfl⟩

theorem digits_any (n : Int) (h0 : -9223372036854775808 ≤ n) (h1 : n ≤ 9223372036854775807) (w : World) :
    Calls Tryd.prog 28 #[.int .i64 n] w fun e w' => e = .returned (.string (mk (Lib.itoa n))) ∧ ∃ q, w' = w.drewN q := by
  by_cases hn : n < 0
  · by_cases hm : n = -9223372036854775808
    · subst hm
      rw [least_itoa]
      exact digits_least w
    · have e : mk (Lib.itoa n) = ⟨#[45]⟩ ++ mk (Lib.decDigits n.natAbs) := by
        have e1 : Lib.itoa n = [45] ++ Lib.decDigits n.natAbs := by unfold Lib.itoa; rw [if_pos hn]; rfl
        rw [e1, ← mk_append]
        rfl
      rw [e]
      refine digits_neg n n.natAbs _ (fun w => digits_nat n.natAbs (by omega) w) (by omega) hn (by omega) (by rw [mk_size]; exact dec_len _ (by omega)) w
  · have e : Lib.itoa n = Lib.decDigits n.toNat := by unfold Lib.itoa; rw [if_neg hn]
    rw [e]
    have := digits_nat n.toNat (by omega) w
    have e2 : ((n.toNat : Nat) : Int) = n := by omega
    rwa [e2] at this

end Go.Proofs.YtmhigndplbdknaaDoor
