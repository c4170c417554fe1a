/-
  Small calls of package guard, each as a contract that leaves the world as it was: active, capacity, there, Capacity, Without, Spare, Fell; the laws' few and near. Conditions: a slice reads as the listed ints.
-/
import Derived.Test.YtkppicocjipakaaMem
namespace Go.Proofs.Ytkppicocjipakaa
open Go.ChangeShapes Go.WideShapes Go.ChangeAt Go.RowKit

/-- An int. -/
def In (d : Int) : Prop := -9223372036854775808 ≤ d ∧ d ≤ 9223372036854775807

set_option maxHeartbeats 1000000 in
theorem active_any (a : Option Addr) (len cap : Nat) (zs : List Int) (w : World) (hr : IntsAt w a len cap zs) :
    Calls Try.prog 24 #[.slice a len cap] w fun e w' => e = .returned (.int .i64 (act zs : Nat)) ∧ w' = w := by
  obtain ⟨hz, hle, hcap, hc⟩ := hr
  unfold maxLen at hcap
  go_enter Try.func24, Try.ntmps24
  go_wp2
  go_loop [3, 8] (fun c i => ∃ k : Nat, k ≤ len ∧ i = .int .i64 k ∧ c = .int .i64 (act (zs.take k) : Nat)) (fun _ i => len - (intOf i).toNat)
  case atStart => exact ⟨0, Nat.zero_le _, rfl, rfl⟩
  case round =>
    obtain ⟨k, hk, rfl, rfl⟩ := hrel
    have hnk : act (zs.take k) ≤ k := by have := act_le (zs.take k); rw [List.length_take] at this; omega
    by_cases hlt : k < len
    · obtain ⟨b, off, rfl, _, hcell⟩ := hc k hlt
      have hs := take_snoc zs k (by omega)
      obtain ⟨x, hx⟩ : ∃ x, zs.getD k 0 = x := ⟨_, rfl⟩
      rw [hx] at hcell hs
      obtain ⟨M, hM⟩ : ∃ M, act (zs.take k) = M := ⟨_, rfl⟩
      rw [hM] at hnk
      by_cases h0 : x = 0
      · have HS : Hid (act (zs.take (k + 1)) = M + 1) := by rw [hs, act_yes _ h0, hM]; exact rfl
        subst h0
        rw [hM]
        clear hc hx hs hM
        go_wp2
        go_round
        case rel => exact ⟨k + 1, by omega, by go_num, by rw [HS.out]; go_num⟩
        case measure => simp [intOf]; omega
      · have HS : Hid (act (zs.take (k + 1)) = M) := by rw [hs, act_no _ h0, hM]; exact rfl
        rw [hM]
        clear hc hx hs hM
        go_wp2
        go_round
        case rel => exact ⟨k + 1, by omega, by go_num, by rw [HS.out]⟩
        case measure => simp [intOf]; omega
    · have e : zs.take k = zs := List.take_of_length_le (by omega)
      rw [e]
      clear e hc hnk
      go_wp2
      go_ret
      exact ⟨rfl, rfl⟩

theorem tdiv_top (e : Int) : (9223372036854775807 : Int).tdiv e = 9223372036854775807 / e := Int.tdiv_eq_ediv_of_nonneg (by decide)

theorem capacity_any (h e : Int) (w : World) :
    Calls Try.prog 23 #[.int .i64 h, .int .i64 e] w fun r w' => r = .returned (.int .i64 (capI h e)) ∧ w' = w := by
  by_cases h0 : h ≤ 0
  · go_enter Try.func23, Try.ntmps23
    go_wp2
    go_ret
    exact ⟨ret_int (capI_none (.inl h0)).symm, rfl⟩
  · by_cases h1 : e ≤ 0
    · go_enter Try.func23, Try.ntmps23
      go_wp2
      go_ret
      exact ⟨ret_int (capI_none (.inr h1)).symm, rfl⟩
    · have hd := tdiv_top e
      have HC : Hid _ := @capI_top h e h0 h1
      have HM : Hid _ := @capI_mul h e h0 h1
      have hin := @mul_in h e h0 h1
      have q0 : 0 ≤ (9223372036854775807 : Int) / e := Int.ediv_nonneg (by decide) (by omega)
      have q1 : (9223372036854775807 : Int) / e ≤ 9223372036854775807 := Int.ediv_le_self _ (by decide)
      generalize (9223372036854775807 : Int) / e = D at *
      by_cases h2 : D < h
      · have HC2 : Hid _ := HC.out h2
        clear HC HM hin
        go_enter Try.func23, Try.ntmps23
        go_wp2
        go_ret
        exact ⟨ret_int HC2.out.symm, rfl⟩
      · have HM2 : Hid _ := HM.out h2
        obtain ⟨m0, m1⟩ := hin h2
        clear HC HM hin
        go_enter Try.func23, Try.ntmps23
        go_wp2
        go_ret
        exact ⟨ret_int HM2.out.symm, rfl⟩

theorem there_any (a : Option Addr) (len cap : Nat) (i : Int) (w : World) :
    Calls Try.prog 25 #[.slice a len cap, .int .i64 i] w fun r w' => r = .returned (.bool (has len i)) ∧ w' = w := by
  by_cases h0 : 0 ≤ i
  · go_enter Try.func25, Try.ntmps25
    go_wp2
    go_ret
    exact ⟨ret_bool (by simp [has, h0]), rfl⟩
  · go_enter Try.func25, Try.ntmps25
    go_wp2
    go_ret
    exact ⟨ret_bool (has_false (by omega)).symm, rfl⟩

theorem cap_any (a : Option Addr) (len cap : Nat) (zs : List Int) (e : Int) (w : World) (hr : IntsAt w a len cap zs) :
    Calls Try.prog 13 #[.slice a len cap, .int .i64 e] w fun r w' => r = .returned (.int .i64 (capI (act zs : Nat) e)) ∧ w' = w := by
  go_enter Try.func13, Try.ntmps13
  go_wp2_with (first
    | (go_at_call 24; refine (active_any _ _ _ _ _ hr).mono ?_; rintro e w' ⟨rfl, rfl⟩)
    | (go_at_call 23; refine (capacity_any _ _ _).mono ?_; rintro e w' ⟨rfl, rfl⟩))
  go_ret
  exact ⟨rfl, rfl⟩

theorem fell_any (x y g : Int) (w : World) :
    Calls Try.prog 21 #[.int .i64 x, .int .i64 y, .int .i64 g] w fun r w' => r = .returned (.bool (decide (y < x) && decide (y < g))) ∧ w' = w := by
  by_cases h0 : y < x
  · go_enter Try.func21, Try.ntmps21
    go_wp2
    go_ret
    exact ⟨ret_bool (by simp [h0]), rfl⟩
  · go_enter Try.func21, Try.ntmps21
    go_wp2
    go_ret
    exact ⟨ret_bool (by rw [decide_eq_false (by omega)]; rfl), rfl⟩

end Go.Proofs.Ytkppicocjipakaa
