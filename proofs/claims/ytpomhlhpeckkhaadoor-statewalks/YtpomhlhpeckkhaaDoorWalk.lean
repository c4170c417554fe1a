/-
  Walk, the program's and the document's own, as contracts; the document's example answers true. Conditions: the slice reads as the listed ints; of the program's, the tables read as they are laid.
-/
import Derived.Test.YtpomhlhpeckkhaaDoorNext
namespace Go.Proofs.YtpomhlhpeckkhaaDoor
open Go.ChangeShapes Go.WideShapes Go.ChangeAt Go.RowKit

theorem step_did {s : Int} {zs : List Int} {k : Nat} (hk : k < zs.length) {x S : Int} (hx : x = zs.getD k 0) (hS : wk s (zs.take k) = S) (hd : did S x = true) :
    wk s (zs.take (k + 1)) = nx S x ∧ wn s (zs.take (k + 1)) = wn s (zs.take k) + 1 := by
  rw [take_snoc zs k hk, wk_snoc, wn_snoc, hS, ← hx, if_pos hd]
  exact ⟨rfl, rfl⟩
theorem step_not {s : Int} {zs : List Int} {k : Nat} (hk : k < zs.length) {x S : Int} (hx : x = zs.getD k 0) (hS : wk s (zs.take k) = S) (hd : did S x = false) :
    wk s (zs.take (k + 1)) = nx S x ∧ wn s (zs.take (k + 1)) = wn s (zs.take k) := by
  rw [take_snoc zs k hk, wk_snoc, wn_snoc, hS, ← hx, hd]
  exact ⟨rfl, rfl⟩

set_option maxHeartbeats 1000000 in
theorem walk_any (s : Int) (a : Option Addr) (len cap : Nat) (zs : List Int) (w : World) (hn : Tabs w) (hr : IntsAt w a len cap zs) :
    Calls Tryd.prog 11 #[.int .i64 s, .slice a len cap] w fun e w' => e = .returned (.tuple #[.int .i64 (wk s zs), .int .i64 (wn s zs : Nat)]) ∧ w' = w := by
  obtain ⟨hz, hle, hcap, hc⟩ := hr
  unfold maxLen at hcap
  have HN : Hid (Tabs w) := hn
  clear hn
  go_enter Tryd.func11, Tryd.ntmps11
  go_wp2
  go_loop [0, 6, 13] (fun v c i => ∃ k : Nat, k ≤ len ∧ i = .int .i64 k ∧ v = .int .i64 (wk s (zs.take k)) ∧ c = .int .i64 (wn s (zs.take k) : Nat)) (fun _ _ i => len - (intOf i).toNat)
  case atStart => exact ⟨0, Nat.zero_le _, rfl, rfl, rfl⟩
  case round =>
    obtain ⟨k, hk, rfl, rfl, rfl⟩ := hrel
    have hnk : wn s (zs.take k) ≤ k := by have := wn_le s (zs.take k); rw [List.length_take] at this; omega
    by_cases hlt : k < len
    · obtain ⟨b, off, rfl, _, hcell⟩ := hc k hlt
      obtain ⟨x, hx⟩ : ∃ x, x = zs.getD k 0 := ⟨_, rfl⟩
      rw [← hx] at hcell
      obtain ⟨S, hS⟩ : ∃ S, wk s (zs.take k) = S := ⟨_, rfl⟩
      obtain ⟨T, hT⟩ : ∃ T, nx S x = T := ⟨_, rfl⟩
      obtain ⟨M, hM⟩ : ∃ M, wn s (zs.take k) = M := ⟨_, rfl⟩
      cases hd : did S x with
      | true =>
        have HS := step_did (by omega) hx hS hd
        rw [hM, hT] at HS
        have HS : Hid _ := HS
        have HT : Hid _ := hT
        have HD : Hid _ := hd
        rw [hM] at hnk
        rw [hS, hM]
        clear hc hx hT hd hS hM
        go_wp2_with (go_at_call 9; refine (next_n _ _ _ HN.out _ _ HT.out HD.out).mono ?_; rintro e w' ⟨rfl, rfl⟩)
        go_round
        case rel => exact ⟨k + 1, by omega, by go_num, by rw [HS.out.1], by rw [HS.out.2]; go_num⟩
        case measure => simp [intOf]; omega
      | false =>
        have HS := step_not (by omega) hx hS hd
        rw [hM, hT] at HS
        have HS : Hid _ := HS
        have HT : Hid _ := hT
        have HD : Hid _ := hd
        rw [hM] at hnk
        rw [hS, hM]
        clear hc hx hT hd hS hM
        go_wp2_with (go_at_call 9; refine (next_n _ _ _ HN.out _ _ HT.out HD.out).mono ?_; rintro e w' ⟨rfl, rfl⟩)
        go_round
        case rel => exact ⟨k + 1, by omega, by go_num, by rw [HS.out.1], by rw [HS.out.2]⟩
        case measure => simp [intOf]; omega
    · have e : zs.take k = zs := List.take_of_length_le (by omega)
      rw [e]
      clear e hc hnk
      go_wp2
      go_ret2
      exact ⟨rfl, rfl⟩

set_option maxHeartbeats 1000000 in
theorem rwalk_any (s : Int) (a : Option Addr) (len cap : Nat) (zs : List Int) (w : World) (hr : IntsAt w a len cap zs) :
    Calls Tryd.prog 12 #[.int .i64 s, .slice a len cap] w fun e w' => e = .returned (.tuple #[.int .i64 (wk s zs), .int .i64 (wn s zs : Nat)]) ∧ w' = w := by
  obtain ⟨hz, hle, hcap, hc⟩ := hr
  unfold maxLen at hcap
  go_enter Tryd.func12, Tryd.ntmps12
  go_wp2
  go_loop [0, 6, 7] (fun v c i => ∃ k : Nat, k ≤ len ∧ i = .int .i64 k ∧ v = .int .i64 (wk s (zs.take k)) ∧ c = .int .i64 (wn s (zs.take k) : Nat)) (fun _ _ i => len - (intOf i).toNat)
  case atStart => exact ⟨0, Nat.zero_le _, rfl, rfl, rfl⟩
  case round =>
    obtain ⟨k, hk, rfl, rfl, rfl⟩ := hrel
    have hnk : wn s (zs.take k) ≤ k := by have := wn_le s (zs.take k); rw [List.length_take] at this; omega
    by_cases hlt : k < len
    · obtain ⟨b, off, rfl, _, hcell⟩ := hc k hlt
      obtain ⟨x, hx⟩ : ∃ x, x = zs.getD k 0 := ⟨_, rfl⟩
      rw [← hx] at hcell
      obtain ⟨S, hS⟩ : ∃ S, wk s (zs.take k) = S := ⟨_, rfl⟩
      obtain ⟨T, hT⟩ : ∃ T, nx S x = T := ⟨_, rfl⟩
      obtain ⟨M, hM⟩ : ∃ M, wn s (zs.take k) = M := ⟨_, rfl⟩
      cases hd : did S x with
      | true =>
        have HS := step_did (by omega) hx hS hd
        rw [hM, hT] at HS
        have HS : Hid _ := HS
        have HT : Hid _ := hT
        have HD : Hid _ := hd
        rw [hM] at hnk
        rw [hS, hM]
        clear hc hx hT hd hS hM
        go_wp2_with (go_at_call 10; refine (rnext_n _ _ _ _ _ HT.out HD.out).mono ?_; rintro e w' ⟨rfl, rfl⟩)
        go_round
        case rel => exact ⟨k + 1, by omega, by go_num, by rw [HS.out.1], by rw [HS.out.2]; go_num⟩
        case measure => simp [intOf]; omega
      | false =>
        have HS := step_not (by omega) hx hS hd
        rw [hM, hT] at HS
        have HS : Hid _ := HS
        have HT : Hid _ := hT
        have HD : Hid _ := hd
        rw [hM] at hnk
        rw [hS, hM]
        clear hc hx hT hd hS hM
        go_wp2_with (go_at_call 10; refine (rnext_n _ _ _ _ _ HT.out HD.out).mono ?_; rintro e w' ⟨rfl, rfl⟩)
        go_round
        case rel => exact ⟨k + 1, by omega, by go_num, by rw [HS.out.1], by rw [HS.out.2]⟩
        case measure => simp [intOf]; omega
    · have e : zs.take k = zs := List.take_of_length_le (by omega)
      rw [e]
      clear e hc hnk
      go_wp2
      go_ret2
      exact ⟨rfl, rfl⟩

end Go.Proofs.YtpomhlhpeckkhaaDoor
