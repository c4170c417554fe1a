/-
  The walk of StateRetired: it returns true and turns nothing that was there. Conditions: the tables read as they are laid; the slice reads as a list of ints.
-/
import Derived.Test.YtpomhlhpeckkhaaDoorLives
namespace Go.Proofs.YtpomhlhpeckkhaaDoor
open Go.ChangeShapes Go.WideShapes Go.ChangeAt Go.RowKit

set_option maxHeartbeats 2000000 in
theorem retired_walk (a : Option Addr) (len cap : Nat) (zs : List Int) (w : World) (hn : Tabs w) (hr : IntsAt w a len cap zs) :
    Calls Tryd.prog 6 #[.slice a len cap] w fun e w' => e = .returned (.bool true) ∧ Below w.heap.size w w' := by
  have hle := hr.hle
  have hcap := hr.hcap
  unfold maxLen at hcap
  have HR : Hid (IntsAt w a len cap zs) := hr
  have HN : Hid (Tabs w) := hn
  clear hr hn
  go_enter Tryd.func6, Tryd.ntmps6
  go_wp2_with fail
  refine (lives_any w HN.out).mono ?_
  rintro e w1 ⟨rfl, hb⟩
  have HB : Hid _ := hb
  have HR1 : Hid _ := HR.out.below hb
  have HN1 : Hid _ := HN.out.below hb
  clear hb HR HN
  go_wp2
  go_loop [3, 4, 5] (fun v o i => ∃ (k : Nat) (S : Int) (O : Bool), k ≤ 40 ∧ i = .int .i64 k ∧ v = .int .i64 S ∧ o = .bool O ∧ 0 ≤ S ∧ S ≤ 3 ∧ (O = false → S = 3)) (fun _ _ i => 40 - (intOf i).toNat)
  case atStart => exact ⟨0, 3, false, by omega, rfl, rfl, rfl, by omega, by omega, fun _ => rfl⟩
  case round =>
    obtain ⟨k, S, O, hk, rfl, rfl, rfl, hS0, hS3, hO⟩ := hrel
    by_cases hlt : k < len
    · by_cases h40 : k < 40
      · obtain ⟨b, off, rfl, _, hcell⟩ := HR1.out.at_ k hlt
        obtain ⟨x, hx⟩ : ∃ x, x = zs.getD k 0 := ⟨_, rfl⟩
        rw [← hx] at hcell
        obtain ⟨T, hT⟩ : ∃ T, nx S x = T := ⟨_, rfl⟩
        obtain ⟨B, hB⟩ : ∃ B, did S x = B := ⟨_, rfl⟩
        have hT03 := nx_in x hS0 hS3
        rw [hT] at hT03
        obtain ⟨hT0, hT3⟩ := hT03
        have HT : Hid _ := hT
        have HD : Hid _ := hB
        have hout : (O = true ∨ x = 1 ∨ x = 6) ∨ (O = false ∧ (x == 1) = false ∧ (x == 6) = false ∧ T = 3) := by
          cases O with
          | true => exact .inl (.inl rfl)
          | false =>
            by_cases h1 : x = 1
            · exact .inl (.inr (.inl h1))
            · by_cases h6 : x = 6
              · exact .inl (.inr (.inr h6))
              · refine .inr ⟨rfl, by simpa using h1, by simpa using h6, ?_⟩
                rw [← hT, hO rfl]
                exact nx_three h1 h6
        have HO : Hid _ := hO
        clear hx hT hB hO
        rcases hout with (hO | hx | hx) | ⟨hO, hx1, hx6, hT⟩
        · subst hO
          by_cases hz : T = 0
          · subst hz
            go_wp2_with (first
              | (go_at_call 9; refine (next_n _ _ _ HN1.out _ _ HT.out HD.out).mono ?_; rintro e w' ⟨rfl, rfl⟩)
              | (go_at_call 17; refine (serves_any _ _).mono ?_; rintro e w' ⟨rfl, rfl⟩)
              | (go_at_call 18; refine (opens_any _ _).mono ?_; rintro e w' ⟨rfl, rfl⟩))
            go_round
            case rel => exact ⟨k + 1, 0, true, by omega, by go_num, rfl, rfl, by omega, by omega, fun h => by cases h⟩
            case measure => simp [intOf]; omega
          · have hz' : (T == 0) = false := by simpa using hz
            go_wp2_with (first
              | (go_at_call 9; refine (next_n _ _ _ HN1.out _ _ HT.out HD.out).mono ?_; rintro e w' ⟨rfl, rfl⟩)
              | (go_at_call 17; refine (serves_any _ _).mono ?_; rintro e w' ⟨rfl, rfl⟩)
              | (go_at_call 18; refine (opens_any _ _).mono ?_; rintro e w' ⟨rfl, rfl⟩))
            go_round
            case rel => exact ⟨k + 1, T, true, by omega, by go_num, rfl, rfl, by omega, by omega, fun h => by cases h⟩
            case measure => simp [intOf]; omega
        · subst hx
          cases O
          all_goals
            by_cases hz : T = 0
            · subst hz
              go_wp2_with (first
                | (go_at_call 9; refine (next_n _ _ _ HN1.out _ _ HT.out HD.out).mono ?_; rintro e w' ⟨rfl, rfl⟩)
                | (go_at_call 17; refine (serves_any _ _).mono ?_; rintro e w' ⟨rfl, rfl⟩)
                | (go_at_call 18; refine (opens_any _ _).mono ?_; rintro e w' ⟨rfl, rfl⟩))
              go_round
              case rel => exact ⟨k + 1, 0, true, by omega, by go_num, rfl, rfl, by omega, by omega, fun h => by cases h⟩
              case measure => simp [intOf]; omega
            · have hz' : (T == 0) = false := by simpa using hz
              go_wp2_with (first
                | (go_at_call 9; refine (next_n _ _ _ HN1.out _ _ HT.out HD.out).mono ?_; rintro e w' ⟨rfl, rfl⟩)
                | (go_at_call 17; refine (serves_any _ _).mono ?_; rintro e w' ⟨rfl, rfl⟩)
                | (go_at_call 18; refine (opens_any _ _).mono ?_; rintro e w' ⟨rfl, rfl⟩))
              go_round
              case rel => exact ⟨k + 1, T, true, by omega, by go_num, rfl, rfl, by omega, by omega, fun h => by cases h⟩
              case measure => simp [intOf]; omega
        · subst hx
          cases O
          all_goals
            by_cases hz : T = 0
            · subst hz
              go_wp2_with (first
                | (go_at_call 9; refine (next_n _ _ _ HN1.out _ _ HT.out HD.out).mono ?_; rintro e w' ⟨rfl, rfl⟩)
                | (go_at_call 17; refine (serves_any _ _).mono ?_; rintro e w' ⟨rfl, rfl⟩)
                | (go_at_call 18; refine (opens_any _ _).mono ?_; rintro e w' ⟨rfl, rfl⟩))
              go_round
              case rel => exact ⟨k + 1, 0, true, by omega, by go_num, rfl, rfl, by omega, by omega, fun h => by cases h⟩
              case measure => simp [intOf]; omega
            · have hz' : (T == 0) = false := by simpa using hz
              go_wp2_with (first
                | (go_at_call 9; refine (next_n _ _ _ HN1.out _ _ HT.out HD.out).mono ?_; rintro e w' ⟨rfl, rfl⟩)
                | (go_at_call 17; refine (serves_any _ _).mono ?_; rintro e w' ⟨rfl, rfl⟩)
                | (go_at_call 18; refine (opens_any _ _).mono ?_; rintro e w' ⟨rfl, rfl⟩))
              go_round
              case rel => exact ⟨k + 1, T, true, by omega, by go_num, rfl, rfl, by omega, by omega, fun h => by cases h⟩
              case measure => simp [intOf]; omega
        · subst hO hT
          go_wp2_with (first
            | (go_at_call 9; refine (next_n _ _ _ HN1.out _ _ HT.out HD.out).mono ?_; rintro e w' ⟨rfl, rfl⟩)
            | (go_at_call 17; refine (serves_any _ _).mono ?_; rintro e w' ⟨rfl, rfl⟩)
            | (go_at_call 18; refine (opens_any _ _).mono ?_; rintro e w' ⟨rfl, rfl⟩))
          go_round
          case rel => exact ⟨k + 1, 3, false, by omega, by go_num, rfl, rfl, by omega, by omega, fun _ => rfl⟩
          case measure => simp [intOf]; omega
      · obtain rfl : k = 40 := by omega
        clear hS0 hS3
        go_wp2
        go_ret
        exact ⟨rfl, HB.out⟩
    · go_wp2
      go_ret
      exact ⟨rfl, HB.out⟩

end Go.Proofs.YtpomhlhpeckkhaaDoor
