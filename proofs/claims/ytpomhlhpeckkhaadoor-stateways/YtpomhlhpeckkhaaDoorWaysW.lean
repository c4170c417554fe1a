/-
  The walk of StateWays: it returns true and turns nothing that was there. Condition: the tables read as they are laid.
-/
import Derived.Test.YtpomhlhpeckkhaaDoorLives
namespace Go.Proofs.YtpomhlhpeckkhaaDoor
open Go.ChangeShapes Go.WideShapes Go.ChangeAt Go.RowKit

theorem um_bd (m z : Int) (h0 : 0 < m) (h1 : m ≤ 1000) : 0 ≤ wrap64 ((IntKind.u64.wrap z).tmod m) ∧ wrap64 ((IntKind.u64.wrap z).tmod m) < m := by
  have e : IntKind.u64.wrap z = z % 18446744073709551616 := by simp [IntKind.wrap, IntKind.signed, IntKind.bits]
  have hnn : 0 ≤ z % 18446744073709551616 := Int.emod_nonneg _ (by decide)
  rw [e, Int.tmod_eq_emod_of_nonneg hnn]
  have a1 := Int.emod_nonneg (z % 18446744073709551616) (show m ≠ 0 by omega)
  have a2 := Int.emod_lt_of_pos (z % 18446744073709551616) h0
  generalize z % 18446744073709551616 % m = y at a1 a2
  have e2 : wrap64 y = y := by
    unfold wrap64
    omega
  rw [e2]
  exact ⟨a1, a2⟩

/-- What is found behind c rounds of the inmost loop. -/
def fC (t x y : Int) (b : Bool) : Nat → Bool
  | 0 => b
  | c + 1 => fC t x y b c || x == t || y == t || nx y c == t
def fB (t x : Int) (b : Bool) : Nat → Bool
  | 0 => b
  | c + 1 => fC t x (nx x c) (fB t x b c) 7
def fA (f t : Int) : Nat → Bool
  | 0 => f == t
  | a + 1 => if did f a = true then fB t (nx f a) (fA f t a) 7 else fA f t a

set_option maxRecDepth 100000 in
theorem found_all {f t : Int} (h0 : 0 ≤ f) (h1 : f < 4) (h2 : 0 ≤ t) (h3 : t < 4) : fA f t 7 = true := by
  rcases four h0 (show f ≤ 3 by omega) with rfl | rfl | rfl | rfl <;> rcases four h2 (show t ≤ 3 by omega) with rfl | rfl | rfl | rfl <;> decide +kernel

set_option maxHeartbeats 4000000 in
theorem ways_walk (f t : Int) (w : World) (hn : Tabs w) :
    Calls Tryd.prog 5 #[.int .i64 f, .int .i64 t] w fun e w' => e = .returned (.bool true) ∧ Below w.heap.size w w' := by
  have hfb := um_bd 4 f (by omega) (by omega)
  have htb := um_bd 4 t (by omega) (by omega)
  obtain ⟨F, hF⟩ : ∃ F, wrap64 ((IntKind.u64.wrap f).tmod 4) = F := ⟨_, rfl⟩
  obtain ⟨T, hT⟩ : ∃ T, wrap64 ((IntKind.u64.wrap t).tmod 4) = T := ⟨_, rfl⟩
  rw [hF] at hfb
  rw [hT] at htb
  have FIN : Hid (fA F T 7 = true) := found_all hfb.1 hfb.2 htb.1 htb.2
  clear hfb htb
  have HN : Hid (Tabs w) := hn
  clear hn
  go_enter Tryd.func5, Tryd.ntmps5
  go_wp2_with fail
  refine (lives_any w HN.out).mono ?_
  rintro e w1 ⟨rfl, hb⟩
  have HB : Hid _ := hb
  have HN1 : Hid _ := HN.out.below hb
  clear hb HN
  go_wp2
  rw [hF, hT]
  clear hF hT
  go_loop [5, 6] (fun o i => ∃ k : Nat, k ≤ 7 ∧ i = .int .i64 k ∧ o = .bool (fA F T k)) (fun _ i => 7 - (intOf i).toNat)
  case atStart => exact ⟨0, by omega, rfl, rfl⟩
  case round =>
    obtain ⟨k, hk, rfl, rfl⟩ := hrel
    by_cases hlt : k < 7
    · obtain ⟨X, hX⟩ : ∃ X, nx F k = X := ⟨_, rfl⟩
      obtain ⟨b0, hb0⟩ : ∃ b0, fA F T k = b0 := ⟨_, rfl⟩
      cases hd : did F k with
      | false =>
        have HS : Hid (fA F T (k + 1) = b0) := by simp [fA, hd, hb0, Hid]
        have HX : Hid _ := hX
        have HD : Hid _ := hd
        rw [hb0]
        clear hX hd hb0
        go_wp2_with (first
          | (go_at_call 9; refine (next_n _ _ _ HN1.out _ _ HX.out HD.out).mono ?_; rintro e w' ⟨rfl, rfl⟩))
        go_round
        case rel => exact ⟨k + 1, by omega, by go_num, by rw [HS.out]⟩
        case measure => simp [intOf]; omega
      | true =>
        have hag := again_not hd
        rw [hX] at hag
        have HS : Hid (fA F T (k + 1) = fB T X b0 7) := by simp [fA, hd, hb0, hX, Hid]
        have HX : Hid _ := hX
        have HD : Hid _ := hd
        have HA : Hid _ := hag
        obtain ⟨X2, hX2⟩ : ∃ X2, nx X k = X2 := ⟨_, rfl⟩
        have HX2 : Hid _ := hX2
        rw [hb0]
        clear hX hd hb0 hag hX2
        go_wp2_with fail
        refine (next_n F _ _ HN1.out _ _ HX.out HD.out).mono ?_
        rintro e w' ⟨rfl, rfl⟩
        go_wp2_with fail
        refine (next_n X _ _ HN1.out _ _ HX2.out HA.out).mono ?_
        rintro e w' ⟨rfl, rfl⟩
        go_wp2
        go_loop [5, 11] (fun o i => ∃ j : Nat, j ≤ 7 ∧ i = .int .i64 j ∧ o = .bool (fB T X b0 j)) (fun _ i => 7 - (intOf i).toNat)
        case atStart => exact ⟨0, by omega, rfl, rfl⟩
        case round =>
          obtain ⟨j, hj, rfl, rfl⟩ := hrel
          by_cases hlj : j < 7
          · obtain ⟨Y, hY⟩ : ∃ Y, nx X j = Y := ⟨_, rfl⟩
            obtain ⟨D, hD⟩ : ∃ D, did X j = D := ⟨_, rfl⟩
            obtain ⟨b1, hb1⟩ : ∃ b1, fB T X b0 j = b1 := ⟨_, rfl⟩
            have HS1 : Hid (fB T X b0 (j + 1) = fC T X Y b1 7) := by simp [fB, hb1, hY, Hid]
            have HY : Hid _ := hY
            have HD1 : Hid _ := hD
            rw [hb1]
            clear hY hD hb1
            go_wp2_with fail
            refine (next_n X _ _ HN1.out _ _ HY.out HD1.out).mono ?_
            rintro e w' ⟨rfl, rfl⟩
            go_wp2
            go_loop [5, 14] (fun o i => ∃ c : Nat, c ≤ 7 ∧ i = .int .i64 c ∧ o = .bool (fC T X Y b1 c)) (fun _ i => 7 - (intOf i).toNat)
            case atStart => exact ⟨0, by omega, rfl, rfl⟩
            case round =>
              obtain ⟨c, hc, rfl, rfl⟩ := hrel
              by_cases hlc : c < 7
              · obtain ⟨Z, hZ⟩ : ∃ Z, nx Y c = Z := ⟨_, rfl⟩
                obtain ⟨E, hE⟩ : ∃ E, did Y c = E := ⟨_, rfl⟩
                obtain ⟨b2, hb2⟩ : ∃ b2, fC T X Y b1 c = b2 := ⟨_, rfl⟩
                obtain ⟨p, hp⟩ : ∃ p, (X == T) = p := ⟨_, rfl⟩
                obtain ⟨q, hq⟩ : ∃ q, (Y == T) = q := ⟨_, rfl⟩
                obtain ⟨r, hr⟩ : ∃ r, (Z == T) = r := ⟨_, rfl⟩
                have HS2 : Hid (fC T X Y b1 (c + 1) = (b2 || p || q || r)) := by simp [fC, hb2, hZ, hp, hq, hr, Hid]
                have HZ : Hid _ := hZ
                have HE : Hid _ := hE
                rw [hb2]
                clear hZ hE hb2
                go_wp2_with fail
                refine (next_n Y _ _ HN1.out _ _ HZ.out HE.out).mono ?_
                rintro e w' ⟨rfl, rfl⟩
                cases b2 <;> cases p <;> cases q <;> cases r
                all_goals
                  go_wp2
                  go_round
                  case rel => exact ⟨c + 1, by omega, by go_num, by rw [HS2.out]; rfl⟩
                  case measure => simp [intOf]; omega
              · obtain rfl : c = 7 := by omega
                go_wp2
                go_round
                case rel => exact ⟨j + 1, by omega, by go_num, by rw [HS1.out]⟩
                case measure => simp [intOf]; omega
          · obtain rfl : j = 7 := by omega
            go_wp2
            go_round
            case rel => exact ⟨k + 1, by omega, by go_num, by rw [HS.out]⟩
            case measure => simp [intOf]; omega
    · obtain rfl : k = 7 := by omega
      rw [FIN.out]
      go_wp2
      go_ret
      exact ⟨rfl, HB.out⟩

end Go.Proofs.YtpomhlhpeckkhaaDoor
