/-
  The walk of StateNames: it returns true and turns nothing that was there. Condition: the tables read as they are laid.
-/
import Derived.Test.YtpomhlhpeckkhaaDoorOf
namespace Go.Proofs.YtpomhlhpeckkhaaDoor
open Go.ChangeShapes Go.WideShapes Go.ChangeAt Go.RowKit

theorem rname_n (k : Int) (w : World) (N : ByteArray) (hN : nm k = N) :
    Calls Tryd.prog 14 #[.int .i64 k] w fun e w' => e = .returned (.string N) ∧ Below w.heap.size w w' := by
  rw [← hN]
  exact rname_any k w
theorem name_n (k : Int) (w : World) (hn : Tabs w) (N : ByteArray) (hN : nm k = N) :
    Calls Tryd.prog 13 #[.int .i64 k] w fun e w' => e = .returned (.string N) ∧ w' = w := by
  rw [← hN]
  exact name_any k w hn

set_option maxHeartbeats 2000000 in
theorem names_walk (s : ByteArray) (x : Int) (w : World) (hn : Tabs w) :
    Calls Tryd.prog 4 #[.string s, .int .i64 x] w fun e w' => e = .returned (.bool true) ∧ Below w.heap.size w w' := by
  obtain ⟨A, hA⟩ : ∃ A, wI s 4 = A := ⟨_, rfl⟩
  obtain ⟨B, hB⟩ : ∃ B, wT s 4 = B := ⟨_, rfl⟩
  have hof := of_last s
  rw [hA, hB] at hof
  have HO : Hid _ := hof
  have HA : Hid _ := hA
  have HB : Hid _ := hB
  have HN : Hid (Tabs w) := hn
  clear hA hB hof hn
  go_enter Tryd.func4, Tryd.ntmps4
  go_wp2_with fail
  refine (lives_any w HN.out).mono ?_
  rintro e w1 ⟨rfl, hb⟩
  have HW : Hid _ := hb
  have HN1 : Hid _ := HN.out.below hb
  clear hb HN
  go_wp2_with fail
  refine (of_n s _ HN1.out A B HO.out.1 HO.out.2).mono ?_
  rintro e w' ⟨rfl, hw⟩
  obtain rfl : w1 = w' := hw.symm
  clear HO
  go_wp2
  go_loopw [7, 8, 9] (fun v t i wr => ∃ k : Nat, k ≤ 4 ∧ i = .int .i64 k ∧ v = .int .i64 (wI s k) ∧ t = .bool (wT s k) ∧ Below w1.heap.size w1 wr) (fun _ _ i _ => 4 - (intOf i).toNat)
  case atStart => exact ⟨0, by omega, rfl, rfl, rfl, Below.refl _ _⟩
  case round =>
    obtain ⟨k, hk, rfl, rfl, rfl, hbr⟩ := hrel
    have HBR : Hid _ := hbr
    clear hbr
    by_cases hlt : k < 4
    · obtain ⟨N, hN⟩ : ∃ N, nm k = N := ⟨_, rfl⟩
      obtain ⟨C, hC⟩ : ∃ C, wI s k = C := ⟨_, rfl⟩
      obtain ⟨D, hD⟩ : ∃ D, wT s k = D := ⟨_, rfl⟩
      rw [hC, hD]
      cases hi : isN s k with
      | true =>
        have HS : Hid (wI s (k + 1) = k ∧ wT s (k + 1) = true) := by simp [wI, wT, hi, Hid]
        unfold isN at hi
        rw [hN] at hi
        have HX : Hid _ := hN
        clear hN hC hD
        go_wp2_with fail
        refine (rname_n _ _ N HX.out).mono ?_
        rintro e w2 ⟨rfl, hb2⟩
        have HB2 : Hid _ := hb2
        clear hb2
        go_wp2
        go_roundw
        case rel => exact ⟨k + 1, by omega, by go_num, by rw [HS.out.1], by rw [HS.out.2], HBR.out.trans (HB2.out.mono HBR.out.size)⟩
        case measure => simp [intOf]; omega
      | false =>
        have HS : Hid (wI s (k + 1) = C ∧ wT s (k + 1) = D) := by simp [wI, wT, hi, Hid, hC, hD]
        unfold isN at hi
        rw [hN] at hi
        have HX : Hid _ := hN
        clear hN hC hD
        go_wp2_with fail
        refine (rname_n _ _ N HX.out).mono ?_
        rintro e w2 ⟨rfl, hb2⟩
        have HB2 : Hid _ := hb2
        clear hb2
        go_wp2
        go_roundw
        case rel => exact ⟨k + 1, by omega, by go_num, by rw [HS.out.1], by rw [HS.out.2], HBR.out.trans (HB2.out.mono HBR.out.size)⟩
        case measure => simp [intOf]; omega
    · obtain rfl : k = 4 := by omega
      rw [HA.out, HB.out]
      have HN2 : Hid _ := HN1.out.below HBR.out
      by_cases hx : 0 ≤ x ∧ x ≤ 3
      · have HX : Hid _ := isN_nm x hx.1 hx.2
        obtain ⟨N, hN⟩ : ∃ N, nm x = N := ⟨_, rfl⟩
        rw [hN] at HX
        have HY : Hid _ := hN
        obtain ⟨hx0, hx3⟩ := hx
        have hx4 : x < 4 := by omega
        clear hN
        go_wp2_with fail
        refine (name_n _ _ HN2.out N HY.out).mono ?_
        rintro e w' ⟨rfl, hw⟩
        obtain rfl : wr = w' := hw.symm
        go_wp2_with fail
        refine (of_n N _ HN2.out x true HX.out.1 HX.out.2).mono ?_
        rintro e w' ⟨rfl, hw⟩
        obtain rfl : wr = w' := hw.symm
        go_wp2
        go_ret
        exact ⟨rfl, HW.out.trans (HBR.out.mono HW.out.size)⟩
      · have HX : Hid _ := isN_no x hx
        obtain ⟨N, hN⟩ : ∃ N, nm x = N := ⟨_, rfl⟩
        rw [hN] at HX
        have HY : Hid _ := hN
        have hx4 : (0 ≤ x ∧ decide (x < 4) = false) ∨ decide (0 ≤ x) = false := by
          by_cases h0 : 0 ≤ x
          · exact .inl ⟨h0, by simp; omega⟩
          · exact .inr (by simpa using h0)
        clear hN hx
        rcases hx4 with ⟨hx0, hx4⟩ | hx4
        all_goals
          go_wp2_with fail
          refine (name_n _ _ HN2.out N HY.out).mono ?_
          rintro e w' ⟨rfl, hw⟩
          obtain rfl : wr = w' := hw.symm
          go_wp2_with fail
          refine (of_n N _ HN2.out 0 false HX.out.1 HX.out.2).mono ?_
          rintro e w' ⟨rfl, hw⟩
          obtain rfl : wr = w' := hw.symm
          go_wp2
          go_ret
          exact ⟨rfl, HW.out.trans (HBR.out.mono HW.out.size)⟩

end Go.Proofs.YtpomhlhpeckkhaaDoor
