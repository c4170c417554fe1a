/-
  What letter, Name and the document's Name answer, each as a contract. Condition: the text is no longer than the greatest length.
-/
import Derived.Test.YtmlkpfkeeifgeaaDoorPure
namespace Go.Proofs.YtmlkpfkeeifgeaaDoor
open Go.ChangeShapes Go.WideShapes Go.ChangeAt Go.RowKit

theorem Hid.mk' {p : Prop} (h : p) : Hid p := h
theorem ret_bool {a b : Bool} (h : a = b) : Ending.returned (.bool a) = .returned (.bool b) := by rw [h]
theorem ret_int {k : IntKind} {a b : Int} (h : a = b) : Ending.returned (.int k a) = .returned (.int k b) := by rw [h]

theorem letter_any (b : UInt8) (w : World) :
    Calls Tryd.prog 98 #[.int .u8 b.toNat] w fun e w' => e = .returned (.bool (letB b)) ∧ w' = w := by
  have hc := let_cases b
  generalize letB b = r at *
  generalize (b.toNat : Int) = n at *
  rcases hc with ⟨rfl, h1, h2⟩ | ⟨rfl, h1, h2, h3⟩ | ⟨rfl, rfl⟩ | ⟨rfl, rfl⟩ | ⟨rfl, h1, h2, h3, h4, h5, h6⟩ | ⟨rfl, h1, h2, h3, h4, h5⟩ | ⟨rfl, h1, h2, h3, h4⟩
  all_goals
    go_enter Tryd.func98, Tryd.ntmps98
    go_wp2
    go_ret
    exact ⟨ret_bool (by first | rfl | simp_all), rfl⟩

set_option maxRecDepth 100000 in
theorem rname_any (s : ByteArray) (hs : s.size ≤ maxLen) (w : World) :
    Calls Tryd.prog 92 #[.string s] w fun e w' => e = .returned (.bool (nameB s)) ∧ w' = w := by
  unfold maxLen at hs
  go_enter Tryd.func92, Tryd.ntmps92
  go_wp2
  go_loopw [3] (fun i wr => ∃ k : Nat, k ≤ s.size ∧ i = .int .i64 k ∧ Hid ((s.data.toList.take k).all letB = true) ∧ wr = w) (fun i _ => s.size - (intOf i).toNat)
  case atStart => exact ⟨0, Nat.zero_le _, rfl, Hid.mk' rfl, rfl⟩
  case round =>
    obtain ⟨k, hk, rfl, hA, rfl⟩ := hrel
    by_cases hlt : k < s.size
    · have hl : k < s.data.toList.length := by simpa using hlt
      have hkn : (k : Int) < (s.size : Int) := by omega
      have hget : s[k] = s.data.toList[k] := rfl
      have hc := let_cases s[k]
      have HY : Hid (letB s[k] = true → (s.data.toList.take (k + 1)).all letB = true) := fun h => all_snoc hl hA.out (by rw [← hget]; exact h)
      have HN : Hid (letB s[k] = false → nameB s = false) := fun h => nameB_bad (all_fail hl (by rw [← hget]; exact h))
      clear hget
      rcases hc with ⟨hr, h1, h2⟩ | ⟨hr, h1, h2, h3⟩ | ⟨hr, h1⟩ | ⟨hr, h1⟩ | ⟨hr, h1, h2, h3, h4, h5, h6⟩ | ⟨hr, h1, h2, h3, h4, h5⟩ | ⟨hr, h1, h2, h3, h4⟩
      iterate 4
        · have HH := Hid.mk' (HY.out hr)
          clear HY HN hr hA
          go_wp2
          go_roundw
          case rel => exact ⟨k + 1, by omega, by go_num, HH, trivial⟩
          case measure => simp [intOf]; omega
      all_goals
        have HH := Hid.mk' (HN.out hr)
        clear HY HN hr hA
        go_wp2
        go_ret
        exact ⟨ret_bool HH.out.symm, rfl⟩
    · obtain rfl : k = s.size := by omega
      have hall : s.data.toList.all letB = true := by
        have := hA.out
        rwa [List.take_of_length_le (by simp)] at this
      have HH : Hid (nameB s = (decide ((1 : Int) ≤ s.size) && decide ((s.size : Int) ≤ 16))) := Hid.mk' (by
        unfold nameB
        rw [hall, Bool.and_true]
        congr 1
        · exact decide_eq_decide.2 (by omega)
        · exact decide_eq_decide.2 (by omega))
      clear hA hall
      by_cases h1 : (1 : Int) ≤ s.size
      · by_cases h2 : (s.size : Int) ≤ 16
        · go_wp2
          go_ret
          exact ⟨ret_bool (by rw [HH.out]; simp [h1, h2]), rfl⟩
        · go_wp2
          go_ret
          exact ⟨ret_bool (by rw [HH.out]; simp [h1, h2]), rfl⟩
      · go_wp2
        go_ret
        exact ⟨ret_bool (by rw [HH.out]; simp; omega), rfl⟩

set_option maxRecDepth 100000 in
theorem name_any (s : ByteArray) (hs : s.size ≤ maxLen) (w : World) :
    Calls Tryd.prog 80 #[.string s] w fun e w' => e = .returned (.bool (nameB s)) ∧ w' = w := by
  unfold maxLen at hs
  by_cases h0 : s.size = 0
  · obtain rfl := empty_of_size h0
    go_enter Tryd.func80, Tryd.ntmps80
    go_wp2
    go_ret
    exact ⟨ret_bool (nameB_nil h0).symm, rfl⟩
  · have hne : ¬ s.toList = [] := by
      rw [Lib.toList_data]
      intro e
      apply h0
      rw [Lib.size_eq, e]
      rfl
    have hne2 : s.toList.isEmpty = false := by simpa using hne
    by_cases hb : 16 < s.size
    · have hb' : (16 : Int) < s.size := by omega
      have HH := Hid.mk' (nameB_big hb)
      go_enter Tryd.func80, Tryd.ntmps80
      go_wp2
      go_ret
      exact ⟨ret_bool HH.out.symm, rfl⟩
    · have hb' : (s.size : Int) ≤ 16 := by omega
      have HM := Hid.mk' (nameB_mid (s := s) (by omega) (by omega))
      go_enter Tryd.func80, Tryd.ntmps80
      go_wp2
      go_loopw [13] (fun i wr => ∃ k : Nat, k ≤ s.size ∧ i = .int .i64 k ∧ Hid ((s.data.toList.take k).all letB = true) ∧ wr = w) (fun i _ => s.size - (intOf i).toNat)
      case atStart => exact ⟨0, Nat.zero_le _, rfl, Hid.mk' rfl, rfl⟩
      case round =>
        obtain ⟨k, hk, rfl, hA, rfl⟩ := hrel
        by_cases hlt : k < s.size
        · have hl : k < s.data.toList.length := by simpa using hlt
          have hkn : (k : Int) < (s.size : Int) := by omega
          have hget : s[k] = s.data.toList[k] := rfl
          have hlet := letter_any s[k] wr
          have HY : Hid (letB s[k] = true → (s.data.toList.take (k + 1)).all letB = true) := fun h => all_snoc hl hA.out (by rw [← hget]; exact h)
          have HN : Hid (letB s[k] = false → nameB s = false) := fun h => nameB_bad (all_fail hl (by rw [← hget]; exact h))
          clear hget hA
          cases hr : letB s[k] with
          | true =>
            have HH := Hid.mk' (HY.out hr)
            rw [hr] at hlet
            clear HY HN hr
            go_wp2_with (go_at_call 98; refine hlet.mono ?_; rintro e w' ⟨rfl, rfl⟩)
            go_roundw
            case rel => exact ⟨k + 1, by omega, by go_num, HH, trivial⟩
            case measure => simp [intOf]; omega
          | false =>
            have HH := Hid.mk' (HN.out hr)
            rw [hr] at hlet
            clear HY HN hr
            go_wp2_with (go_at_call 98; refine hlet.mono ?_; rintro e w' ⟨rfl, rfl⟩)
            go_ret
            exact ⟨ret_bool HH.out.symm, rfl⟩
        · obtain rfl : k = s.size := by omega
          have hall : s.data.toList.all letB = true := by
            have := hA.out
            rwa [List.take_of_length_le (by simp)] at this
          have HH := Hid.mk' (HM.out.trans hall)
          clear hA hall HM
          go_wp2
          go_ret
          exact ⟨ret_bool HH.out.symm, rfl⟩

end Go.Proofs.YtmlkpfkeeifgeaaDoor
