/-
  What the document's Number answers, as a contract: whether a word is a number's, and then that number; it turns nothing that was there. Condition: the word has at most 250 bytes.
-/
import Derived.Test.YtmhigndplbdknaaDoorWords
namespace Go.Proofs.YtmhigndplbdknaaDoor
open Go.ChangeShapes Go.WideShapes Go.ChangeAt Go.RowKit

theorem decFrom_lt : ∀ (l : List UInt8) (k acc n : Nat), acc < 10 ^ k → Lib.decFrom acc l = some n → n < 10 ^ (k + l.length)
  | [], k, acc, n, h, e => by
    simp only [Lib.decFrom, Option.some.injEq] at e
    subst e
    simpa using h
  | b :: r, k, acc, n, h, e => by
    simp only [Lib.decFrom] at e
    cases hd : Lib.digitVal b with
    | none => simp [hd] at e
    | some d =>
      simp only [hd] at e
      have hd9 : d ≤ 9 := by
        unfold Lib.digitVal at hd
        split at hd
        · simp at hd
          omega
        · cases hd
      have := decFrom_lt r (k + 1) (acc * 10 + d) n (by rw [Nat.pow_succ]; omega) e
      have e2 : k + (b :: r).length = k + 1 + r.length := by simp; omega
      rwa [e2]
theorem no_num {S : List UInt8} (i : Nat) (b : UInt8) (h : (body S)[i]? = some b) (hb : Lib.digitVal b = none) : numB S = none := by
  cases hq : numB S with
  | none => rfl
  | some v =>
    obtain ⟨_, n, h2, _, _⟩ := (numB_alt S v).1 hq
    obtain ⟨d, hd⟩ := Lib.digit_of_decFrom _ _ _ h2 i b h
    rw [hb] at hd
    cases hd
theorem num_end {S : List UInt8} {n : Nat} (hl : (body S).length ≤ 9) (hn : Lib.decFrom 0 (body S) = some n) : (Lib.itoa (sgn S n) = S → numB S = some (sgn S n)) ∧ (Lib.itoa (sgn S n) ≠ S → numB S = none) := by
  refine ⟨fun h => (numB_alt S _).2 ⟨hl, n, hn, rfl, h⟩, fun h => ?_⟩
  cases hq : numB S with
  | none => rfl
  | some v =>
    obtain ⟨_, m, h2, h3, h4⟩ := (numB_alt S v).1 hq
    rw [hn] at h2
    cases h2
    exact absurd h4 h
theorem num_long {S : List UInt8} (hl : ¬ (body S).length ≤ 9) : numB S = none := by
  cases hq : numB S with
  | none => rfl
  | some v => exact absurd ((numB_alt S v).1 hq).1 hl

set_option maxRecDepth 100000 in
set_option maxHeartbeats 1000000 in
theorem number_f1 (S : List UInt8) (hS : S.length ≤ 250) (hne : neg S = true) (hbody : body S = S.drop 1) (hhead : S[0]? = some 45) (w : World) :
    Calls Tryd.prog 31 #[.string (mk S)] w fun e w' => (∃ n : Int, e = .returned (.tuple #[.int .i64 n, .bool (numO S)]) ∧ ∀ v, numB S = some v → n = v) ∧ Below w.heap.size w w' := by
  have hsz : (mk S).size = S.length := mk_size S
  have HB : Hid (body S = S.drop 1 ∧ neg S = true) := ⟨hbody, hne⟩
  clear hbody hne
  have hpos : 0 < S.length := by
    by_cases h : 0 < S.length
    · exact h
    · rw [List.getElem?_eq_none (by omega)] at hhead
      cases hhead
  have hp1 : (0 : Int) < (S.length : Int) := by omega
  have h00 : 0 < (mk S).size := by rw [hsz]; exact hpos
  have hd0 : ((((mk S)[0]'h00).toNat : Int) == 45) = true := by
    have e : (mk S)[0]'h00 = S[0]'hpos := rfl
    rw [List.getElem?_eq_getElem hpos] at hhead
    have h0 : (S[0]'hpos).toNat = 45 := by
      have := Option.some.inj hhead
      rw [this]
      rfl
    rw [e, h0]
    rfl
  clear hhead
  go_enter Tryd.func31, Tryd.ntmps31
  go_wp2
  go_loopw [4, 6] (fun vn vi wr => ∃ (i N : Nat), vn = .int .i64 N ∧ vi = .int .i64 i ∧ 1 ≤ i ∧ i ≤ S.length ∧ i ≤ 11 ∧ Hid (Lib.decFrom 0 ((S.drop 1).take (i - 1)) = some N) ∧ wr = w) (fun _ vi _ => 300 - (intOf vi).toNat)
  case atStart => exact ⟨1, 0, rfl, rfl, by omega, by omega, by omega, by show Lib.decFrom 0 ((S.drop 1).take 0) = some 0; rfl, rfl⟩
  case round =>
    obtain ⟨i, N, rfl, rfl, hi1, hi2, hi3, hdec, rfl⟩ := hrel
    have hN : N < 10000000000 := by
      have h1 := decFrom_lt _ 0 0 N (by decide) hdec.out
      have h2 : ((S.drop 1).take (i - 1)).length ≤ 10 := by rw [List.length_take]; omega
      have h3 : 10 ^ (0 + ((S.drop 1).take (i - 1)).length) ≤ 10 ^ 10 := Nat.pow_le_pow_right (by decide) (by omega)
      have h4 : (10 : Nat) ^ 10 = 10000000000 := by decide
      omega
    by_cases hgo : i < S.length ∧ i < 11
    · obtain ⟨g1, g2⟩ := hgo
      have h2 : i < (mk S).size := by rw [hsz]; exact g1
      obtain ⟨C, hC0⟩ : ∃ C, ((S[i]'g1)).toNat = C := ⟨_, rfl⟩
      have hC : ((((mk S)[i]'h2).toNat : Nat) : Int) = (C : Int) := by
        have e : (mk S)[i]'h2 = S[i]'g1 := rfl
        rw [e, hC0]
      have hC2 : C < 256 := by rw [← hC0]; exact UInt8.toNat_lt _
      have hget : (S.drop 1)[i - 1]? = some (S[i]'g1) := by
        rw [List.getElem?_drop, show 1 + (i - 1) = i by omega, List.getElem?_eq_getElem g1]
      have q1 : (i : Int) < (S.length : Int) := by omega
      have q2 : (i : Int) < 11 := by omega
      by_cases hlo : C < 48
      · have hz : Hid (numB S = none) := Hid.mk' (no_num (i - 1) (S[i]'g1) (by rw [HB.out.1]; exact hget) (by unfold Lib.digitVal; rw [if_neg (by omega)]))
        have q3 : (C : Int) < 48 := by omega
        clear hdec hget hC0
        go_wp2
        go_ret2
        exact ⟨⟨0, by unfold numO; rw [hz.out]; rfl, fun v h => by rw [hz.out] at h; cases h⟩, Below.refl _ _⟩
      · have q3 : decide ((C : Int) < 48) = false := by simp; omega
        by_cases hhi : 57 < C
        · have hz : Hid (numB S = none) := Hid.mk' (no_num (i - 1) (S[i]'g1) (by rw [HB.out.1]; exact hget) (by unfold Lib.digitVal; rw [if_neg (by omega)]))
          have q4 : (57 : Int) < (C : Int) := by omega
          clear hdec hget hC0
          go_wp2
          go_ret2
          exact ⟨⟨0, by unfold numO; rw [hz.out]; rfl, fun v h => by rw [hz.out] at h; cases h⟩, Below.refl _ _⟩
        · have q4 : decide ((57 : Int) < (C : Int)) = false := by simp; omega
          have hn : Hid (Lib.decFrom 0 ((S.drop 1).take (i + 1 - 1)) = some (N * 10 + (C - 48))) := Hid.mk' (by
            have := Lib.decFrom_take (S.drop 1) (i - 1) 0 N (S[i]'g1) (C - 48) hdec.out hget (by unfold Lib.digitVal; rw [if_pos (by omega), hC0])
            rwa [show i - 1 + 1 = i + 1 - 1 by omega] at this)
          have q5 : (48 : Int) ≤ (C : Int) := by omega
          have q6 : (C : Int) ≤ 57 := by omega
          clear hdec hget hC0
          go_wp2
          exact ⟨⟨i + 1, N * 10 + (C - 48), congrArg (Value.int .i64) (by omega), by simp, by omega, by omega, by omega, hn, trivial⟩, by simp [intOf]; omega⟩
    · have hbl : (body S).length = S.length - 1 := by rw [HB.out.1, List.length_drop]
      by_cases hlen : (body S).length ≤ 9
      · obtain rfl : i = S.length := by omega
        have hfull : Lib.decFrom 0 (body S) = some N := by
          rw [HB.out.1]
          have := hdec.out
          rwa [List.take_of_length_le (by rw [List.length_drop]; omega)] at this
        have hsg : sgn S N = -(N : Int) := by unfold sgn; rw [HB.out.2]; rfl
        obtain ⟨e1, e2⟩ := num_end hlen hfull
        rw [hsg] at e1 e2
        have hd := digits_any (-(N : Int)) (by omega) (by omega) wr
        have q3 : (S.length : Int) - 1 ≤ 9 := by omega
        clear hdec hfull hsg
        by_cases he : Lib.itoa (-(N : Int)) = S
        · have hz := Hid.mk' (e1 he)
          rw [he] at hd
          clear e1 e2 he hgo
          go_wp2_with (first | (go_at_call 28; refine hd.mono ?_; rintro e w4 ⟨rfl, q, rfl⟩))
          go_ret2
          exact ⟨⟨-(N : Int), by unfold numO; rw [hz.out]; rfl, fun v h => by rw [hz.out] at h; exact Option.some.inj h⟩, below_drewN (Below.refl _ _) _⟩
        · have hz := Hid.mk' (e2 he)
          have hne : ((mk (Lib.itoa (-(N : Int)))).toList == (mk S).toList) = false := by
            rw [Lib.toList_data, Lib.toList_data]
            simpa [mk] using he
          generalize mk (Lib.itoa (-(N : Int))) = T at *
          clear e1 e2 he hgo
          go_wp2_with (first | (go_at_call 28; refine hd.mono ?_; rintro e w4 ⟨rfl, q, rfl⟩))
          go_ret2
          exact ⟨⟨-(N : Int), by unfold numO; rw [hz.out]; rfl, fun v h => by rw [hz.out] at h; cases h⟩, below_drewN (Below.refl _ _) _⟩
      · have hz := Hid.mk' (num_long hlen)
        have q3 : decide ((S.length : Int) - 1 ≤ 9) = false := by simp; omega
        clear hdec
        by_cases hx : i < S.length
        · have q4 : (i : Int) < (S.length : Int) := by omega
          have q5 : decide ((i : Int) < 11) = false := by simp; omega
          clear hgo
          go_wp2
          go_ret2
          exact ⟨⟨_, by unfold numO; rw [hz.out]; rfl, fun v h => by rw [hz.out] at h; cases h⟩, Below.refl _ _⟩
        · have q4 : decide ((i : Int) < (S.length : Int)) = false := by simp; omega
          clear hgo
          go_wp2
          go_ret2
          exact ⟨⟨_, by unfold numO; rw [hz.out]; rfl, fun v h => by rw [hz.out] at h; cases h⟩, Below.refl _ _⟩

set_option maxRecDepth 100000 in
set_option maxHeartbeats 1000000 in
theorem number_f0 (S : List UInt8) (hS : S.length ≤ 250) (hne : neg S = false) (hbody : body S = S.drop 0) (hhead : S[0]? ≠ some 45) (w : World) :
    Calls Tryd.prog 31 #[.string (mk S)] w fun e w' => (∃ n : Int, e = .returned (.tuple #[.int .i64 n, .bool (numO S)]) ∧ ∀ v, numB S = some v → n = v) ∧ Below w.heap.size w w' := by
  have hsz : (mk S).size = S.length := mk_size S
  have HB : Hid (body S = S.drop 0 ∧ neg S = false) := ⟨hbody, hne⟩
  clear hbody hne
  by_cases hpos : 0 < S.length
  · have hp1 : (0 : Int) < (S.length : Int) := by omega
    have h00 : 0 < (mk S).size := by rw [hsz]; exact hpos
    have hd0 : ((((mk S)[0]'h00).toNat : Int) == 45) = false := by
      have e : (mk S)[0]'h00 = S[0]'hpos := rfl
      rw [e]
      rw [List.getElem?_eq_getElem hpos] at hhead
      have h1 : S[0]'hpos ≠ 45 := fun h => hhead (by rw [h])
      have h2 : (S[0]'hpos).toNat ≠ 45 := fun h => h1 (UInt8.toNat_inj.1 (by rw [h]; rfl))
      simp
      omega
    clear hhead
    go_enter Tryd.func31, Tryd.ntmps31
    go_wp2
    go_loopw [4, 6] (fun vn vi wr => ∃ (i N : Nat), vn = .int .i64 N ∧ vi = .int .i64 i ∧ 0 ≤ i ∧ i ≤ S.length ∧ i ≤ 10 ∧ Hid (Lib.decFrom 0 ((S.drop 0).take (i - 0)) = some N) ∧ wr = w) (fun _ vi _ => 300 - (intOf vi).toNat)
    case atStart => exact ⟨0, 0, rfl, rfl, by omega, by omega, by omega, by show Lib.decFrom 0 ((S.drop 0).take 0) = some 0; rfl, rfl⟩
    case round =>
      obtain ⟨i, N, rfl, rfl, hi1, hi2, hi3, hdec, rfl⟩ := hrel
      have hN : N < 10000000000 := by
        have h1 := decFrom_lt _ 0 0 N (by decide) hdec.out
        have h2 : ((S.drop 0).take (i - 0)).length ≤ 10 := by rw [List.length_take]; omega
        have h3 : 10 ^ (0 + ((S.drop 0).take (i - 0)).length) ≤ 10 ^ 10 := Nat.pow_le_pow_right (by decide) (by omega)
        have h4 : (10 : Nat) ^ 10 = 10000000000 := by decide
        omega
      by_cases hgo : i < S.length ∧ i < 10
      · obtain ⟨g1, g2⟩ := hgo
        have h2 : i < (mk S).size := by rw [hsz]; exact g1
        obtain ⟨C, hC0⟩ : ∃ C, ((S[i]'g1)).toNat = C := ⟨_, rfl⟩
        have hC : ((((mk S)[i]'h2).toNat : Nat) : Int) = (C : Int) := by
          have e : (mk S)[i]'h2 = S[i]'g1 := rfl
          rw [e, hC0]
        have hC2 : C < 256 := by rw [← hC0]; exact UInt8.toNat_lt _
        have hget : (S.drop 0)[i - 0]? = some (S[i]'g1) := by
          rw [List.getElem?_drop, show 0 + (i - 0) = i by omega, List.getElem?_eq_getElem g1]
        have q1 : (i : Int) < (S.length : Int) := by omega
        have q2 : (i : Int) < 10 := by omega
        by_cases hlo : C < 48
        · have hz : Hid (numB S = none) := Hid.mk' (no_num (i - 0) (S[i]'g1) (by rw [HB.out.1]; exact hget) (by unfold Lib.digitVal; rw [if_neg (by omega)]))
          have q3 : (C : Int) < 48 := by omega
          clear hdec hget hC0
          go_wp2
          go_ret2
          exact ⟨⟨0, by unfold numO; rw [hz.out]; rfl, fun v h => by rw [hz.out] at h; cases h⟩, Below.refl _ _⟩
        · have q3 : decide ((C : Int) < 48) = false := by simp; omega
          by_cases hhi : 57 < C
          · have hz : Hid (numB S = none) := Hid.mk' (no_num (i - 0) (S[i]'g1) (by rw [HB.out.1]; exact hget) (by unfold Lib.digitVal; rw [if_neg (by omega)]))
            have q4 : (57 : Int) < (C : Int) := by omega
            clear hdec hget hC0
            go_wp2
            go_ret2
            exact ⟨⟨0, by unfold numO; rw [hz.out]; rfl, fun v h => by rw [hz.out] at h; cases h⟩, Below.refl _ _⟩
          · have q4 : decide ((57 : Int) < (C : Int)) = false := by simp; omega
            have hn : Hid (Lib.decFrom 0 ((S.drop 0).take (i + 1 - 0)) = some (N * 10 + (C - 48))) := Hid.mk' (by
              have := Lib.decFrom_take (S.drop 0) (i - 0) 0 N (S[i]'g1) (C - 48) hdec.out hget (by unfold Lib.digitVal; rw [if_pos (by omega), hC0])
              rwa [show i - 0 + 1 = i + 1 - 0 by omega] at this)
            have q5 : (48 : Int) ≤ (C : Int) := by omega
            have q6 : (C : Int) ≤ 57 := by omega
            clear hdec hget hC0
            go_wp2
            exact ⟨⟨i + 1, N * 10 + (C - 48), congrArg (Value.int .i64) (by omega), by simp, by omega, by omega, by omega, hn, trivial⟩, by simp [intOf]; omega⟩
      · have hbl : (body S).length = S.length - 0 := by rw [HB.out.1, List.length_drop]
        by_cases hlen : (body S).length ≤ 9
        · obtain rfl : i = S.length := by omega
          have hfull : Lib.decFrom 0 (body S) = some N := by
            rw [HB.out.1]
            have := hdec.out
            rwa [List.take_of_length_le (by rw [List.length_drop]; omega)] at this
          have hsg : sgn S N = (N : Int) := by unfold sgn; rw [HB.out.2]; rfl
          obtain ⟨e1, e2⟩ := num_end hlen hfull
          rw [hsg] at e1 e2
          have hd := digits_any ((N : Int)) (by omega) (by omega) wr
          have q3 : (S.length : Int) - 0 ≤ 9 := by omega
          clear hdec hfull hsg
          by_cases he : Lib.itoa ((N : Int)) = S
          · have hz := Hid.mk' (e1 he)
            rw [he] at hd
            clear e1 e2 he hgo
            go_wp2_with (first | (go_at_call 28; refine hd.mono ?_; rintro e w4 ⟨rfl, q, rfl⟩))
            go_ret2
            exact ⟨⟨(N : Int), by unfold numO; rw [hz.out]; rfl, fun v h => by rw [hz.out] at h; exact Option.some.inj h⟩, below_drewN (Below.refl _ _) _⟩
          · have hz := Hid.mk' (e2 he)
            have hne : ((mk (Lib.itoa ((N : Int)))).toList == (mk S).toList) = false := by
              rw [Lib.toList_data, Lib.toList_data]
              simpa [mk] using he
            generalize mk (Lib.itoa ((N : Int))) = T at *
            clear e1 e2 he hgo
            go_wp2_with (first | (go_at_call 28; refine hd.mono ?_; rintro e w4 ⟨rfl, q, rfl⟩))
            go_ret2
            exact ⟨⟨(N : Int), by unfold numO; rw [hz.out]; rfl, fun v h => by rw [hz.out] at h; cases h⟩, below_drewN (Below.refl _ _) _⟩
        · have hz := Hid.mk' (num_long hlen)
          have q3 : decide ((S.length : Int) - 0 ≤ 9) = false := by simp; omega
          clear hdec
          by_cases hx : i < S.length
          · have q4 : (i : Int) < (S.length : Int) := by omega
            have q5 : decide ((i : Int) < 10) = false := by simp; omega
            clear hgo
            go_wp2
            go_ret2
            exact ⟨⟨_, by unfold numO; rw [hz.out]; rfl, fun v h => by rw [hz.out] at h; cases h⟩, Below.refl _ _⟩
          · have q4 : decide ((i : Int) < (S.length : Int)) = false := by simp; omega
            clear hgo
            go_wp2
            go_ret2
            exact ⟨⟨_, by unfold numO; rw [hz.out]; rfl, fun v h => by rw [hz.out] at h; cases h⟩, Below.refl _ _⟩
  · have hp1 : decide ((0 : Int) < (S.length : Int)) = false := decide_eq_false (by omega)
    clear hhead
    go_enter Tryd.func31, Tryd.ntmps31
    go_wp2
    go_loopw [4, 6] (fun vn vi wr => ∃ (i N : Nat), vn = .int .i64 N ∧ vi = .int .i64 i ∧ 0 ≤ i ∧ i ≤ S.length ∧ i ≤ 10 ∧ Hid (Lib.decFrom 0 ((S.drop 0).take (i - 0)) = some N) ∧ wr = w) (fun _ vi _ => 300 - (intOf vi).toNat)
    case atStart => exact ⟨0, 0, rfl, rfl, by omega, by omega, by omega, by show Lib.decFrom 0 ((S.drop 0).take 0) = some 0; rfl, rfl⟩
    case round =>
      obtain ⟨i, N, rfl, rfl, hi1, hi2, hi3, hdec, rfl⟩ := hrel
      have hN : N < 10000000000 := by
        have h1 := decFrom_lt _ 0 0 N (by decide) hdec.out
        have h2 : ((S.drop 0).take (i - 0)).length ≤ 10 := by rw [List.length_take]; omega
        have h3 : 10 ^ (0 + ((S.drop 0).take (i - 0)).length) ≤ 10 ^ 10 := Nat.pow_le_pow_right (by decide) (by omega)
        have h4 : (10 : Nat) ^ 10 = 10000000000 := by decide
        omega
      by_cases hgo : i < S.length ∧ i < 10
      · obtain ⟨g1, g2⟩ := hgo
        have h2 : i < (mk S).size := by rw [hsz]; exact g1
        obtain ⟨C, hC0⟩ : ∃ C, ((S[i]'g1)).toNat = C := ⟨_, rfl⟩
        have hC : ((((mk S)[i]'h2).toNat : Nat) : Int) = (C : Int) := by
          have e : (mk S)[i]'h2 = S[i]'g1 := rfl
          rw [e, hC0]
        have hC2 : C < 256 := by rw [← hC0]; exact UInt8.toNat_lt _
        have hget : (S.drop 0)[i - 0]? = some (S[i]'g1) := by
          rw [List.getElem?_drop, show 0 + (i - 0) = i by omega, List.getElem?_eq_getElem g1]
        have q1 : (i : Int) < (S.length : Int) := by omega
        have q2 : (i : Int) < 10 := by omega
        by_cases hlo : C < 48
        · have hz : Hid (numB S = none) := Hid.mk' (no_num (i - 0) (S[i]'g1) (by rw [HB.out.1]; exact hget) (by unfold Lib.digitVal; rw [if_neg (by omega)]))
          have q3 : (C : Int) < 48 := by omega
          clear hdec hget hC0
          go_wp2
          go_ret2
          exact ⟨⟨0, by unfold numO; rw [hz.out]; rfl, fun v h => by rw [hz.out] at h; cases h⟩, Below.refl _ _⟩
        · have q3 : decide ((C : Int) < 48) = false := by simp; omega
          by_cases hhi : 57 < C
          · have hz : Hid (numB S = none) := Hid.mk' (no_num (i - 0) (S[i]'g1) (by rw [HB.out.1]; exact hget) (by unfold Lib.digitVal; rw [if_neg (by omega)]))
            have q4 : (57 : Int) < (C : Int) := by omega
            clear hdec hget hC0
            go_wp2
            go_ret2
            exact ⟨⟨0, by unfold numO; rw [hz.out]; rfl, fun v h => by rw [hz.out] at h; cases h⟩, Below.refl _ _⟩
          · have q4 : decide ((57 : Int) < (C : Int)) = false := by simp; omega
            have hn : Hid (Lib.decFrom 0 ((S.drop 0).take (i + 1 - 0)) = some (N * 10 + (C - 48))) := Hid.mk' (by
              have := Lib.decFrom_take (S.drop 0) (i - 0) 0 N (S[i]'g1) (C - 48) hdec.out hget (by unfold Lib.digitVal; rw [if_pos (by omega), hC0])
              rwa [show i - 0 + 1 = i + 1 - 0 by omega] at this)
            have q5 : (48 : Int) ≤ (C : Int) := by omega
            have q6 : (C : Int) ≤ 57 := by omega
            clear hdec hget hC0
            go_wp2
            exact ⟨⟨i + 1, N * 10 + (C - 48), congrArg (Value.int .i64) (by omega), by simp, by omega, by omega, by omega, hn, trivial⟩, by simp [intOf]; omega⟩
      · have hbl : (body S).length = S.length - 0 := by rw [HB.out.1, List.length_drop]
        by_cases hlen : (body S).length ≤ 9
        · obtain rfl : i = S.length := by omega
          have hfull : Lib.decFrom 0 (body S) = some N := by
            rw [HB.out.1]
            have := hdec.out
            rwa [List.take_of_length_le (by rw [List.length_drop]; omega)] at this
          have hsg : sgn S N = (N : Int) := by unfold sgn; rw [HB.out.2]; rfl
          obtain ⟨e1, e2⟩ := num_end hlen hfull
          rw [hsg] at e1 e2
          have hd := digits_any ((N : Int)) (by omega) (by omega) wr
          have q3 : (S.length : Int) - 0 ≤ 9 := by omega
          clear hdec hfull hsg
          by_cases he : Lib.itoa ((N : Int)) = S
          · have hz := Hid.mk' (e1 he)
            rw [he] at hd
            clear e1 e2 he hgo
            go_wp2_with (first | (go_at_call 28; refine hd.mono ?_; rintro e w4 ⟨rfl, q, rfl⟩))
            go_ret2
            exact ⟨⟨(N : Int), by unfold numO; rw [hz.out]; rfl, fun v h => by rw [hz.out] at h; exact Option.some.inj h⟩, below_drewN (Below.refl _ _) _⟩
          · have hz := Hid.mk' (e2 he)
            have hne : ((mk (Lib.itoa ((N : Int)))).toList == (mk S).toList) = false := by
              rw [Lib.toList_data, Lib.toList_data]
              simpa [mk] using he
            generalize mk (Lib.itoa ((N : Int))) = T at *
            clear e1 e2 he hgo
            go_wp2_with (first | (go_at_call 28; refine hd.mono ?_; rintro e w4 ⟨rfl, q, rfl⟩))
            go_ret2
            exact ⟨⟨(N : Int), by unfold numO; rw [hz.out]; rfl, fun v h => by rw [hz.out] at h; cases h⟩, below_drewN (Below.refl _ _) _⟩
        · exact absurd (by omega) hlen

theorem rnumber_any (S : List UInt8) (hS : S.length ≤ 250) (w : World) :
    Calls Tryd.prog 31 #[.string (mk S)] w fun e w' => (∃ n : Int, e = .returned (.tuple #[.int .i64 n, .bool (numO S)]) ∧ ∀ v, numB S = some v → n = v) ∧ Below w.heap.size w w' := by
  match S, hS with
  | [], hS => exact number_f0 [] hS rfl rfl (by simp) w
  | b :: r, hS =>
    by_cases hb : b = 45
    · subst hb
      exact number_f1 (45 :: r) hS neg_neg body_neg rfl w
    · exact number_f0 (b :: r) hS (neg_pos hb) (body_pos (neg_pos hb)) (by simpa using hb) w

end Go.Proofs.YtmhigndplbdknaaDoor
