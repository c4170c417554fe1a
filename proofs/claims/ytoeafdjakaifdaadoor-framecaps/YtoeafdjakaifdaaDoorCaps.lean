/-
  The walk of FrameCaps: it returns true and turns nothing that was there. Conditions: the names' table reads as it is laid; the frame's text is no longer than the greatest length.
-/
import Derived.Test.YtoeafdjakaifdaaDoorLives
import Derived.Deep.RegionHeld3
import Derived.Deep.DrawnRows
namespace Go.Proofs.YtoeafdjakaifdaaDoor
open Go.ChangeShapes Go.WideShapes Go.ChangeAt Go.RowKit
attribute [local go_sem ↓] Go.wp_at_zero Go.wp_at_succ

/-- What a frame's box holds when it has been written anew. -/
theorem boxed {w w2 wA : World} {k : Int} {s S : ByteArray} (hb : Below (w.heap.size + 1) (w.alloc (.cells #[.int .i64 k, .string s] 23)) w2)
    (hA : (w2.setCell ⟨w.heap.size, 0, none⟩ (.int .i64 k)).setCell ⟨w.heap.size, 1, none⟩ (.string S) = wA) :
    wA.cell? ⟨w.heap.size, 0, none⟩ = some (.int .i64 k) ∧ wA.cell? ⟨w.heap.size, 1, none⟩ = some (.string S) ∧ Below w.heap.size w wA ∧ w.heap.size < wA.heap.size := by
  obtain ⟨h0, h1⟩ := box_cells hb
  subst hA
  refine ⟨?_, ?_, ?_, ?_⟩
  · simp [go_sem, h0]
  · simp [go_sem, h1]
  · exact ((((Below.refl _ _).alloc (Nat.le_refl _) _).trans (hb.mono (by omega))).setCell (Nat.le_refl _) _).setCell (Nat.le_refl _) _
  · have := hb.size
    simp at this
    simp [World.setCell]
    omega

/-- .. and behind a call. -/
theorem held_step {w wA w1 : World} {k : Int} {S : ByteArray} (h : wA.cell? ⟨w.heap.size, 0, none⟩ = some (.int .i64 k) ∧ wA.cell? ⟨w.heap.size, 1, none⟩ = some (.string S) ∧ Below w.heap.size w wA ∧ w.heap.size < wA.heap.size)
    (hb : Below wA.heap.size wA w1) : w1.cell? ⟨w.heap.size, 0, none⟩ = some (.int .i64 k) ∧ w1.cell? ⟨w.heap.size, 1, none⟩ = some (.string S) ∧ Below w.heap.size w w1 ∧ w.heap.size < w1.heap.size :=
  ⟨(hb.cell (p := ⟨w.heap.size, 0, none⟩) h.2.2.2).trans h.1, (hb.cell (p := ⟨w.heap.size, 1, none⟩) h.2.2.2).trans h.2.1, h.2.2.1.trans (hb.mono (by have := h.2.2.2; omega)), Nat.lt_of_lt_of_le h.2.2.2 hb.size⟩

/-- What the two checks answer, under a lesser cap lo and a greater one hi. -/
theorem caps_cases (k lo hi : Int) (n : Nat) (h : lo ≤ hi) :
    (k < 1 ∧ chk k n lo = 4 ∧ chk k n hi = 4) ∨ (8 < k ∧ chk k n lo = 4 ∧ chk k n hi = 4) ∨
    (1 ≤ k ∧ k ≤ 8 ∧ hi < 0 ∧ (n : Int) ≤ 0 ∧ chk k n hi = 0) ∨ (1 ≤ k ∧ k ≤ 8 ∧ hi < 0 ∧ 0 < (n : Int) ∧ chk k n lo = 3 ∧ chk k n hi = 3) ∨
    (1 ≤ k ∧ k ≤ 8 ∧ 0 ≤ hi ∧ hi ≤ 1024 ∧ (n : Int) ≤ hi ∧ chk k n hi = 0) ∨ (1 ≤ k ∧ k ≤ 8 ∧ 0 ≤ hi ∧ hi ≤ 1024 ∧ hi < (n : Int) ∧ chk k n lo = 3 ∧ chk k n hi = 3) ∨
    (1 ≤ k ∧ k ≤ 8 ∧ 1024 < hi ∧ (n : Int) ≤ 1024 ∧ chk k n hi = 0) ∨ (1 ≤ k ∧ k ≤ 8 ∧ 1024 < hi ∧ 1024 < (n : Int) ∧ chk k n lo = 3 ∧ chk k n hi = 3) := by
  have hc : capd lo ≤ capd hi := by unfold capd; split <;> split <;> (try split) <;> (try split) <;> omega
  by_cases h1 : k < 1
  · exact .inl ⟨h1, chk_kind (by omega), chk_kind (by omega)⟩
  by_cases h2 : 8 < k
  · exact .inr (.inl ⟨h2, chk_kind (by omega), chk_kind (by omega)⟩)
  refine .inr (.inr ?_)
  by_cases h3 : hi < 0
  · have e := capd_neg h3
    by_cases h4 : (n : Int) ≤ 0
    · exact .inl ⟨by omega, by omega, h3, h4, chk_ok (by omega) (by omega) (by omega)⟩
    · exact .inr (.inl ⟨by omega, by omega, h3, by omega, chk_big (by omega) (by omega) (by omega), chk_big (by omega) (by omega) (by omega)⟩)
  refine .inr (.inr ?_)
  by_cases h5 : 1024 < hi
  · have e := capd_big h5
    by_cases h4 : (n : Int) ≤ 1024
    · exact .inr (.inr (.inl ⟨by omega, by omega, h5, h4, chk_ok (by omega) (by omega) (by omega)⟩))
    · exact .inr (.inr (.inr ⟨by omega, by omega, h5, by omega, chk_big (by omega) (by omega) (by omega), chk_big (by omega) (by omega) (by omega)⟩))
  · have e := capd_mid (c := hi) (by omega) (by omega)
    by_cases h4 : (n : Int) ≤ hi
    · exact .inl ⟨by omega, by omega, by omega, by omega, h4, chk_ok (by omega) (by omega) (by omega)⟩
    · exact .inr (.inl ⟨by omega, by omega, by omega, by omega, by omega, chk_big (by omega) (by omega) (by omega), chk_big (by omega) (by omega) (by omega)⟩)

theorem bel_of {w w' : World} {k : Int} {S : ByteArray} (h : w'.cell? ⟨w.heap.size, 0, none⟩ = some (.int .i64 k) ∧ w'.cell? ⟨w.heap.size, 1, none⟩ = some (.string S) ∧ Below w.heap.size w w' ∧ w.heap.size < w'.heap.size) : Below w.heap.size w w' := h.2.2.1

set_option maxHeartbeats 4000000 in
set_option maxRecDepth 100000 in
theorem caps_lt (k : Int) (s : ByteArray) (a b : Int) (w : World) (hn : Names w) (hs : s.size ≤ maxLen) (hab : a < b) :
    Calls Tryd.prog 7 #[.agg #[.int .i64 k, .string s], .int .i64 a, .int .i64 b] w fun e w' => e = .returned (.bool true) ∧ Below w.heap.size w w' := by
  have hf := fewS_size s
  have HE : Hid ((fewS s).size ≤ 0 → fewS s = ByteArray.empty) := fun h => ByteArray.size_eq_zero_iff.1 (by omega)
  have HN : Hid (0 < (fewS s).size → ¬ fewS s = ByteArray.empty) := fun h e => by rw [e] at h; exact absurd h (by decide)
  rcases caps_cases k a b (fewS s).size (by omega) with ⟨k1, hX, hY⟩ | ⟨k1, hX, hY⟩ | ⟨k1, k2, hi1, n1, hY⟩ | ⟨k1, k2, hi1, n1, hX, hY⟩ | ⟨k1, k2, hi0, hi1, n1, hY⟩ | ⟨k1, k2, hi0, hi1, n1, hX, hY⟩ | ⟨k1, k2, hi1, n1, hY⟩ | ⟨k1, k2, hi1, n1, hX, hY⟩
  all_goals
    go_enter Tryd.func7, Tryd.ntmps7
    go_wp2_with fail
    refine (lives_any _ (hn.below ((Below.refl _ _).alloc (Nat.le_refl _) _))).mono ?_
    rintro e w1 ⟨rfl, hb1⟩
    obtain ⟨hc1, hf1⟩ := bcell hb1
    have hz1 : w.heap.size < w1.heap.size := by have := hb1.size; simp at this; omega
    go_wp2_with fail
    refine (few_any k s _ hs).mono ?_
    rintro e w2 ⟨rfl, hb2⟩
    have hB2 : Below (w.heap.size + 1) (w.alloc (.cells #[.int .i64 k, .string s] 23)) w2 := (hb1.mono (by simp)).trans (hb2.mono (by omega))
    obtain ⟨hc2, hf2⟩ := bcell hb2
    go_wp2
    clear hc1 hf1 hb1 hc2 hf2 hb2
    generalize hwA : (World.setCell (World.setCell w2 _ _) _ _) = wA
    obtain ⟨c0, c1, bA, zA⟩ := boxed hB2 hwA
    have bD := bA.drew
    clear hwA hB2 hz1
    clear w1 w2
    generalize fewS s = S at *
    go_region_held3 (fun w' => w'.cell? ⟨w.heap.size, 0, none⟩ = some (.int .i64 k) ∧ w'.cell? ⟨w.heap.size, 1, none⟩ = some (.string S) ∧ Below w.heap.size w w' ∧ w.heap.size < w'.heap.size)
      (first | exact held_step (by assumption) hbx | go_keep)
      (first | (go_at_call 13; refine (right_any _ _ _ _).mono ?_; rintro e w' ⟨rfl, hbx⟩))
    all_goals
      go_wp2
      all_goals
        go_ret
        first | exact ⟨rfl, bel_of (by assumption)⟩ | exact ⟨ret_bool (decide_eq_true (by assumption)), bel_of (by assumption)⟩ | exact ⟨ret_bool (decide_eq_true (HE.out (by omega))), bel_of (by assumption)⟩ | exact ⟨ret_bool (by simp only [Bool.not_eq_true', decide_eq_false_iff_not]; omega), bel_of (by assumption)⟩ | exact ⟨ret_bool (by rw [decide_eq_false (HN.out (by omega))]; rfl), bel_of (by assumption)⟩

set_option maxHeartbeats 4000000 in
set_option maxRecDepth 100000 in
theorem caps_gt (k : Int) (s : ByteArray) (a b : Int) (w : World) (hn : Names w) (hs : s.size ≤ maxLen) (hab : b < a) :
    Calls Tryd.prog 7 #[.agg #[.int .i64 k, .string s], .int .i64 a, .int .i64 b] w fun e w' => e = .returned (.bool true) ∧ Below w.heap.size w w' := by
  have hf := fewS_size s
  have HE : Hid ((fewS s).size ≤ 0 → fewS s = ByteArray.empty) := fun h => ByteArray.size_eq_zero_iff.1 (by omega)
  have HN : Hid (0 < (fewS s).size → ¬ fewS s = ByteArray.empty) := fun h e => by rw [e] at h; exact absurd h (by decide)
  rcases caps_cases k b a (fewS s).size (by omega) with ⟨k1, hX, hY⟩ | ⟨k1, hX, hY⟩ | ⟨k1, k2, hi1, n1, hY⟩ | ⟨k1, k2, hi1, n1, hX, hY⟩ | ⟨k1, k2, hi0, hi1, n1, hY⟩ | ⟨k1, k2, hi0, hi1, n1, hX, hY⟩ | ⟨k1, k2, hi1, n1, hY⟩ | ⟨k1, k2, hi1, n1, hX, hY⟩
  all_goals
    go_enter Tryd.func7, Tryd.ntmps7
    go_wp2_with fail
    refine (lives_any _ (hn.below ((Below.refl _ _).alloc (Nat.le_refl _) _))).mono ?_
    rintro e w1 ⟨rfl, hb1⟩
    obtain ⟨hc1, hf1⟩ := bcell hb1
    have hz1 : w.heap.size < w1.heap.size := by have := hb1.size; simp at this; omega
    go_wp2_with fail
    refine (few_any k s _ hs).mono ?_
    rintro e w2 ⟨rfl, hb2⟩
    have hB2 : Below (w.heap.size + 1) (w.alloc (.cells #[.int .i64 k, .string s] 23)) w2 := (hb1.mono (by simp)).trans (hb2.mono (by omega))
    obtain ⟨hc2, hf2⟩ := bcell hb2
    go_wp2
    clear hc1 hf1 hb1 hc2 hf2 hb2
    generalize hwA : (World.setCell (World.setCell w2 _ _) _ _) = wA
    obtain ⟨c0, c1, bA, zA⟩ := boxed hB2 hwA
    have bD := bA.drew
    clear hwA hB2 hz1
    clear w1 w2
    generalize fewS s = S at *
    go_region_held3 (fun w' => w'.cell? ⟨w.heap.size, 0, none⟩ = some (.int .i64 k) ∧ w'.cell? ⟨w.heap.size, 1, none⟩ = some (.string S) ∧ Below w.heap.size w w' ∧ w.heap.size < w'.heap.size)
      (first | exact held_step (by assumption) hbx | go_keep)
      (first | (go_at_call 13; refine (right_any _ _ _ _).mono ?_; rintro e w' ⟨rfl, hbx⟩))
    all_goals
      go_wp2
      all_goals
        go_ret
        first | exact ⟨rfl, bel_of (by assumption)⟩ | exact ⟨ret_bool (decide_eq_true (by assumption)), bel_of (by assumption)⟩ | exact ⟨ret_bool (decide_eq_true (HE.out (by omega))), bel_of (by assumption)⟩ | exact ⟨ret_bool (by simp only [Bool.not_eq_true', decide_eq_false_iff_not]; omega), bel_of (by assumption)⟩ | exact ⟨ret_bool (by rw [decide_eq_false (HN.out (by omega))]; rfl), bel_of (by assumption)⟩

set_option maxHeartbeats 4000000 in
set_option maxRecDepth 100000 in
theorem caps_eq (k : Int) (s : ByteArray) (a : Int) (w : World) (hn : Names w) (hs : s.size ≤ maxLen) :
    Calls Tryd.prog 7 #[.agg #[.int .i64 k, .string s], .int .i64 a, .int .i64 a] w fun e w' => e = .returned (.bool true) ∧ Below w.heap.size w w' := by
  have hf := fewS_size s
  have HE : Hid ((fewS s).size ≤ 0 → fewS s = ByteArray.empty) := fun h => ByteArray.size_eq_zero_iff.1 (by omega)
  have HN : Hid (0 < (fewS s).size → ¬ fewS s = ByteArray.empty) := fun h e => by rw [e] at h; exact absurd h (by decide)
  rcases caps_cases k a a (fewS s).size (Int.le_refl _) with ⟨k1, hX, hY⟩ | ⟨k1, hX, hY⟩ | ⟨k1, k2, hi1, n1, hY⟩ | ⟨k1, k2, hi1, n1, hX, hY⟩ | ⟨k1, k2, hi0, hi1, n1, hY⟩ | ⟨k1, k2, hi0, hi1, n1, hX, hY⟩ | ⟨k1, k2, hi1, n1, hY⟩ | ⟨k1, k2, hi1, n1, hX, hY⟩
  all_goals
    go_enter Tryd.func7, Tryd.ntmps7
    go_wp2_with fail
    refine (lives_any _ (hn.below ((Below.refl _ _).alloc (Nat.le_refl _) _))).mono ?_
    rintro e w1 ⟨rfl, hb1⟩
    obtain ⟨hc1, hf1⟩ := bcell hb1
    have hz1 : w.heap.size < w1.heap.size := by have := hb1.size; simp at this; omega
    go_wp2_with fail
    refine (few_any k s _ hs).mono ?_
    rintro e w2 ⟨rfl, hb2⟩
    have hB2 : Below (w.heap.size + 1) (w.alloc (.cells #[.int .i64 k, .string s] 23)) w2 := (hb1.mono (by simp)).trans (hb2.mono (by omega))
    obtain ⟨hc2, hf2⟩ := bcell hb2
    go_wp2
    clear hc1 hf1 hb1 hc2 hf2 hb2
    generalize hwA : (World.setCell (World.setCell w2 _ _) _ _) = wA
    obtain ⟨c0, c1, bA, zA⟩ := boxed hB2 hwA
    have bD := bA.drew
    clear hwA hB2 hz1
    clear w1 w2
    generalize fewS s = S at *
    go_region_held3 (fun w' => w'.cell? ⟨w.heap.size, 0, none⟩ = some (.int .i64 k) ∧ w'.cell? ⟨w.heap.size, 1, none⟩ = some (.string S) ∧ Below w.heap.size w w' ∧ w.heap.size < w'.heap.size)
      (first | exact held_step (by assumption) hbx | go_keep)
      (first | (go_at_call 13; refine (right_any _ _ _ _).mono ?_; rintro e w' ⟨rfl, hbx⟩))
    all_goals
      go_wp2
      all_goals
        go_ret
        first | exact ⟨rfl, bel_of (by assumption)⟩ | exact ⟨ret_bool (decide_eq_true (by assumption)), bel_of (by assumption)⟩ | exact ⟨ret_bool (decide_eq_true (HE.out (by omega))), bel_of (by assumption)⟩ | exact ⟨ret_bool (by simp only [Bool.not_eq_true', decide_eq_false_iff_not]; omega), bel_of (by assumption)⟩ | exact ⟨ret_bool (by rw [decide_eq_false (HN.out (by omega))]; rfl), bel_of (by assumption)⟩

theorem caps_any (k : Int) (s : ByteArray) (a b : Int) (w : World) (hn : Names w) (hs : s.size ≤ maxLen) :
    Calls Tryd.prog 7 #[.agg #[.int .i64 k, .string s], .int .i64 a, .int .i64 b] w fun e w' => e = .returned (.bool true) ∧ Below w.heap.size w w' := by
  by_cases h1 : a < b
  · exact caps_lt k s a b w hn hs h1
  · by_cases h2 : b < a
    · exact caps_gt k s a b w hn hs h2
    · obtain rfl : a = b := by omega
      exact caps_eq k s a w hn hs

end Go.Proofs.YtoeafdjakaifdaaDoor
