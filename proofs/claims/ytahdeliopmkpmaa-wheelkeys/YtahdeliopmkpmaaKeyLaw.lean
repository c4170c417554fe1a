/-
  WheelKeys's walk: keys tell their kind and their id, and rise by them. Conditions: numbers are ints.
-/
import Derived.Test.YtahdeliopmkpmaaSmall
namespace Go.Proofs.Ytahdeliopmkpmaa
open Go.ChangeShapes Go.WideShapes Go.ChangeAt Go.RowKit Go.Maps

def kdI (k : Int) : Int := min (max k 0) 1000
def idI (i : Int) : Int := min (max i 0) 4294967295
theorem kdI_bd (k : Int) : 0 ≤ kdI k ∧ kdI k ≤ 1000 := by unfold kdI; omega
theorem idI_bd (i : Int) : 0 ≤ idI i ∧ idI i ≤ 4294967295 := by unfold idI; omega
theorem keyI_eq (k i : Int) : keyI k i = kdI k * 4294967296 + idI i := rfl
theorem keyI_bd (k i : Int) : 0 ≤ keyI k i ∧ keyI k i ≤ 4299262263295 := by
  have := kdI_bd k; have := idI_bd i; rw [keyI_eq]; omega
theorem kind_key (k i : Int) : max (keyI k i) 0 / 4294967296 = kdI k := by
  have := kdI_bd k; have := idI_bd i; rw [keyI_eq]; omega
theorem id_key (k i : Int) : max (keyI k i) 0 % 4294967296 = idI i := by
  have := kdI_bd k; have := idI_bd i; rw [keyI_eq]; omega
theorem key_less (k i k' i' : Int) : decide (keyI k i < keyI k' i') = (decide (kdI k < kdI k') || (kdI k == kdI k' && decide (idI i < idI i'))) := by
  have := kdI_bd k; have := idI_bd i; have := kdI_bd k'; have := idI_bd i'
  rw [keyI_eq, keyI_eq]
  by_cases h1 : kdI k < kdI k'
  · simp [h1]; omega
  · by_cases h2 : kdI k = kdI k'
    · rw [h2]; simp
    · have : ¬ (kdI k * 4294967296 + idI i < kdI k' * 4294967296 + idI i') := by omega
      simp [h1, h2, this]

theorem kindk_any (k i : Int) (w : World) : Calls Try.prog 29 #[.int .i64 (keyI k i)] w fun e w' => e = .returned (.int .i64 (kdI k)) ∧ w' = w := by
  have h := kind_any (keyI k i) (by have := keyI_bd k i; omega) w
  rw [kind_key] at h
  exact h
theorem idk_any (k i : Int) (w : World) : Calls Try.prog 30 #[.int .i64 (keyI k i)] w fun e w' => e = .returned (.int .i64 (idI i)) ∧ w' = w := by
  have h := id_any (keyI k i) (by have := keyI_bd k i; omega) w
  rw [id_key] at h
  exact h
theorem kind5 (w : World) : Calls Try.prog 29 #[.int .i64 (-5)] w fun e w' => e = .returned (.int .i64 0) ∧ w' = w := kind_any (-5) (by decide) w
theorem id5 (w : World) : Calls Try.prog 30 #[.int .i64 (-5)] w fun e w' => e = .returned (.int .i64 0) ∧ w' = w := id_any (-5) (by decide) w

set_option maxHeartbeats 1000000 in
set_option maxRecDepth 100000 in
theorem keys_walk (a0 a1 b0 b1 : Int) (w : World) :
    Calls Try.prog 6 #[.agg #[.int .i64 a0, .int .i64 a1], .agg #[.int .i64 b0, .int .i64 b1]] w fun e w' => e = .returned (.bool true) ∧ Below w.heap.size w w' := by
  go_enter Try.func6, Try.ntmps6
  go_wp2_with fail
  refine (lives_any _).mono ?_
  rintro e w1 ⟨rfl, hb1⟩
  have c0 : w1.cell? ⟨w.heap.size, 0, none⟩ = some (.int .i64 a0) := (hb1.cell (p := ⟨w.heap.size, 0, none⟩) (by simp; omega)).trans (by simp [go_sem])
  have c1 : w1.cell? ⟨w.heap.size, 1, none⟩ = some (.int .i64 a1) := (hb1.cell (p := ⟨w.heap.size, 1, none⟩) (by simp; omega)).trans (by simp [go_sem])
  have c2 : w1.cell? ⟨w.heap.size + 1, 0, none⟩ = some (.int .i64 b0) := (hb1.cell (p := ⟨w.heap.size + 1, 0, none⟩) (by simp)).trans (by simp [go_sem])
  have c3 : w1.cell? ⟨w.heap.size + 1, 1, none⟩ = some (.int .i64 b1) := (hb1.cell (p := ⟨w.heap.size + 1, 1, none⟩) (by simp)).trans (by simp [go_sem])
  have B : Below w.heap.size w w1 := (((Below.refl _ w).alloc (Nat.le_refl _) _).alloc (by simp) _).trans (hb1.mono (by simp; omega))
  clear hb1
  have n1 : min (max a0 0) 1000 = kdI a0 := rfl
  have n2 : min (max a1 0) 4294967295 = idI a1 := rfl
  go_wp2
  go_quiet (first | (go_at_call 27; exact Calls.quiet_of_same (key_any _ _ _)))
  go_wp2
  go_quiet (first | (go_at_call 28; exact quiet2_same (rkey_any _ _ _)))
  go_wp2
  go_quiet (fail)
  have e5 := key_less a0 a1 b0 b1
  have k1 := fun W => kindk_any a0 a1 W
  have k2 := fun W => kindk_any b0 b1 W
  have k3 := fun W => idk_any a0 a1 W
  have k4 := fun W => idk_any b0 b1 W
  clear n1 n2 c0 c1 c2 c3
  have HB : Hid (Below w.heap.size w w1) := B
  clear B
  generalize keyI a0 a1 = x at *
  generalize keyI b0 b1 = y at *
  generalize kdI a0 = p at *
  generalize kdI b0 = q at *
  generalize idI a1 = r at *
  generalize idI b1 = s at *
  by_cases h1 : p < q
  · have e6 : decide (x < y) = true := by rw [e5]; simp [h1]
    clear e5
    go_wp2_with (first
      | (go_at_call 29; refine (kind5 _).mono ?_; rintro e w' ⟨rfl, rfl⟩)
      | (go_at_call 30; refine (id5 _).mono ?_; rintro e w' ⟨rfl, rfl⟩)
      | (go_at_call_of 29 (Value.int IntKind.i64 x); refine (k1 _).mono ?_; rintro e w' ⟨rfl, rfl⟩)
      | (go_at_call_of 29 (Value.int IntKind.i64 y); refine (k2 _).mono ?_; rintro e w' ⟨rfl, rfl⟩)
      | (go_at_call_of 30 (Value.int IntKind.i64 x); refine (k3 _).mono ?_; rintro e w' ⟨rfl, rfl⟩)
      | (go_at_call_of 30 (Value.int IntKind.i64 y); refine (k4 _).mono ?_; rintro e w' ⟨rfl, rfl⟩))
    go_ret
    exact ⟨rfl, ⟨HB.out.os, HB.out.tape, HB.out.output, HB.out.size, HB.out.block⟩⟩
  · by_cases h2 : p = q
    · by_cases h3 : r < s
      · have e6 : decide (x < y) = true := by rw [e5]; simp [h2, h3]
        have h4 : (p == q) = true := by simpa using h2
        have h5 : decide (p < q) = false := by simpa using h1
        clear e5 h2 h1
        go_wp2_with (first
          | (go_at_call 29; refine (kind5 _).mono ?_; rintro e w' ⟨rfl, rfl⟩)
          | (go_at_call 30; refine (id5 _).mono ?_; rintro e w' ⟨rfl, rfl⟩)
          | (go_at_call_of 29 (Value.int IntKind.i64 x); refine (k1 _).mono ?_; rintro e w' ⟨rfl, rfl⟩)
          | (go_at_call_of 29 (Value.int IntKind.i64 y); refine (k2 _).mono ?_; rintro e w' ⟨rfl, rfl⟩)
          | (go_at_call_of 30 (Value.int IntKind.i64 x); refine (k3 _).mono ?_; rintro e w' ⟨rfl, rfl⟩)
          | (go_at_call_of 30 (Value.int IntKind.i64 y); refine (k4 _).mono ?_; rintro e w' ⟨rfl, rfl⟩))
        go_ret
        exact ⟨rfl, ⟨HB.out.os, HB.out.tape, HB.out.output, HB.out.size, HB.out.block⟩⟩
      · have e6 : decide (x < y) = false := by rw [e5]; simp [h2, h3]
        have h4 : (p == q) = true := by simpa using h2
        have h5 : decide (p < q) = false := by simpa using h1
        have h6 : decide (r < s) = false := by simpa using h3
        clear e5 h2 h1 h3
        go_wp2_with (first
          | (go_at_call 29; refine (kind5 _).mono ?_; rintro e w' ⟨rfl, rfl⟩)
          | (go_at_call 30; refine (id5 _).mono ?_; rintro e w' ⟨rfl, rfl⟩)
          | (go_at_call_of 29 (Value.int IntKind.i64 x); refine (k1 _).mono ?_; rintro e w' ⟨rfl, rfl⟩)
          | (go_at_call_of 29 (Value.int IntKind.i64 y); refine (k2 _).mono ?_; rintro e w' ⟨rfl, rfl⟩)
          | (go_at_call_of 30 (Value.int IntKind.i64 x); refine (k3 _).mono ?_; rintro e w' ⟨rfl, rfl⟩)
          | (go_at_call_of 30 (Value.int IntKind.i64 y); refine (k4 _).mono ?_; rintro e w' ⟨rfl, rfl⟩))
        go_ret
        exact ⟨rfl, ⟨HB.out.os, HB.out.tape, HB.out.output, HB.out.size, HB.out.block⟩⟩
    · have e6 : decide (x < y) = false := by rw [e5]; simp [h1, h2]
      have h4 : (p == q) = false := by simpa using h2
      have h5 : decide (p < q) = false := by simpa using h1
      clear e5 h2 h1
      go_wp2_with (first
        | (go_at_call 29; refine (kind5 _).mono ?_; rintro e w' ⟨rfl, rfl⟩)
        | (go_at_call 30; refine (id5 _).mono ?_; rintro e w' ⟨rfl, rfl⟩)
        | (go_at_call_of 29 (Value.int IntKind.i64 x); refine (k1 _).mono ?_; rintro e w' ⟨rfl, rfl⟩)
        | (go_at_call_of 29 (Value.int IntKind.i64 y); refine (k2 _).mono ?_; rintro e w' ⟨rfl, rfl⟩)
        | (go_at_call_of 30 (Value.int IntKind.i64 x); refine (k3 _).mono ?_; rintro e w' ⟨rfl, rfl⟩)
        | (go_at_call_of 30 (Value.int IntKind.i64 y); refine (k4 _).mono ?_; rintro e w' ⟨rfl, rfl⟩))
      go_ret
      exact ⟨rfl, ⟨HB.out.os, HB.out.tape, HB.out.output, HB.out.size, HB.out.block⟩⟩

end Go.Proofs.Ytahdeliopmkpmaa
