/-
  What Key, Kind and Id do (the program's and the document's): they return their number; the document's example answers true; WheelNil's walk. Conditions: numbers are ints.
-/
import Derived.Test.YtahdeliopmkpmaaStrs
namespace Go.Proofs.Ytahdeliopmkpmaa
open Go.ChangeShapes Go.WideShapes Go.ChangeAt Go.RowKit Go.Maps

theorem kind_any (k : Int) (hw : k ≤ 9223372036854775807) (w : World) :
    Calls Try.prog 29 #[.int .i64 k] w fun e w' => e = .returned (.int .i64 (max k 0 / 4294967296)) ∧ w' = w := by
  go_enter Try.func29, Try.ntmps29
  go_wp2
  go_ret
  exact ⟨rfl, rfl⟩

theorem id_any (k : Int) (hw : k ≤ 9223372036854775807) (w : World) :
    Calls Try.prog 30 #[.int .i64 k] w fun e w' => e = .returned (.int .i64 (max k 0 % 4294967296)) ∧ w' = w := by
  go_enter Try.func30, Try.ntmps30
  go_wp2
  go_ret
  exact ⟨rfl, rfl⟩

def keyI (k i : Int) : Int := min (max k 0) 1000 * 4294967296 + min (max i 0) 4294967295

theorem key_any (k i : Int) (w : World) :
    Calls Try.prog 27 #[.int .i64 k, .int .i64 i] w fun e w' => e = .returned (.int .i64 (keyI k i)) ∧ w' = w := by
  go_enter Try.func27, Try.ntmps27
  go_wp2
  go_ret
  exact ⟨rfl, rfl⟩

theorem rkey_any (k i : Int) (w : World) :
    Calls Try.prog 28 #[.int .i64 k, .int .i64 i] w fun e w' => e = .returned (.int .i64 (keyI k i)) ∧ w' = w := by
  go_enter Try.func28, Try.ntmps28
  go_wp2
  go_ret
  exact ⟨ret_int (by unfold keyI; omega), rfl⟩

theorem cut10 : cut 10 = 10 := by kernel_rfl

set_option maxHeartbeats 1000000 in
set_option maxRecDepth 100000 in
theorem lives_any (w : World) :
    Calls Try.prog 9 #[] w fun e w' => e = .returned (.bool true) ∧ Below w.heap.size w w' := by
  have r1 : hasR [] 7 = false ∧ setR [] 7 10 = [(7, 10)] := ⟨rfl, rfl⟩
  have r2 : hasR [(7, 10)] 3 = false ∧ setR [(7, 10)] 3 10 = [(3, 10), (7, 10)] := ⟨by decide, by decide⟩
  have r3 : dueR [(3, 10), (7, 10)] 9 = [] ∧ restR [(3, 10), (7, 10)] 9 = [(3, 10), (7, 10)] := ⟨by decide, by decide⟩
  have r4 : dueR [(3, 10), (7, 10)] 12 = [(3, 10), (7, 10)] ∧ restR [(3, 10), (7, 10)] 12 = [] := ⟨by decide, by decide⟩
  go_enter Try.func9, Try.ntmps9
  go_wp2_with fail
  refine (new_w w).mono ?_
  rintro e w1 ⟨rfl, hW1, hb1, hz1⟩
  go_wp2_with fail
  refine (set_w w1 _ _ [] 7 10 (by unfold Wf; decide) (by decide) hW1).mono ?_
  rintro e w2 ⟨rfl, hW2, hk2⟩
  rw [cut10, r1.2] at hW2
  rw [r1.1]
  go_wp2_with fail
  refine (set_w w2 _ _ _ 3 10 (by unfold Wf; decide) (by decide) hW2).mono ?_
  rintro e w3 ⟨rfl, hW3, hk3⟩
  rw [cut10, r2.2] at hW3
  rw [r2.1]
  go_wp2_with fail
  refine (due_w w3 _ _ _ 9 hW3).mono ?_
  rintro e w4 ⟨v4, rfl, hW4, ho4, hk4⟩
  rw [r3.2] at hW4
  rw [r3.1] at ho4
  obtain ⟨a4, c4, rfl, _⟩ := owns_ints ho4
  go_wp2_with fail
  refine (due_w w4 _ _ _ 12 (hW4.fewer (fun _ h => .inl h))).mono ?_
  rintro e w5 ⟨v5, rfl, hW5, ho5, hk5⟩
  rw [r4.2] at hW5
  rw [r4.1] at ho5
  obtain ⟨a5, c5, rfl, hi5, _⟩ := owns_ints ho5
  have B : Below w.heap.size w w5 := hb1.trans ((((hk2.trans hk3).trans hk4).trans hk5).below hb1.size (fun _ h => h))
  obtain ⟨b, off, rfl, _, q0⟩ := hi5.at_ 0 (by decide)
  obtain ⟨b', off', e', _, q1⟩ := hi5.at_ 1 (by decide)
  cases e'
  have q0' : w5.cell? ⟨b, off, none⟩ = some (.int .i64 3) := q0
  have q1' : w5.cell? ⟨b, off + 1, none⟩ = some (.int .i64 7) := q1
  have hc5 := hi5.hcap
  have hl5 := hi5.hle
  have hll : ([(3, 10), (7, 10)] : List (Int × Int)).length = 2 := rfl
  have hll0 : ([] : List (Int × Int)).length = 0 := rfl
  rw [hll] at hl5 ⊢
  have hk : keyI 2 5 = 8589934597 := by decide
  have hlen := len_w w5 _ _ _ hW5
  rw [hll0] at hlen
  clear hW1 hW2 hW3 hW4 hW5 ho4 ho5 hi5 q0 q1 r1 r2 r3 r4 hk2 hk3 hk4 hk5 hll hll0
  go_wp2_with (first
    | (go_at_call 24; refine hlen.mono ?_; rintro e w' ⟨rfl, rfl⟩)
    | (go_at_call 27; refine (key_any _ _ _).mono ?_; rintro e w' ⟨rfl, rfl⟩)
    | (go_at_call 29; refine (kind_any _ (by decide) _).mono ?_; rintro e w' ⟨rfl, rfl⟩))
  go_ret
  exact ⟨rfl, B⟩

set_option maxHeartbeats 1000000 in
set_option maxRecDepth 100000 in
theorem nil_walk (k a : Int) (w : World) :
    Calls Try.prog 7 #[.int .i64 k, .int .i64 a] w fun e w' => e = .returned (.bool true) ∧ Below w.heap.size w w' := by
  go_enter Try.func7, Try.ntmps7
  go_wp2_with fail
  refine (lives_any w).mono ?_
  rintro e w1 ⟨rfl, hb1⟩
  go_wp2_with (first
    | (go_at_call 20; refine (at_nil _ _).mono ?_; rintro e w' ⟨rfl, hw⟩; obtain rfl : w1 = w' := hw.symm)
    | (go_at_call 23; refine (next_nil _).mono ?_; rintro e w' ⟨rfl, hw⟩; obtain rfl : w1 = w' := hw.symm)
    | (go_at_call 14; refine (set_nil _ _ _).mono ?_; rintro e w' ⟨rfl, hw⟩; obtain rfl : w1 = w' := hw.symm)
    | (go_at_call 16; refine (cancel_nil _ _).mono ?_; rintro e w' ⟨rfl, hw⟩; obtain rfl : w1 = w' := hw.symm)
    | (go_at_call 19; refine (due_nil _ _).mono ?_; rintro e w' ⟨rfl, hw⟩; obtain rfl : w1 = w' := hw.symm)
    | (go_at_call 24; refine (wlen_nil _).mono ?_; rintro e w' ⟨rfl, hw⟩; obtain rfl : w1 = w' := hw.symm)
    | (go_at_call 25; refine (keys_nil _).mono ?_; rintro e w2 ⟨rfl, hb2⟩))
  go_ret
  exact ⟨rfl, hb1.trans (hb2.mono hb1.size)⟩

end Go.Proofs.Ytahdeliopmkpmaa
