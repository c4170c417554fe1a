/-
  What the calls that ask the tables do: isState, columnOf, lead, On. Condition: the tables read as they are laid.
-/
import Derived.Test.YtegjaoaoiojhfaaDoorFront
import Derived.Deep.CutBlock
namespace Go.Proofs.YtegjaoaoiojhfaaDoor
open Go.ChangeShapes Go.WideShapes Go.ChangeAt Go.RowKit

theorem isState_any (s : Int) (w : World) :
    Calls Tryd.prog 33 #[.int .i64 s] w fun e w' => e = .returned (.bool (inS s)) ∧ w' = w := by
  by_cases h1 : 0 ≤ s
  · by_cases h2 : s ≤ 6
    · go_enter Tryd.func33, Tryd.ntmps33
      go_wp2
      go_ret
      exact ⟨ret_bool (inS_iff.2 ⟨h1, h2⟩).symm, rfl⟩
    · have hb : decide (s ≤ 6) = false := by simpa using h2
      go_enter Tryd.func33, Tryd.ntmps33
      go_wp2
      go_ret
      exact ⟨ret_bool (inS_false (by omega)).symm, rfl⟩
  · have hb : decide (0 ≤ s) = false := by simpa using h1
    go_enter Tryd.func33, Tryd.ntmps33
    go_wp2
    go_ret
    exact ⟨ret_bool (inS_false (by omega)).symm, rfl⟩

theorem columnOf_any (k : Int) (w : World) (h : Tabs w) :
    Calls Tryd.prog 32 #[.int .i64 k] w fun e w' => e = .returned (.int .i64 (col k)) ∧ w' = w := by
  by_cases hk : 0 ≤ k ∧ k ≤ 8
  · obtain ⟨j, rfl⟩ : ∃ j : Nat, k = j := ⟨k.toNat, by omega⟩
    have hc := h.cl j (by omega)
    have e : col j = cols.getD j 0 := by unfold col; rw [if_pos hk]; rfl
    rw [← e] at hc
    clear e h
    obtain ⟨h1, h2⟩ := hk
    have h4 : (j : Int) < 9 := by omega
    generalize col j = C at *
    go_enter Tryd.func32, Tryd.ntmps32
    go_wp2
    go_ret
    exact ⟨rfl, rfl⟩
  · have e : col k = 0 := if_neg hk
    rw [e]
    clear e h
    by_cases h0 : k < 0
    · clear hk
      go_enter Tryd.func32, Tryd.ntmps32
      go_wp2
      go_ret
      exact ⟨rfl, rfl⟩
    · have h1 : 8 < k := by omega
      clear hk
      go_enter Tryd.func32, Tryd.ntmps32
      go_wp2
      go_ret
      exact ⟨rfl, rfl⟩

theorem lead_any (s c : Int) (w : World) (h : Tabs w) (c0 : 0 ≤ c) (c5 : c ≤ 5) :
    Calls Tryd.prog 27 #[.int .i64 s, .int .i64 c] w fun e w' => e = .returned (.tuple #[.int .i64 (lnx s c), .int .i64 (lwh s c)]) ∧ Below w.heap.size w w' := by
  have hi := isState_any s w
  by_cases hs : 0 ≤ s ∧ s ≤ 6
  · have hks := inS_iff.2 hs
    obtain ⟨i, rfl⟩ : ∃ i : Nat, s = i := ⟨s.toNat, by omega⟩
    obtain ⟨j, rfl⟩ : ∃ j : Nat, c = j := ⟨c.toNat, by omega⟩
    obtain ⟨h1, h2⟩ := hs
    have hi7 : (i : Int) < 7 := by omega
    have hj6 : (j : Int) < 6 := by omega
    have hc := h.tb (i * 12 + j * 2) (by omega)
    have hd := h.tb (i * 12 + j * 2 + 1) (by omega)
    have e1 : lnx i j = tab.getD (i * 12 + j * 2) 0 := by unfold lnx; rw [if_pos hks]; rfl
    have e2 : lwh i j = tab.getD (i * 12 + j * 2 + 1) 0 := by unfold lwh; rw [if_pos hks]; rfl
    rw [← e1] at hc
    rw [← e2] at hd
    rw [hks] at hi
    generalize lnx i j = X at *
    generalize lwh i j = Y at *
    clear e1 e2 h
    go_enter Tryd.func27, Tryd.ntmps27
    go_wp2_with (first
      | (go_at_call 33; refine hi.mono ?_; rintro e w' ⟨rfl, rfl⟩))
    have hb : Below w'.heap.size w' (w'.alloc (.cells #[.int .i64 X, .int .i64 Y] 65)) := (Below.refl _ w').alloc (Nat.le_refl _) _
    obtain ⟨x0, x1, -⟩ := blk2 (heap_alloc_new w' (.cells #[.int .i64 X, .int .i64 Y] 65))
    have HB := Hid.mk' hb
    clear hb hi hc hd
    generalize w'.alloc (.cells #[.int .i64 X, .int .i64 Y] 65) = W at *
    generalize hq : w'.heap.size = q at *
    have HQ : Hid (w'.heap.size = q) := hq
    clear hq
    go_quiet (fail)
    go_wp2
    go_ret2
    exact ⟨rfl, by rw [HQ.out]; exact below_drewN HB.out _⟩
  · have hks := inS_false hs
    rw [lnx_out c hks, lwh_out c hks]
    rw [hks] at hi
    clear hs h
    go_enter Tryd.func27, Tryd.ntmps27
    go_wp2_with (first
      | (go_at_call 33; refine hi.mono ?_; rintro e w' ⟨rfl, rfl⟩))
    go_ret2
    exact ⟨rfl, Below.refl _ _⟩

theorem on_any (s k : Int) (w : World) (h : Tabs w) :
    Calls Tryd.prog 21 #[.int .i64 s, .int .i64 k] w fun e w' => e = .returned (.tuple #[.int .i64 (onx s k), .int .i64 (onw s k)]) ∧ Below w.heap.size w w' := by
  have hc := columnOf_any k w h
  have hk := col_in k
  have hl := lead_any s (col k) w h hk.1 hk.2
  unfold onx onw
  generalize col k = C at *
  generalize lnx s C = X at *
  generalize lwh s C = Y at *
  clear h hk
  go_enter Tryd.func21, Tryd.ntmps21
  go_wp2_with (first
    | (go_at_call 32; refine hc.mono ?_; rintro e w' ⟨rfl, hw'⟩; subst w')
    | (go_at_call 27; refine hl.mono ?_; rintro e w2 ⟨rfl, hb⟩))
  go_ret2
  exact ⟨rfl, hb⟩

end Go.Proofs.YtegjaoaoiojhfaaDoor
