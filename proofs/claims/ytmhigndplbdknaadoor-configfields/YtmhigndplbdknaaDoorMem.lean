/-
  What bounds and the document's List and Of do, each as a contract: bounds returns each place's two bounds, List the config's numbers as a new slice, Of the config of 15 numbers; they turn nothing that was there. Condition: a config has 15 numbers.
-/
import Derived.Test.YtmhigndplbdknaaDoorSmall
import Derived.Deep.RegionHeld3
namespace Go.Proofs.YtmhigndplbdknaaDoor
open Go.ChangeShapes Go.WideShapes Go.ChangeAt Go.RowKit

/-- The bounds of each place, as cells. -/
def bcs (a b : Int) : Array Value := #[.int .i64 1, .int .i64 1024, .int .i64 1, .int .i64 8, .int .i64 1, .int .i64 32, .int .i64 0, .int .i64 16, .int .i64 1, .int .i64 1048576, .int .i64 1, .int .i64 1048576, .int .i64 1, .int .i64 1048576, .int .i64 0, .int .i64 a, .int .i64 1, .int .i64 1048576, .int .i64 0, .int .i64 b, .int .i64 1, .int .i64 1048576, .int .i64 1, .int .i64 16, .int .i64 1, .int .i64 1048576, .int .i64 1, .int .i64 1048576, .int .i64 0, .int .i64 256]
theorem bcs_get (l : List Int) (j : Nat) (h : j < 15) : (bcs (l.getD 6 0) (l.getD 1 0))[j * 2]? = some (.int .i64 (loOf j)) ∧ (bcs (l.getD 6 0) (l.getD 1 0))[j * 2 + 1]? = some (.int .i64 (hiOf l j)) := by
  match j, h with
  | 0, _ | 1, _ | 2, _ | 3, _ | 4, _ | 5, _ | 6, _ | 7, _ | 8, _ | 9, _ | 10, _ | 11, _ | 12, _ | 13, _ | 14, _ => exact ⟨rfl, rfl⟩

theorem wl_b49 {ops : Array Oper} {rest : List Oper} {o : Oper} {a : Act} {w : World} {Q : Exit → Act → World → Prop} (hgd : o.guard = none) (parts : Array (Nat × Operand)) (ho : o.op = .build 49 parts) (cs : Array Value)
    (hf : Tryd.prog.built 49 (parts.map fun (i, x) => (i, a.eval x)).toList = some cs) (h : wpList Tryd.prog ops Q rest (a.put o.dst (.agg cs)) w) : wpList Tryd.prog ops Q (o :: rest) a w :=
  wpList_build hgd 49 parts ho (by rw [hf]; rfl) (by rw [hf]; exact h)
set_option maxRecDepth 100000 in
set_option maxHeartbeats 2000000 in
theorem bounds_any (l : List Int) (hl : l.length = 15) (w : World) :
    Calls Tryd.prog 23 #[.agg (cc l)] w fun e w' => e = .returned (.agg (bcs (l.getD 6 0) (l.getD 1 0))) ∧ Below w.heap.size w w' := by
  have h6 := cc_get l 6 (by omega)
  have h1 := cc_get l 1 (by omega)
  generalize l.getD 6 0 = a at *
  generalize l.getD 1 0 = b at *
  clear hl
  go_enter Tryd.func23, Tryd.ntmps23
  have HZ : Hid ((((w.alloc (.cells (cc l) 23)).alloc (.cells #[.int .i64 0, .int .i64 0, .int .i64 0, .int .i64 0, .int .i64 0, .int .i64 0, .int .i64 0, .int .i64 0, .int .i64 0, .int .i64 0, .int .i64 0, .int .i64 0, .int .i64 0, .int .i64 0, .int .i64 0, .int .i64 0, .int .i64 0, .int .i64 0, .int .i64 0, .int .i64 0, .int .i64 0, .int .i64 0, .int .i64 0, .int .i64 0, .int .i64 0, .int .i64 0, .int .i64 0, .int .i64 0, .int .i64 0, .int .i64 0] 49)).alloc (.cells #[.int .i64 1, .int .i64 1048576] 48)).heap[w.heap.size + 1]? = some (.cells #[.int .i64 0, .int .i64 0, .int .i64 0, .int .i64 0, .int .i64 0, .int .i64 0, .int .i64 0, .int .i64 0, .int .i64 0, .int .i64 0, .int .i64 0, .int .i64 0, .int .i64 0, .int .i64 0, .int .i64 0, .int .i64 0, .int .i64 0, .int .i64 0, .int .i64 0, .int .i64 0, .int .i64 0, .int .i64 0, .int .i64 0, .int .i64 0, .int .i64 0, .int .i64 0, .int .i64 0, .int .i64 0, .int .i64 0, .int .i64 0] 49 (0, 0))) := (Below.heap_alloc _ _ _ (by simp)).trans (heap_alloc2_new _ _ _)
  go_wp2_with (first
    | (refine wl_b49 rfl _ rfl (bcs a b) (by kernel_rfl) ?_)
    | (refine wpList_store_row rfl 49 _ _ rfl (w.heap.size + 1) (bcs a b) rfl rfl 49 _ HZ.out (by kernel_rfl) rfl (by kernel_rfl) ?_))
  refine bodyPost_ret (v := .agg (bcs a b)) ?_ rfl ⟨rfl, below_setRow ((((Below.refl _ _).alloc (Nat.le_refl _) _).alloc (by simp) _).alloc (by simp; omega) _) (by omega) _⟩
  exact results_cell_row Tryd.results23 _ _ (w.heap.size + 1) 49 (bcs a b) (0, 0) _ rfl (setRow_heap _ _ _ _ _ _ HZ.out) Tryd.underlying49 rfl (by kernel_rfl)

set_option maxRecDepth 100000 in
set_option maxHeartbeats 1000000 in
theorem list_any (l : List Int) (hl : l.length = 15) (w : World) :
    Calls Tryd.prog 13 #[.agg (cc l)] w fun e w' => ∃ g, e = .returned (.slice (some ⟨g, 0, none⟩) 15 15) ∧ w.heap.size ≤ g ∧ w'.heap[g]? = some (.cells (cc l) 3 (0, 0)) ∧ Below w.heap.size w w' := by
  obtain ⟨c0, c1, c2, c3, c4, c5, c6, c7, c8, c9, c10, c11, c12, c13, c14, rfl⟩ := fifteen hl
  have e : cc [c0, c1, c2, c3, c4, c5, c6, c7, c8, c9, c10, c11, c12, c13, c14] = #[.int .i64 c0, .int .i64 c1, .int .i64 c2, .int .i64 c3, .int .i64 c4, .int .i64 c5, .int .i64 c6, .int .i64 c7, .int .i64 c8, .int .i64 c9, .int .i64 c10, .int .i64 c11, .int .i64 c12, .int .i64 c13, .int .i64 c14] := rfl
  rw [e]
  go_enter Tryd.func13, Tryd.ntmps13
  go_wp2
  go_ret
  exact ⟨_, rfl, by simp, heap_alloc2_new _ _ _, ((Below.refl _ _).alloc (Nat.le_refl _) _).alloc (by simp) _⟩

set_option maxRecDepth 100000 in
set_option maxHeartbeats 4000000 in
theorem of_any (l : List Int) (hl : l.length = 15) (g cap : Nat) (w : World) (hg : g < w.heap.size) (hc : ∀ j, j < 15 → w.cell? ⟨g, j, none⟩ = some (.int .i64 (l.getD j 0))) :
    Calls Tryd.prog 18 #[.slice (some ⟨g, 0, none⟩) 15 cap] w fun e w' => e = .returned (.agg (cc l)) ∧ Below w.heap.size w w' := by
  have ha : ∀ o j, j < 15 → (w.alloc o).cell? ⟨g, j, none⟩ = some (.int .i64 (l.getD j 0)) := fun o j hj => (((Below.refl w.heap.size w).alloc (Nat.le_refl _) o).cell (p := ⟨g, j, none⟩) hg).trans (hc j hj)
  obtain ⟨c0, c1, c2, c3, c4, c5, c6, c7, c8, c9, c10, c11, c12, c13, c14, rfl⟩ := fifteen hl
  have HA : Hid (∀ o, (fun w' => w'.cell? ⟨g, 0, none⟩ = some (.int .i64 c0) ∧ w'.cell? ⟨g, 1, none⟩ = some (.int .i64 c1) ∧ w'.cell? ⟨g, 2, none⟩ = some (.int .i64 c2) ∧ w'.cell? ⟨g, 3, none⟩ = some (.int .i64 c3) ∧ w'.cell? ⟨g, 4, none⟩ = some (.int .i64 c4) ∧ w'.cell? ⟨g, 5, none⟩ = some (.int .i64 c5) ∧ w'.cell? ⟨g, 6, none⟩ = some (.int .i64 c6) ∧ w'.cell? ⟨g, 7, none⟩ = some (.int .i64 c7) ∧ w'.cell? ⟨g, 8, none⟩ = some (.int .i64 c8) ∧ w'.cell? ⟨g, 9, none⟩ = some (.int .i64 c9) ∧ w'.cell? ⟨g, 10, none⟩ = some (.int .i64 c10) ∧ w'.cell? ⟨g, 11, none⟩ = some (.int .i64 c11) ∧ w'.cell? ⟨g, 12, none⟩ = some (.int .i64 c12) ∧ w'.cell? ⟨g, 13, none⟩ = some (.int .i64 c13) ∧ w'.cell? ⟨g, 14, none⟩ = some (.int .i64 c14)) (w.alloc o).drew) := fun o => ⟨ha o 0 (by omega), ha o 1 (by omega), ha o 2 (by omega), ha o 3 (by omega), ha o 4 (by omega), ha o 5 (by omega), ha o 6 (by omega), ha o 7 (by omega), ha o 8 (by omega), ha o 9 (by omega), ha o 10 (by omega), ha o 11 (by omega), ha o 12 (by omega), ha o 13 (by omega), ha o 14 (by omega)⟩
  clear ha hc hl hg
  have e : cc [c0, c1, c2, c3, c4, c5, c6, c7, c8, c9, c10, c11, c12, c13, c14] = #[.int .i64 c0, .int .i64 c1, .int .i64 c2, .int .i64 c3, .int .i64 c4, .int .i64 c5, .int .i64 c6, .int .i64 c7, .int .i64 c8, .int .i64 c9, .int .i64 c10, .int .i64 c11, .int .i64 c12, .int .i64 c13, .int .i64 c14] := rfl
  rw [e]
  clear e
  go_enter Tryd.func18, Tryd.ntmps18
  go_wp2_with fail
  have hS := HA.out (.cells #[.int .i64 0, .int .i64 0, .int .i64 0, .int .i64 0, .int .i64 0, .int .i64 0, .int .i64 0, .int .i64 0, .int .i64 0, .int .i64 0, .int .i64 0, .int .i64 0, .int .i64 0, .int .i64 0, .int .i64 0] 23)
  go_region_held3 (fun w' => w'.cell? ⟨g, 0, none⟩ = some (.int .i64 c0) ∧ w'.cell? ⟨g, 1, none⟩ = some (.int .i64 c1) ∧ w'.cell? ⟨g, 2, none⟩ = some (.int .i64 c2) ∧ w'.cell? ⟨g, 3, none⟩ = some (.int .i64 c3) ∧ w'.cell? ⟨g, 4, none⟩ = some (.int .i64 c4) ∧ w'.cell? ⟨g, 5, none⟩ = some (.int .i64 c5) ∧ w'.cell? ⟨g, 6, none⟩ = some (.int .i64 c6) ∧ w'.cell? ⟨g, 7, none⟩ = some (.int .i64 c7) ∧ w'.cell? ⟨g, 8, none⟩ = some (.int .i64 c8) ∧ w'.cell? ⟨g, 9, none⟩ = some (.int .i64 c9) ∧ w'.cell? ⟨g, 10, none⟩ = some (.int .i64 c10) ∧ w'.cell? ⟨g, 11, none⟩ = some (.int .i64 c11) ∧ w'.cell? ⟨g, 12, none⟩ = some (.int .i64 c12) ∧ w'.cell? ⟨g, 13, none⟩ = some (.int .i64 c13) ∧ w'.cell? ⟨g, 14, none⟩ = some (.int .i64 c14))
    (first | assumption | exact HA.out _ | go_keep)
    (fail)
  go_wp2
  refine bodyPost_ret (v := .agg #[.int .i64 c0, .int .i64 c1, .int .i64 c2, .int .i64 c3, .int .i64 c4, .int .i64 c5, .int .i64 c6, .int .i64 c7, .int .i64 c8, .int .i64 c9, .int .i64 c10, .int .i64 c11, .int .i64 c12, .int .i64 c13, .int .i64 c14]) ?_ rfl ⟨rfl, ((Below.refl _ _).alloc (Nat.le_refl _) _).drew⟩
  exact results_cell_row Tryd.results18 _ _ w.heap.size 23 _ (0, 0) _ rfl (heap_alloc_new _ _) Tryd.underlying23 rfl (by kernel_rfl)

end Go.Proofs.YtmhigndplbdknaaDoor
