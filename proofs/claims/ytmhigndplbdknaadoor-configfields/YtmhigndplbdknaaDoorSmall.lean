/-
  What Field, Set, Name, bounds and the document's List, Of and Name do, each as a contract: they return what the plain functions say and turn nothing that was there. Conditions: a config has 15 numbers; of Name, that the names' table reads as it is laid.
-/
import Derived.Test.YtmhigndplbdknaaDoorBase
namespace Go.Proofs.YtmhigndplbdknaaDoor
open Go.ChangeShapes Go.WideShapes Go.ChangeAt Go.RowKit

theorem Hid.mk' {p : Prop} (h : p) : Hid p := h
theorem below_setRow {B : Nat} {a w : World} (h : Below B a w) {g : Nat} (hg : B ≤ g) (cs : Array Value) : Below B a (w.setRow g cs) :=
  ⟨h.os, h.tape, h.output, by rw [size_setRow]; exact h.size, fun k hk => (setRow_other w g k cs (by omega)).trans (h.block k hk)⟩
theorem cc_one (l : List Int) : (cc l).all (·.oneCell') = true := by
  rw [Array.all_eq_true_iff_forall_mem]
  intro v hv
  simp only [cc, List.mem_toArray, List.mem_map] at hv
  obtain ⟨x, _, rfl⟩ := hv
  rfl
theorem cc_info {l : List Int} (h : l.length = 15) : (Tryd.prog.info? 23).map (·.size) = some (cc l).size := by rw [cc_size, h]; kernel_rfl
/-- A whole config is loaded of its block, as an operation. -/
theorem wl_load {l : List Int} (hl : l.length = 15) {ops : Array Oper} {rest : List Oper} {o : Oper} {a : Act} {w : World} {Q : Exit → Act → World → Prop} (hgd : o.guard = none) (x : Operand) (ho : o.op = .load 23 x)
    {g : Nat} (hx : a.eval x = .pointer (some ⟨g, 0, none⟩)) {t : TypeId} {fr : Nat × Nat} (hg : w.heap[g]? = some (.cells (cc l) t fr))
    (h : wpList Tryd.prog ops Q rest (a.put o.dst (.agg (cc l))) w) : wpList Tryd.prog ops Q (o :: rest) a w :=
  wpList_load_row hgd 23 x ho g hx t (cc l) fr _ hg Tryd.underlying23 rfl (cc_info hl) h
/-- A whole config is stored into its block, as an operation. -/
theorem wl_put {l : List Int} (hl : l.length = 15) {ops : Array Oper} {rest : List Oper} {o : Oper} {a : Act} {w : World} {Q : Exit → Act → World → Prop} (hgd : o.guard = none) (x y : Operand) (ho : o.op = .store 23 x y)
    {g : Nat} (hx : a.eval x = .pointer (some ⟨g, 0, none⟩)) (hy : a.eval y = .agg (cc l)) {t : TypeId} {old : Array Value} (hg : w.heap[g]? = some (.cells old t (0, 0))) (ho15 : old.size = 15)
    (h : wpList Tryd.prog ops Q rest (a.put o.dst undef) (w.setRow g (cc l))) : wpList Tryd.prog ops Q (o :: rest) a w :=
  wpList_store_row hgd 23 x y ho g (cc l) hx hy t old hg (cc_info hl) (by rw [ho15, cc_size, hl]) (cc_one l) h

set_option maxRecDepth 100000 in
theorem field_in (l : List Int) (hl : l.length = 15) (j : Nat) (hj : j < 15) (w : World) :
    Calls Tryd.prog 11 #[.agg (cc l), .int .i64 j] w fun e w' => e = .returned (.tuple #[.int .i64 (l.getD j 0), .bool true]) ∧ Below w.heap.size w w' := by
  have ht := inR_nat hj
  go_enter Tryd.func11, Tryd.ntmps11
  go_wp2_with fail
  refine (there_any _ _).mono ?_
  rintro e w' ⟨rfl, rfl⟩
  rw [ht]
  go_wp2_with fail
  refine (fields_any _ _).mono ?_
  rintro e w2 ⟨rfl, hb⟩
  have hi := run_idx w.heap.size j hj w2
  have hc : w2.cell? ⟨w.heap.size, j, none⟩ = some (.int .i64 (l.getD j 0)) := by
    rw [hb.cell (p := ⟨w.heap.size, j, none⟩) (by simp), cell_of_row _ _ _ _ _ _ (heap_alloc_new _ _), cc_get l j (by omega)]
  have hb' : Below w.heap.size w w2 := ((Below.refl _ _).alloc (Nat.le_refl _) _).trans (hb.mono (by simp))
  clear hb hl hj ht
  go_wp2
  go_ret2
  exact ⟨rfl, hb'⟩

set_option maxRecDepth 100000 in
theorem field_out (l : List Int) (n : Int) (h : ¬ (0 ≤ n ∧ n < 15)) (w : World) :
    Calls Tryd.prog 11 #[.agg (cc l), .int .i64 n] w fun e w' => e = .returned (.tuple #[.int .i64 0, .bool false]) ∧ Below w.heap.size w w' := by
  have ht := inR_no h
  clear h
  go_enter Tryd.func11, Tryd.ntmps11
  go_wp2_with fail
  refine (there_any _ _).mono ?_
  rintro e w' ⟨rfl, rfl⟩
  rw [ht]
  go_wp2
  go_ret2
  exact ⟨rfl, (Below.refl _ _).alloc (Nat.le_refl _) _⟩

set_option maxRecDepth 100000 in
theorem set_in (l : List Int) (hl : l.length = 15) (j : Nat) (hj : j < 15) (v : Int) (w : World) :
    Calls Tryd.prog 12 #[.agg (cc l), .int .i64 j, .int .i64 v] w fun e w' => e = .returned (.tuple #[.agg (cc (l.set j v)), .bool true]) ∧ Below w.heap.size w w' := by
  have ht := inR_nat hj
  go_enter Tryd.func12, Tryd.ntmps12
  go_wp2_with fail
  refine (there_any _ _).mono ?_
  rintro e w' ⟨rfl, rfl⟩
  rw [ht]
  go_wp2_with fail
  refine (fields_any _ _).mono ?_
  rintro e w2 ⟨rfl, hb⟩
  have hi := run_idx w.heap.size j hj w2
  have hA : w2.heap[w.heap.size]? = some (.cells (cc l) 23 (0, 0)) := (hb.block _ (by simp; omega)).trans (heap_alloc2_old _ _ _)
  have hZ : w2.heap[w.heap.size + 1]? = some (.cells #[.int .i64 0, .int .i64 0, .int .i64 0, .int .i64 0, .int .i64 0, .int .i64 0, .int .i64 0, .int .i64 0, .int .i64 0, .int .i64 0, .int .i64 0, .int .i64 0, .int .i64 0, .int .i64 0, .int .i64 0] 23 (0, 0)) := (hb.block _ (by simp)).trans (heap_alloc2_new _ _ _)
  have hc : w2.cell? ⟨w.heap.size, j, none⟩ = some (.int .i64 (l.getD j 0)) := by
    rw [cell_of_row _ _ _ _ _ _ hA, cc_get l j (by omega)]
  have hf : w2.frozen? ⟨w.heap.size, j, none⟩ = false := frozen_of_row _ _ _ _ _ hA
  have hlen : (l.set j v).length = 15 := by simpa using hl
  have hA' := heap_setCell_same w2 w.heap.size j (cc l) 23 (.int .i64 v) hA
  rw [cc_set] at hA'
  have hZ' := (heap_setCell_other w2 ⟨w.heap.size, j, none⟩ (w.heap.size + 1) (.int .i64 v) (by simp)).trans hZ
  have hend := run_cfg hlen (setRow_heap _ _ _ (cc (l.set j v)) _ _ hZ')
  have hb' : Below w.heap.size w ((w2.setCell ⟨w.heap.size, j, none⟩ (.int .i64 v)).setRow (w.heap.size + 1) (cc (l.set j v))) :=
    below_setRow (Below.setCell ((((Below.refl _ _).alloc (Nat.le_refl _) _).alloc (by simp) _).trans (hb.mono (by simp; omega))) (by simp) _) (by omega) _
  clear hb hl hj ht hA hZ
  have HA := Hid.mk' hA'
  have HZ := Hid.mk' hZ'
  clear hA' hZ'
  go_wp2_with (first
    | (refine wl_load hlen rfl _ rfl rfl HA.out ?_)
    | (refine wl_put hlen rfl _ _ rfl rfl rfl HZ.out rfl ?_))
  refine bodyPost_ret (v := .tuple #[.agg (cc (l.set j v)), .bool true]) ?_ rfl ⟨rfl, hb'⟩
  rw [results_cell_tmp Tryd.results12]
  simp [asAddr, hend]

set_option maxRecDepth 100000 in
theorem set_out (l : List Int) (hl : l.length = 15) (n v : Int) (h : ¬ (0 ≤ n ∧ n < 15)) (w : World) :
    Calls Tryd.prog 12 #[.agg (cc l), .int .i64 n, .int .i64 v] w fun e w' => e = .returned (.tuple #[.agg (cc l), .bool false]) ∧ Below w.heap.size w w' := by
  have ht := inR_no h
  clear h
  go_enter Tryd.func12, Tryd.ntmps12
  go_wp2_with fail
  refine (there_any _ _).mono ?_
  rintro e w' ⟨rfl, rfl⟩
  rw [ht]
  have hA := heap_alloc2_old w (.cells (cc l) 23) (.cells #[.int .i64 0, .int .i64 0, .int .i64 0, .int .i64 0, .int .i64 0, .int .i64 0, .int .i64 0, .int .i64 0, .int .i64 0, .int .i64 0, .int .i64 0, .int .i64 0, .int .i64 0, .int .i64 0, .int .i64 0] 23)
  have hZ := heap_alloc2_new w (.cells (cc l) 23) (.cells #[.int .i64 0, .int .i64 0, .int .i64 0, .int .i64 0, .int .i64 0, .int .i64 0, .int .i64 0, .int .i64 0, .int .i64 0, .int .i64 0, .int .i64 0, .int .i64 0, .int .i64 0, .int .i64 0, .int .i64 0] 23)
  have hend := run_cfg hl (setRow_heap _ _ _ (cc l) _ _ hZ)
  have HA := Hid.mk' hA
  have HZ := Hid.mk' hZ
  clear hA hZ ht
  go_wp2_with (first
    | (refine wl_load hl rfl _ rfl rfl HA.out ?_)
    | (refine wl_put hl rfl _ _ rfl rfl rfl HZ.out rfl ?_))
  refine bodyPost_ret (v := .tuple #[.agg (cc l), .bool false]) ?_ rfl ⟨rfl, below_setRow ((((Below.refl _ _).alloc (Nat.le_refl _) _).alloc (by simp) _)) (by omega) _⟩
  rw [results_cell_tmp Tryd.results12]
  simp [asAddr, hend]

theorem name_any (n : Int) (w : World) (hn : Env w) :
    Calls Tryd.prog 16 #[.int .i64 n] w fun e w' => e = .returned (.string (nm n)) ∧ w' = w := by
  by_cases hk : 0 ≤ n ∧ n < 15
  · obtain ⟨j, rfl, hj⟩ := inR_ex hk
    have ht := inR_nat hj
    have hc := hn.names j hj
    have e : nm j = nms.getD j ⟨#[]⟩ := by unfold nm; rw [if_pos ht]; rfl
    rw [← e] at hc
    clear e hn
    obtain ⟨h1, h2⟩ := hk
    go_enter Tryd.func16, Tryd.ntmps16
    go_wp2_with (first
        | (go_at_call 25; refine (there_any _ _).mono ?_; rintro e w' ⟨rfl, rfl⟩))
    go_ret
    exact ⟨rfl, rfl⟩
  · have ht := inR_no hk
    have e : nm n = ⟨#[]⟩ := by unfold nm; rw [if_neg (by rw [ht]; decide)]
    rw [e]
    clear hk hn e
    go_enter Tryd.func16, Tryd.ntmps16
    go_wp2_with (first
        | (go_at_call 25; refine (there_any _ _).mono ?_; rintro e w' ⟨rfl, rfl⟩))
    go_ret
    exact ⟨rfl, rfl⟩

set_option maxRecDepth 100000 in
set_option maxHeartbeats 2000000 in
theorem rname_any (n : Int) (w : World) :
    Calls Tryd.prog 17 #[.int .i64 n] w fun e w' => e = .returned (.string (nm n)) ∧ Below w.heap.size w w' := by
  by_cases h1 : n < 0
  · have e : nm n = ⟨#[]⟩ := by unfold nm; rw [if_neg (by rw [inR_no (by omega)]; decide)]
    rw [e]
    clear e
    go_enter Tryd.func17, Tryd.ntmps17
    go_wp2
    go_ret
    exact ⟨rfl, Below.refl _ _⟩
  · by_cases h2 : 14 < n
    · have e : nm n = ⟨#[]⟩ := by unfold nm; rw [if_neg (by rw [inR_no (by omega)]; decide)]
      rw [e]
      clear e
      go_enter Tryd.func17, Tryd.ntmps17
      go_wp2
      go_ret
      exact ⟨rfl, Below.refl _ _⟩
    · have hk : n = 0 ∨ n = 1 ∨ n = 2 ∨ n = 3 ∨ n = 4 ∨ n = 5 ∨ n = 6 ∨ n = 7 ∨ n = 8 ∨ n = 9 ∨ n = 10 ∨ n = 11 ∨ n = 12 ∨ n = 13 ∨ n = 14 := by omega
      clear h1 h2
      rcases hk with rfl | rfl | rfl | rfl | rfl | rfl | rfl | rfl | rfl | rfl | rfl | rfl | rfl | rfl | rfl
      all_goals
        go_enter Tryd.func17, Tryd.ntmps17
        go_wp2
        go_ret
        exact ⟨rfl, (Below.refl _ _).alloc (Nat.le_refl _) _⟩

end Go.Proofs.YtmhigndplbdknaaDoor
