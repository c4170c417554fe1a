/-
  FleetNil's walk: of a fleet that isn't there nothing is told. Condition: the table of states reads as it is laid.
-/
import Derived.Test.YtmlkpfkeeifgeaaDoorM2
import Derived.Test.YtmlkpfkeeifgeaaDoorFLives
import Derived.Test.YtmlkpfkeeifgeaaDoorFRead
namespace Go.Proofs.YtmlkpfkeeifgeaaDoor
open Go.ChangeShapes Go.WideShapes Go.ChangeAt Go.RowKit

theorem nil_end {w w2 : World} {q : Nat} (hq : q = w.heap.size + 1) (hb : Below w.heap.size w w2) (hg : w2.heap[q]? = some (.cells #[.bool false, .int .i64 0, .slice none 0 0, .slice none 0 0] 39 (0, 0))) (u0 u1 u2 u3 : Value) :
    ∀ w4, w4 = ((((w2.setCell ⟨q, 0, none⟩ u0).setCell ⟨q, 1, none⟩ u1).setCell ⟨q, 2, none⟩ u2).setCell ⟨q, 3, none⟩ u3) →
      w4.cell? ⟨q, 0, none⟩ = some u0 ∧ w4.cell? ⟨q, 1, none⟩ = some u1 ∧ w4.cell? ⟨q, 2, none⟩ = some u2 ∧ w4.cell? ⟨q, 3, none⟩ = some u3 ∧ Below w.heap.size w w4 := by
  intro w4 e4
  obtain ⟨p1, p2⟩ := put4 hg u0 u1 u2 u3
  rw [← e4] at p1 p2
  obtain ⟨z0, z1, z2, z3, -⟩ := blk4 p1
  have hle : w.heap.size ≤ q := by omega
  refine ⟨z0, z1, z2, z3, ?_⟩
  rw [e4]
  exact (((hb.setCell hle _).setCell hle _).setCell hle _).setCell hle _

set_option maxHeartbeats 2000000 in
set_option maxRecDepth 100000 in
theorem step_nil0 (kd n : Int) (x : ByteArray) (ma : Option Addr) (ml mc : Nat) (w : World) (hk : kindI kd = 0) :
    Calls Tryd.prog 14 #[.pointer none, .agg #[.int .i64 kd, .int .i64 n, .string x, .slice ma ml mc]] w fun r w' => r = .returned (.agg #[.bool false, .int .i64 1, .slice none 0 0, .slice none 0 0]) ∧ Below w.heap.size w w' := by
  obtain ⟨w1, hw1⟩ : ∃ w1, w1 = (w.alloc (.cells #[.int .i64 kd, .int .i64 n, .string x, .slice ma ml mc] 36)).alloc (.cells #[.bool false, .int .i64 0, .slice none 0 0, .slice none 0 0] 39) := ⟨_, rfl⟩
  have hb1 : Below w.heap.size w w1 := by rw [hw1]; exact ((Below.refl _ w).alloc (Nat.le_refl _) _).alloc (by simp) _
  have hsz : w1.heap.size = w.heap.size + 2 := by rw [hw1]; simp
  have hq3 : w1.heap[w.heap.size]? = some (.cells #[.int .i64 kd, .int .i64 n, .string x, .slice ma ml mc] 36 (0, 0)) := by
    rw [hw1, Below.heap_alloc _ _ _ (by simp)]
    exact heap_alloc_new w _
  have hq4 : w1.heap[w.heap.size + 1]? = some (.cells #[.bool false, .int .i64 0, .slice none 0 0, .slice none 0 0] 39 (0, 0)) := by
    rw [hw1]
    have := heap_alloc_new (w.alloc (.cells #[.int .i64 kd, .int .i64 n, .string x, .slice ma ml mc] 36)) (.cells #[.bool false, .int .i64 0, .slice none 0 0, .slice none 0 0] 39)
    simpa using this
  have hkd := kind_step kd n (.string x) (.slice ma ml mc) w1
  rw [hk] at hkd
  obtain ⟨x0, x1, x2, x3, -⟩ := blk4 hq3
  have hlt1 : w.heap.size < w1.heap.size := by omega
  go_enter Tryd.func14, Tryd.ntmps14
  go_upto_region 1 with fail
  rw [← hw1]
  clear hw1
  go_wp2_with (first
    | (go_at_call 19; refine hkd.mono ?_; rintro r w2 ⟨rfl, hb2⟩; clear hkd; have b1 := (hb2.cell (p := ⟨w.heap.size, 1, none⟩) hlt1).trans x1; have b2 := (hb2.cell (p := ⟨w.heap.size, 2, none⟩) hlt1).trans x2; have b3 := (hb2.cell (p := ⟨w.heap.size, 3, none⟩) hlt1).trans x3)
    | (go_at_call 21; refine (fresolve_nil (.slice ma ml mc) n w2).mono ?_; rintro r w3 ⟨rfl, rfl⟩; have hg3 := (hb2.block (w.heap.size + 1) (by omega)).trans hq4; obtain ⟨g0, g1, g2, g3, -⟩ := blk4 hg3; have gf0 := fz4 hg3 0; have gf1 := fz4 hg3 1; have gf2 := fz4 hg3 2; have gf3 := fz4 hg3 3))
  obtain ⟨z0, z1, z2, z3, hb4⟩ := nil_end rfl (hb1.trans (hb2.mono hb1.size)) hg3 (.bool false) (.int .i64 1) (.slice none 0 0) (.slice none 0 0) _ rfl
  refine bodyPost_ret (v := .agg #[.bool false, .int .i64 1, .slice none 0 0, .slice none 0 0]) (by simp [results, Tryd.results14, go_sem, z0, z1, z2, z3]) rfl ?_
  exact ⟨rfl, hb4⟩

set_option maxHeartbeats 2000000 in
set_option maxRecDepth 100000 in
theorem step_nil1 (kd n : Int) (x : ByteArray) (ma : Option Addr) (ml mc : Nat) (w : World) (hk : kindI kd = 1) :
    Calls Tryd.prog 14 #[.pointer none, .agg #[.int .i64 kd, .int .i64 n, .string x, .slice ma ml mc]] w fun r w' => r = .returned (.agg #[.bool false, .int .i64 1, .slice none 0 0, .slice none 0 0]) ∧ Below w.heap.size w w' := by
  obtain ⟨w1, hw1⟩ : ∃ w1, w1 = (w.alloc (.cells #[.int .i64 kd, .int .i64 n, .string x, .slice ma ml mc] 36)).alloc (.cells #[.bool false, .int .i64 0, .slice none 0 0, .slice none 0 0] 39) := ⟨_, rfl⟩
  have hb1 : Below w.heap.size w w1 := by rw [hw1]; exact ((Below.refl _ w).alloc (Nat.le_refl _) _).alloc (by simp) _
  have hsz : w1.heap.size = w.heap.size + 2 := by rw [hw1]; simp
  have hq3 : w1.heap[w.heap.size]? = some (.cells #[.int .i64 kd, .int .i64 n, .string x, .slice ma ml mc] 36 (0, 0)) := by
    rw [hw1, Below.heap_alloc _ _ _ (by simp)]
    exact heap_alloc_new w _
  have hq4 : w1.heap[w.heap.size + 1]? = some (.cells #[.bool false, .int .i64 0, .slice none 0 0, .slice none 0 0] 39 (0, 0)) := by
    rw [hw1]
    have := heap_alloc_new (w.alloc (.cells #[.int .i64 kd, .int .i64 n, .string x, .slice ma ml mc] 36)) (.cells #[.bool false, .int .i64 0, .slice none 0 0, .slice none 0 0] 39)
    simpa using this
  have hkd := kind_step kd n (.string x) (.slice ma ml mc) w1
  rw [hk] at hkd
  obtain ⟨x0, x1, x2, x3, -⟩ := blk4 hq3
  have hlt1 : w.heap.size < w1.heap.size := by omega
  go_enter Tryd.func14, Tryd.ntmps14
  go_upto_region 1 with fail
  rw [← hw1]
  clear hw1
  go_wp2_with (first
    | (go_at_call 19; refine hkd.mono ?_; rintro r w2 ⟨rfl, hb2⟩; clear hkd; have b1 := (hb2.cell (p := ⟨w.heap.size, 1, none⟩) hlt1).trans x1; have b2 := (hb2.cell (p := ⟨w.heap.size, 2, none⟩) hlt1).trans x2; have b3 := (hb2.cell (p := ⟨w.heap.size, 3, none⟩) hlt1).trans x3)
    | (go_at_call 23; refine (fdrain_nil x w2).mono ?_; rintro r w3 ⟨rfl, rfl⟩; have hg3 := (hb2.block (w.heap.size + 1) (by omega)).trans hq4; obtain ⟨g0, g1, g2, g3, -⟩ := blk4 hg3; have gf0 := fz4 hg3 0; have gf1 := fz4 hg3 1; have gf2 := fz4 hg3 2; have gf3 := fz4 hg3 3))
  obtain ⟨z0, z1, z2, z3, hb4⟩ := nil_end rfl (hb1.trans (hb2.mono hb1.size)) hg3 (.bool false) (.int .i64 1) (.slice none 0 0) (.slice none 0 0) _ rfl
  refine bodyPost_ret (v := .agg #[.bool false, .int .i64 1, .slice none 0 0, .slice none 0 0]) (by simp [results, Tryd.results14, go_sem, z0, z1, z2, z3]) rfl ?_
  exact ⟨rfl, hb4⟩

set_option maxHeartbeats 2000000 in
set_option maxRecDepth 100000 in
theorem step_nil2 (kd n : Int) (x : ByteArray) (ma : Option Addr) (ml mc : Nat) (w : World) (hk : kindI kd = 2) :
    Calls Tryd.prog 14 #[.pointer none, .agg #[.int .i64 kd, .int .i64 n, .string x, .slice ma ml mc]] w fun r w' => r = .returned (.agg #[.bool false, .int .i64 1, .slice none 0 0, .slice none 0 0]) ∧ Below w.heap.size w w' := by
  obtain ⟨w1, hw1⟩ : ∃ w1, w1 = (w.alloc (.cells #[.int .i64 kd, .int .i64 n, .string x, .slice ma ml mc] 36)).alloc (.cells #[.bool false, .int .i64 0, .slice none 0 0, .slice none 0 0] 39) := ⟨_, rfl⟩
  have hb1 : Below w.heap.size w w1 := by rw [hw1]; exact ((Below.refl _ w).alloc (Nat.le_refl _) _).alloc (by simp) _
  have hsz : w1.heap.size = w.heap.size + 2 := by rw [hw1]; simp
  have hq3 : w1.heap[w.heap.size]? = some (.cells #[.int .i64 kd, .int .i64 n, .string x, .slice ma ml mc] 36 (0, 0)) := by
    rw [hw1, Below.heap_alloc _ _ _ (by simp)]
    exact heap_alloc_new w _
  have hq4 : w1.heap[w.heap.size + 1]? = some (.cells #[.bool false, .int .i64 0, .slice none 0 0, .slice none 0 0] 39 (0, 0)) := by
    rw [hw1]
    have := heap_alloc_new (w.alloc (.cells #[.int .i64 kd, .int .i64 n, .string x, .slice ma ml mc] 36)) (.cells #[.bool false, .int .i64 0, .slice none 0 0, .slice none 0 0] 39)
    simpa using this
  have hkd := kind_step kd n (.string x) (.slice ma ml mc) w1
  rw [hk] at hkd
  obtain ⟨x0, x1, x2, x3, -⟩ := blk4 hq3
  have hlt1 : w.heap.size < w1.heap.size := by omega
  go_enter Tryd.func14, Tryd.ntmps14
  go_upto_region 1 with fail
  rw [← hw1]
  clear hw1
  go_wp2_with (first
    | (go_at_call 19; refine hkd.mono ?_; rintro r w2 ⟨rfl, hb2⟩; clear hkd; have b1 := (hb2.cell (p := ⟨w.heap.size, 1, none⟩) hlt1).trans x1; have b2 := (hb2.cell (p := ⟨w.heap.size, 2, none⟩) hlt1).trans x2; have b3 := (hb2.cell (p := ⟨w.heap.size, 3, none⟩) hlt1).trans x3)
    | (go_at_call 32; refine (fundrain_nil x w2).mono ?_; rintro r w3 ⟨rfl, rfl⟩; have hg3 := (hb2.block (w.heap.size + 1) (by omega)).trans hq4; obtain ⟨g0, g1, g2, g3, -⟩ := blk4 hg3; have gf0 := fz4 hg3 0; have gf1 := fz4 hg3 1; have gf2 := fz4 hg3 2; have gf3 := fz4 hg3 3))
  obtain ⟨z0, z1, z2, z3, hb4⟩ := nil_end rfl (hb1.trans (hb2.mono hb1.size)) hg3 (.bool false) (.int .i64 1) (.slice none 0 0) (.slice none 0 0) _ rfl
  refine bodyPost_ret (v := .agg #[.bool false, .int .i64 1, .slice none 0 0, .slice none 0 0]) (by simp [results, Tryd.results14, go_sem, z0, z1, z2, z3]) rfl ?_
  exact ⟨rfl, hb4⟩

set_option maxHeartbeats 2000000 in
set_option maxRecDepth 100000 in
theorem step_nil3 (kd n : Int) (x : ByteArray) (ma : Option Addr) (ml mc : Nat) (w : World) (hk : kindI kd = 3) :
    Calls Tryd.prog 14 #[.pointer none, .agg #[.int .i64 kd, .int .i64 n, .string x, .slice ma ml mc]] w fun r w' => r = .returned (.agg #[.bool false, .int .i64 1, .slice none 0 0, .slice none 0 0]) ∧ Below w.heap.size w w' := by
  obtain ⟨w1, hw1⟩ : ∃ w1, w1 = (w.alloc (.cells #[.int .i64 kd, .int .i64 n, .string x, .slice ma ml mc] 36)).alloc (.cells #[.bool false, .int .i64 0, .slice none 0 0, .slice none 0 0] 39) := ⟨_, rfl⟩
  have hb1 : Below w.heap.size w w1 := by rw [hw1]; exact ((Below.refl _ w).alloc (Nat.le_refl _) _).alloc (by simp) _
  have hsz : w1.heap.size = w.heap.size + 2 := by rw [hw1]; simp
  have hq3 : w1.heap[w.heap.size]? = some (.cells #[.int .i64 kd, .int .i64 n, .string x, .slice ma ml mc] 36 (0, 0)) := by
    rw [hw1, Below.heap_alloc _ _ _ (by simp)]
    exact heap_alloc_new w _
  have hq4 : w1.heap[w.heap.size + 1]? = some (.cells #[.bool false, .int .i64 0, .slice none 0 0, .slice none 0 0] 39 (0, 0)) := by
    rw [hw1]
    have := heap_alloc_new (w.alloc (.cells #[.int .i64 kd, .int .i64 n, .string x, .slice ma ml mc] 36)) (.cells #[.bool false, .int .i64 0, .slice none 0 0, .slice none 0 0] 39)
    simpa using this
  have hkd := kind_step kd n (.string x) (.slice ma ml mc) w1
  rw [hk] at hkd
  obtain ⟨x0, x1, x2, x3, -⟩ := blk4 hq3
  have hlt1 : w.heap.size < w1.heap.size := by omega
  go_enter Tryd.func14, Tryd.ntmps14
  go_upto_region 1 with fail
  rw [← hw1]
  clear hw1
  go_wp2_with (first
    | (go_at_call 19; refine hkd.mono ?_; rintro r w2 ⟨rfl, hb2⟩; clear hkd; have b1 := (hb2.cell (p := ⟨w.heap.size, 1, none⟩) hlt1).trans x1; have b2 := (hb2.cell (p := ⟨w.heap.size, 2, none⟩) hlt1).trans x2; have b3 := (hb2.cell (p := ⟨w.heap.size, 3, none⟩) hlt1).trans x3)
    | (go_at_call 31; refine (fforce_nil x n w2).mono ?_; rintro r w3 ⟨rfl, rfl⟩; have hg3 := (hb2.block (w.heap.size + 1) (by omega)).trans hq4; obtain ⟨g0, g1, g2, g3, -⟩ := blk4 hg3; have gf0 := fz4 hg3 0; have gf1 := fz4 hg3 1; have gf2 := fz4 hg3 2; have gf3 := fz4 hg3 3))
  obtain ⟨z0, z1, z2, z3, hb4⟩ := nil_end rfl (hb1.trans (hb2.mono hb1.size)) hg3 (.bool false) (.int .i64 1) (.slice none 0 0) (.slice none 0 0) _ rfl
  refine bodyPost_ret (v := .agg #[.bool false, .int .i64 1, .slice none 0 0, .slice none 0 0]) (by simp [results, Tryd.results14, go_sem, z0, z1, z2, z3]) rfl ?_
  exact ⟨rfl, hb4⟩

set_option maxHeartbeats 2000000 in
set_option maxRecDepth 100000 in
theorem step_nil4 (kd n : Int) (x : ByteArray) (ma : Option Addr) (ml mc : Nat) (w : World) (hk : kindI kd = 4) :
    Calls Tryd.prog 14 #[.pointer none, .agg #[.int .i64 kd, .int .i64 n, .string x, .slice ma ml mc]] w fun r w' => r = .returned (.agg #[.bool false, .int .i64 1, .slice none 0 0, .slice none 0 0]) ∧ Below w.heap.size w w' := by
  obtain ⟨w1, hw1⟩ : ∃ w1, w1 = (w.alloc (.cells #[.int .i64 kd, .int .i64 n, .string x, .slice ma ml mc] 36)).alloc (.cells #[.bool false, .int .i64 0, .slice none 0 0, .slice none 0 0] 39) := ⟨_, rfl⟩
  have hb1 : Below w.heap.size w w1 := by rw [hw1]; exact ((Below.refl _ w).alloc (Nat.le_refl _) _).alloc (by simp) _
  have hsz : w1.heap.size = w.heap.size + 2 := by rw [hw1]; simp
  have hq3 : w1.heap[w.heap.size]? = some (.cells #[.int .i64 kd, .int .i64 n, .string x, .slice ma ml mc] 36 (0, 0)) := by
    rw [hw1, Below.heap_alloc _ _ _ (by simp)]
    exact heap_alloc_new w _
  have hq4 : w1.heap[w.heap.size + 1]? = some (.cells #[.bool false, .int .i64 0, .slice none 0 0, .slice none 0 0] 39 (0, 0)) := by
    rw [hw1]
    have := heap_alloc_new (w.alloc (.cells #[.int .i64 kd, .int .i64 n, .string x, .slice ma ml mc] 36)) (.cells #[.bool false, .int .i64 0, .slice none 0 0, .slice none 0 0] 39)
    simpa using this
  have hkd := kind_step kd n (.string x) (.slice ma ml mc) w1
  rw [hk] at hkd
  obtain ⟨x0, x1, x2, x3, -⟩ := blk4 hq3
  have hlt1 : w.heap.size < w1.heap.size := by omega
  go_enter Tryd.func14, Tryd.ntmps14
  go_upto_region 1 with fail
  rw [← hw1]
  clear hw1
  go_wp2_with (first
    | (go_at_call 19; refine hkd.mono ?_; rintro r w2 ⟨rfl, hb2⟩; clear hkd; have b1 := (hb2.cell (p := ⟨w.heap.size, 1, none⟩) hlt1).trans x1; have b2 := (hb2.cell (p := ⟨w.heap.size, 2, none⟩) hlt1).trans x2; have b3 := (hb2.cell (p := ⟨w.heap.size, 3, none⟩) hlt1).trans x3)
    | (go_at_call 33; refine (feject_nil x w2).mono ?_; rintro r w3 ⟨rfl, rfl⟩; have hg3 := (hb2.block (w.heap.size + 1) (by omega)).trans hq4; obtain ⟨g0, g1, g2, g3, -⟩ := blk4 hg3; have gf0 := fz4 hg3 0; have gf1 := fz4 hg3 1; have gf2 := fz4 hg3 2; have gf3 := fz4 hg3 3))
  obtain ⟨z0, z1, z2, z3, hb4⟩ := nil_end rfl (hb1.trans (hb2.mono hb1.size)) hg3 (.bool false) (.int .i64 1) (.slice none 0 0) (.slice none 0 0) _ rfl
  refine bodyPost_ret (v := .agg #[.bool false, .int .i64 1, .slice none 0 0, .slice none 0 0]) (by simp [results, Tryd.results14, go_sem, z0, z1, z2, z3]) rfl ?_
  exact ⟨rfl, hb4⟩

set_option maxHeartbeats 2000000 in
set_option maxRecDepth 100000 in
theorem step_nil5 (kd n : Int) (x : ByteArray) (ma : Option Addr) (ml mc : Nat) (w : World) (hk : kindI kd = 5) :
    Calls Tryd.prog 14 #[.pointer none, .agg #[.int .i64 kd, .int .i64 n, .string x, .slice ma ml mc]] w fun r w' => r = .returned (.agg #[.bool false, .int .i64 0, .slice none 0 0, .slice none 0 0]) ∧ Below w.heap.size w w' := by
  obtain ⟨w1, hw1⟩ : ∃ w1, w1 = (w.alloc (.cells #[.int .i64 kd, .int .i64 n, .string x, .slice ma ml mc] 36)).alloc (.cells #[.bool false, .int .i64 0, .slice none 0 0, .slice none 0 0] 39) := ⟨_, rfl⟩
  have hb1 : Below w.heap.size w w1 := by rw [hw1]; exact ((Below.refl _ w).alloc (Nat.le_refl _) _).alloc (by simp) _
  have hsz : w1.heap.size = w.heap.size + 2 := by rw [hw1]; simp
  have hq3 : w1.heap[w.heap.size]? = some (.cells #[.int .i64 kd, .int .i64 n, .string x, .slice ma ml mc] 36 (0, 0)) := by
    rw [hw1, Below.heap_alloc _ _ _ (by simp)]
    exact heap_alloc_new w _
  have hq4 : w1.heap[w.heap.size + 1]? = some (.cells #[.bool false, .int .i64 0, .slice none 0 0, .slice none 0 0] 39 (0, 0)) := by
    rw [hw1]
    have := heap_alloc_new (w.alloc (.cells #[.int .i64 kd, .int .i64 n, .string x, .slice ma ml mc] 36)) (.cells #[.bool false, .int .i64 0, .slice none 0 0, .slice none 0 0] 39)
    simpa using this
  have hkd := kind_step kd n (.string x) (.slice ma ml mc) w1
  rw [hk] at hkd
  obtain ⟨x0, x1, x2, x3, -⟩ := blk4 hq3
  have hlt1 : w.heap.size < w1.heap.size := by omega
  go_enter Tryd.func14, Tryd.ntmps14
  go_upto_region 1 with fail
  rw [← hw1]
  clear hw1
  go_wp2_with (first
    | (go_at_call 19; refine hkd.mono ?_; rintro r w2 ⟨rfl, hb2⟩; clear hkd; have b1 := (hb2.cell (p := ⟨w.heap.size, 1, none⟩) hlt1).trans x1; have b2 := (hb2.cell (p := ⟨w.heap.size, 2, none⟩) hlt1).trans x2; have b3 := (hb2.cell (p := ⟨w.heap.size, 3, none⟩) hlt1).trans x3)
    | (go_at_call 22; refine (fadmit_nil n w2).mono ?_; rintro r w3 ⟨rfl, rfl⟩; have hg3 := (hb2.block (w.heap.size + 1) (by omega)).trans hq4; obtain ⟨g0, g1, g2, g3, -⟩ := blk4 hg3; have gf0 := fz4 hg3 0; have gf1 := fz4 hg3 1; have gf2 := fz4 hg3 2; have gf3 := fz4 hg3 3))
  obtain ⟨z0, z1, z2, z3, hb4⟩ := nil_end rfl (hb1.trans (hb2.mono hb1.size)) hg3 (.bool false) (.int .i64 0) (.slice none 0 0) (.slice none 0 0) _ rfl
  refine bodyPost_ret (v := .agg #[.bool false, .int .i64 0, .slice none 0 0, .slice none 0 0]) (by simp [results, Tryd.results14, go_sem, z0, z1, z2, z3]) rfl ?_
  exact ⟨rfl, hb4⟩

set_option maxHeartbeats 2000000 in
set_option maxRecDepth 100000 in
theorem step_nil6 (kd n : Int) (x : ByteArray) (ma : Option Addr) (ml mc : Nat) (w : World) (hk : kindI kd = 6) :
    Calls Tryd.prog 14 #[.pointer none, .agg #[.int .i64 kd, .int .i64 n, .string x, .slice ma ml mc]] w fun r w' => r = .returned (.agg #[.bool false, .int .i64 0, .slice none 0 0, .slice none 0 0]) ∧ Below w.heap.size w w' := by
  obtain ⟨w1, hw1⟩ : ∃ w1, w1 = (w.alloc (.cells #[.int .i64 kd, .int .i64 n, .string x, .slice ma ml mc] 36)).alloc (.cells #[.bool false, .int .i64 0, .slice none 0 0, .slice none 0 0] 39) := ⟨_, rfl⟩
  have hb1 : Below w.heap.size w w1 := by rw [hw1]; exact ((Below.refl _ w).alloc (Nat.le_refl _) _).alloc (by simp) _
  have hsz : w1.heap.size = w.heap.size + 2 := by rw [hw1]; simp
  have hq3 : w1.heap[w.heap.size]? = some (.cells #[.int .i64 kd, .int .i64 n, .string x, .slice ma ml mc] 36 (0, 0)) := by
    rw [hw1, Below.heap_alloc _ _ _ (by simp)]
    exact heap_alloc_new w _
  have hq4 : w1.heap[w.heap.size + 1]? = some (.cells #[.bool false, .int .i64 0, .slice none 0 0, .slice none 0 0] 39 (0, 0)) := by
    rw [hw1]
    have := heap_alloc_new (w.alloc (.cells #[.int .i64 kd, .int .i64 n, .string x, .slice ma ml mc] 36)) (.cells #[.bool false, .int .i64 0, .slice none 0 0, .slice none 0 0] 39)
    simpa using this
  have hkd := kind_step kd n (.string x) (.slice ma ml mc) w1
  rw [hk] at hkd
  obtain ⟨x0, x1, x2, x3, -⟩ := blk4 hq3
  have hlt1 : w.heap.size < w1.heap.size := by omega
  go_enter Tryd.func14, Tryd.ntmps14
  go_upto_region 1 with fail
  rw [← hw1]
  clear hw1
  go_wp2_with (first
    | (go_at_call 19; refine hkd.mono ?_; rintro r w2 ⟨rfl, hb2⟩; clear hkd; have b1 := (hb2.cell (p := ⟨w.heap.size, 1, none⟩) hlt1).trans x1; have b2 := (hb2.cell (p := ⟨w.heap.size, 2, none⟩) hlt1).trans x2; have b3 := (hb2.cell (p := ⟨w.heap.size, 3, none⟩) hlt1).trans x3)
    | (go_at_call 38; refine (fprobe_nil x w2).mono ?_; rintro r w3 ⟨rfl, hb3⟩; have hg3 := (hb2.block (w.heap.size + 1) (by omega)).trans hq4; have hg3 := (hb3.block (w.heap.size + 1) (by have := hb2.size; omega)).trans hg3; obtain ⟨g0, g1, g2, g3, -⟩ := blk4 hg3; have gf0 := fz4 hg3 0; have gf1 := fz4 hg3 1; have gf2 := fz4 hg3 2; have gf3 := fz4 hg3 3))
  obtain ⟨z0, z1, z2, z3, hb4⟩ := nil_end rfl ((hb1.trans (hb2.mono hb1.size)).trans (hb3.mono (Nat.le_trans hb1.size hb2.size))) hg3 (.bool false) (.int .i64 0) (.slice none 0 0) (.slice none 0 0) _ rfl
  refine bodyPost_ret (v := .agg #[.bool false, .int .i64 0, .slice none 0 0, .slice none 0 0]) (by simp [results, Tryd.results14, go_sem, z0, z1, z2, z3]) rfl ?_
  exact ⟨rfl, hb4⟩

set_option maxHeartbeats 2000000 in
set_option maxRecDepth 100000 in
theorem step_nil7 (kd n : Int) (x : ByteArray) (ma : Option Addr) (ml mc : Nat) (w : World) (hk : kindI kd = 7) :
    Calls Tryd.prog 14 #[.pointer none, .agg #[.int .i64 kd, .int .i64 n, .string x, .slice ma ml mc]] w fun r w' => r = .returned (.agg #[.bool false, .int .i64 0, .slice none 0 0, .slice none 0 0]) ∧ Below w.heap.size w w' := by
  obtain ⟨w1, hw1⟩ : ∃ w1, w1 = (w.alloc (.cells #[.int .i64 kd, .int .i64 n, .string x, .slice ma ml mc] 36)).alloc (.cells #[.bool false, .int .i64 0, .slice none 0 0, .slice none 0 0] 39) := ⟨_, rfl⟩
  have hb1 : Below w.heap.size w w1 := by rw [hw1]; exact ((Below.refl _ w).alloc (Nat.le_refl _) _).alloc (by simp) _
  have hsz : w1.heap.size = w.heap.size + 2 := by rw [hw1]; simp
  have hq3 : w1.heap[w.heap.size]? = some (.cells #[.int .i64 kd, .int .i64 n, .string x, .slice ma ml mc] 36 (0, 0)) := by
    rw [hw1, Below.heap_alloc _ _ _ (by simp)]
    exact heap_alloc_new w _
  have hq4 : w1.heap[w.heap.size + 1]? = some (.cells #[.bool false, .int .i64 0, .slice none 0 0, .slice none 0 0] 39 (0, 0)) := by
    rw [hw1]
    have := heap_alloc_new (w.alloc (.cells #[.int .i64 kd, .int .i64 n, .string x, .slice ma ml mc] 36)) (.cells #[.bool false, .int .i64 0, .slice none 0 0, .slice none 0 0] 39)
    simpa using this
  have hkd := kind_step kd n (.string x) (.slice ma ml mc) w1
  rw [hk] at hkd
  obtain ⟨x0, x1, x2, x3, -⟩ := blk4 hq3
  have hlt1 : w.heap.size < w1.heap.size := by omega
  go_enter Tryd.func14, Tryd.ntmps14
  go_upto_region 1 with fail
  rw [← hw1]
  clear hw1
  go_wp2_with (first
    | (go_at_call 19; refine hkd.mono ?_; rintro r w2 ⟨rfl, hb2⟩; clear hkd; have b1 := (hb2.cell (p := ⟨w.heap.size, 1, none⟩) hlt1).trans x1; have b2 := (hb2.cell (p := ⟨w.heap.size, 2, none⟩) hlt1).trans x2; have b3 := (hb2.cell (p := ⟨w.heap.size, 3, none⟩) hlt1).trans x3)
    | (go_at_call 30; refine (fempty_nil x w2).mono ?_; rintro r w3 ⟨rfl, hb3⟩; have hg3 := (hb2.block (w.heap.size + 1) (by omega)).trans hq4; have hg3 := (hb3.block (w.heap.size + 1) (by have := hb2.size; omega)).trans hg3; obtain ⟨g0, g1, g2, g3, -⟩ := blk4 hg3; have gf0 := fz4 hg3 0; have gf1 := fz4 hg3 1; have gf2 := fz4 hg3 2; have gf3 := fz4 hg3 3))
  obtain ⟨z0, z1, z2, z3, hb4⟩ := nil_end rfl ((hb1.trans (hb2.mono hb1.size)).trans (hb3.mono (Nat.le_trans hb1.size hb2.size))) hg3 (.bool false) (.int .i64 0) (.slice none 0 0) (.slice none 0 0) _ rfl
  refine bodyPost_ret (v := .agg #[.bool false, .int .i64 0, .slice none 0 0, .slice none 0 0]) (by simp [results, Tryd.results14, go_sem, z0, z1, z2, z3]) rfl ?_
  exact ⟨rfl, hb4⟩

theorem step_nil (kd n : Int) (x : ByteArray) (ma : Option Addr) (ml mc : Nat) (w : World) :
    Calls Tryd.prog 14 #[.pointer none, .agg #[.int .i64 kd, .int .i64 n, .string x, .slice ma ml mc]] w fun r w' => ∃ E : Int, r = .returned (.agg #[.bool false, .int .i64 E, .slice none 0 0, .slice none 0 0]) ∧ ((E = 1 ∧ kindI kd ≤ 4) ∨ (E = 0 ∧ 4 < kindI kd)) ∧ Below w.heap.size w w' := by
  rcases kindI_of kd with h | h | h | h | h | h | h | h
  · exact (step_nil0 kd n x ma ml mc w h).mono fun r w' ⟨e, hb⟩ => ⟨_, e, .inl ⟨rfl, by omega⟩, hb⟩
  · exact (step_nil1 kd n x ma ml mc w h).mono fun r w' ⟨e, hb⟩ => ⟨_, e, .inl ⟨rfl, by omega⟩, hb⟩
  · exact (step_nil2 kd n x ma ml mc w h).mono fun r w' ⟨e, hb⟩ => ⟨_, e, .inl ⟨rfl, by omega⟩, hb⟩
  · exact (step_nil3 kd n x ma ml mc w h).mono fun r w' ⟨e, hb⟩ => ⟨_, e, .inl ⟨rfl, by omega⟩, hb⟩
  · exact (step_nil4 kd n x ma ml mc w h).mono fun r w' ⟨e, hb⟩ => ⟨_, e, .inl ⟨rfl, by omega⟩, hb⟩
  · exact (step_nil5 kd n x ma ml mc w h).mono fun r w' ⟨e, hb⟩ => ⟨_, e, .inr ⟨rfl, by omega⟩, hb⟩
  · exact (step_nil6 kd n x ma ml mc w h).mono fun r w' ⟨e, hb⟩ => ⟨_, e, .inr ⟨rfl, by omega⟩, hb⟩
  · exact (step_nil7 kd n x ma ml mc w h).mono fun r w' ⟨e, hb⟩ => ⟨_, e, .inr ⟨rfl, by omega⟩, hb⟩

set_option maxHeartbeats 4000000 in
set_option maxRecDepth 100000 in
theorem nil_walk (kd n : Int) (x : ByteArray) (ma : Option Addr) (ml mc : Nat) (w : World) (ht : St.Tabs w) :
    Calls Tryd.prog 8 #[.agg #[.int .i64 kd, .int .i64 n, .string x, .slice ma ml mc]] w fun r w' => r = .returned (.bool true) ∧ Below w.heap.size w w' := by
  obtain ⟨w1, hw1⟩ : ∃ w1, w1 = w.alloc (.cells #[.int .i64 kd, .int .i64 n, .string x, .slice ma ml mc] 36) := ⟨_, rfl⟩
  have hb1 : Below w.heap.size w w1 := by rw [hw1]; exact (Below.refl _ w).alloc (Nat.le_refl _) _
  have hsz : w.heap.size < w1.heap.size := by rw [hw1]; simp
  have hq3 : w1.heap[w.heap.size]? = some (.cells #[.int .i64 kd, .int .i64 n, .string x, .slice ma ml mc] 36 (0, 0)) := by
    rw [hw1]
    exact heap_alloc_new w _
  have HT : Hid (St.Tabs w1) := ht.below hb1
  have HB1 := Hid.mk' hb1
  have HX : Hid (∀ w2, Below w1.heap.size w1 w2 → w2.cell? ⟨w.heap.size, 0, none⟩ = some (.int .i64 kd) ∧ w2.cell? ⟨w.heap.size, 1, none⟩ = some (.int .i64 n) ∧ w2.cell? ⟨w.heap.size, 2, none⟩ = some (.string x) ∧ w2.cell? ⟨w.heap.size, 3, none⟩ = some (.slice ma ml mc)) := fun w2 hb => by
    obtain ⟨x0, x1, x2, x3, -⟩ := blk4 ((hb.block _ hsz).trans hq3)
    exact ⟨x0, x1, x2, x3⟩
  clear ht hq3 hb1
  go_enter Tryd.func8, Tryd.ntmps8
  go_upto_region 1 with fail
  rw [← hw1]
  clear hw1
  generalize hqq : w.heap.size = q at *
  have HQ : Hid (w.heap.size = q) := hqq
  clear hqq
  have hl := lives_any w1 HT.out
  go_upto_region 4 with (go_at_call 11; refine hl.mono ?_; rintro r w2 ⟨rfl, hb2⟩; clear hl; obtain ⟨b0, b1, b2, b3⟩ := HX.out w2 hb2)
  have HB2 := Hid.mk' hb2
  have hsz2 := Nat.lt_of_lt_of_le hsz hb2.size
  have hs := step_nil kd n x ma ml mc w2
  clear hb2
  go_wp2_with fail
  refine hs.mono ?_
  rintro r w3 ⟨E, rfl, hE, hb3⟩
  clear hs
  have HB3 : Hid (Below w1.heap.size w1 w3) := HB2.out.trans (hb3.mono HB2.out.size)
  have hsz3 := Nat.lt_of_lt_of_le hsz2 hb3.size
  clear hb3 b0 b1 b2 b3 hsz2
  go_upto_region 5 with fail
  have hb4 : Below w3.heap.size w3 (w3.alloc (.cells #[.bool false, .int .i64 E, .slice none 0 0, .slice none 0 0] 39)) := (Below.refl _ w3).alloc (Nat.le_refl _) _
  have hg4 := heap_alloc_new w3 (.cells #[.bool false, .int .i64 E, .slice none 0 0, .slice none 0 0] 39)
  have hsz4 : w3.heap.size < (w3.alloc (.cells #[.bool false, .int .i64 E, .slice none 0 0, .slice none 0 0] 39)).heap.size := by simp
  generalize w3.alloc (.cells #[.bool false, .int .i64 E, .slice none 0 0, .slice none 0 0] 39) = w4 at *
  have HB4 : Hid (Below w1.heap.size w1 w4) := HB3.out.trans (hb4.mono HB3.out.size)
  have HB0 : Hid (Below q w w4) := HB1.out.trans (HB4.out.mono (by have := HQ.out; have := HB1.out.size; omega))
  have HY : Hid (∀ w5, Below w4.heap.size w4 w5 → (w5.cell? ⟨q, 0, none⟩ = some (.int .i64 kd) ∧ w5.cell? ⟨q, 1, none⟩ = some (.int .i64 n) ∧ w5.cell? ⟨q, 2, none⟩ = some (.string x) ∧ w5.cell? ⟨q, 3, none⟩ = some (.slice ma ml mc)) ∧ w5.cell? ⟨w3.heap.size, 0, none⟩ = some (.bool false) ∧ w5.cell? ⟨w3.heap.size, 1, none⟩ = some (.int .i64 E) ∧ w5.cell? ⟨w3.heap.size, 2, none⟩ = some (.slice none 0 0) ∧ w5.cell? ⟨w3.heap.size, 3, none⟩ = some (.slice none 0 0)) := fun w5 hb => by
    obtain ⟨x0, x1, x2, x3, -⟩ := blk4 ((hb.block _ hsz4).trans hg4)
    exact ⟨HX.out w5 (HB4.out.trans (hb.mono HB4.out.size)), x0, x1, x2, x3⟩
  obtain ⟨⟨b0, b1, b2, b3⟩, -, -, -, -⟩ := HY.out w4 (Below.refl _ _)
  generalize hqw : w3.heap.size = q4 at *
  clear HX HB3 HB4 hb4 hg4 hsz4 hsz3 hsz hqw HT HB1
  have hst := fstate_nil x w4
  go_wp2_with fail
  refine hst.mono ?_
  rintro r w5 ⟨rfl, hb5⟩
  clear hst b0 b1 b2 b3
  obtain ⟨⟨b0, b1, b2, b3⟩, y0, y1, y2, y3⟩ := HY.out w5 hb5
  have HB5 := Hid.mk' hb5
  clear hb5
  rcases hE with ⟨rfl, hk⟩ | ⟨rfl, hk⟩
  · clear HB2 hk
    go_wp2_with (first
      | (go_at_call 29; refine (fdue_nil _ _).mono ?_; rintro r w6 ⟨rfl, rfl⟩)
      | (go_at_call 34; refine (fnames_nil _).mono ?_; rintro r w6 ⟨rfl, rfl⟩)
      | (go_at_call 35; refine (fstates_nil _).mono ?_; rintro r w6 ⟨rfl, rfl⟩)
      | (go_at_call 18; refine (fcap_nil _).mono ?_; rintro r w6 ⟨rfl, rfl⟩)
      | (go_at_call 28; refine (fleaves_nil _ _).mono ?_; rintro r w7 ⟨rfl, hb7⟩; have hb7' := HB5.out.trans (hb7.mono HB5.out.size); have HB7 := Hid.mk' hb7'; clear b0 b1 b2 b3 y0 y1 y2 y3; obtain ⟨⟨b0, b1, b2, b3⟩, y0, y1, y2, y3⟩ := HY.out w7 hb7'; clear hb7 hb7')
      | (go_at_call 24; refine (fahead_nil _ _).mono ?_; rintro r w8 ⟨rfl, rfl⟩))
    go_ret
    refine ⟨rfl, ?_⟩
    rw [HQ.out]
    exact HB0.out.trans (HB7.out.mono (by have := HQ.out; have := HB0.out.size; omega))
  · have hk2 : decide ((4 : Int) < kindI kd) = true := decide_eq_true hk
    clear HB2 hk
    go_wp2_with (first
      | (go_at_call 19; refine (kind_step kd n (.string x) (.slice ma ml mc) w5).mono ?_; rintro r w6 ⟨rfl, hb6⟩; have hb6' := HB5.out.trans (hb6.mono HB5.out.size); have HB6 := Hid.mk' hb6'; clear b0 b1 b2 b3 y0 y1 y2 y3; obtain ⟨⟨b0, b1, b2, b3⟩, y0, y1, y2, y3⟩ := HY.out w6 hb6'; clear hb6 hb6')
      | (go_at_call 29; refine (fdue_nil _ _).mono ?_; rintro r w6 ⟨rfl, rfl⟩)
      | (go_at_call 34; refine (fnames_nil _).mono ?_; rintro r w6 ⟨rfl, rfl⟩)
      | (go_at_call 35; refine (fstates_nil _).mono ?_; rintro r w6 ⟨rfl, rfl⟩)
      | (go_at_call 18; refine (fcap_nil _).mono ?_; rintro r w6 ⟨rfl, rfl⟩)
      | (go_at_call 28; refine (fleaves_nil _ _).mono ?_; rintro r w7 ⟨rfl, hb7⟩; have hb7' := HB6.out.trans (hb7.mono HB6.out.size); have HB7 := Hid.mk' hb7'; clear b0 b1 b2 b3 y0 y1 y2 y3; obtain ⟨⟨b0, b1, b2, b3⟩, y0, y1, y2, y3⟩ := HY.out w7 hb7'; clear hb7 hb7')
      | (go_at_call 24; refine (fahead_nil _ _).mono ?_; rintro r w8 ⟨rfl, rfl⟩))
    go_ret
    refine ⟨rfl, ?_⟩
    rw [HQ.out]
    exact HB0.out.trans (HB7.out.mono (by have := HQ.out; have := HB0.out.size; omega))
end Go.Proofs.YtmlkpfkeeifgeaaDoor
