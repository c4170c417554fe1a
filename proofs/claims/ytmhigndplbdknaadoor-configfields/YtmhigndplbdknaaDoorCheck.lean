/-
  What Check, and the document's Check, answer, each as a contract: the place of the first field that may not be, and the error; they turn nothing that was there. Condition: a config has 15 numbers.
-/
import Derived.Test.YtmhigndplbdknaaDoorMem
namespace Go.Proofs.YtmhigndplbdknaaDoor
open Go.ChangeShapes Go.WideShapes Go.ChangeAt Go.RowKit

/-- The bounds of each place of a config, as cells. -/
def bcl (l : List Int) : Array Value := bcs (l.getD 6 0) (l.getD 1 0)
theorem bcl_get (l : List Int) (j : Nat) (h : j < 15) : (bcl l)[j * 2]? = some (.int .i64 (loOf j)) ∧ (bcl l)[j * 2 + 1]? = some (.int .i64 (hiOf l j)) := bcs_get l j h
theorem bounds_l (l : List Int) (hl : l.length = 15) (w : World) :
    Calls Tryd.prog 23 #[.agg (cc l)] w fun e w' => e = .returned (.agg (bcl l)) ∧ Below w.heap.size w w' := bounds_any l hl w
theorem bcl_info (l : List Int) : (Tryd.prog.info? 49).map (·.size) = some (bcl l).size := by kernel_rfl
theorem bcl_one (l : List Int) : (bcl l).all (·.oneCell') = true := by kernel_rfl
theorem cell_of_heap {w w' : World} (h : w'.heap = w.heap) (p : Addr) : w'.cell? p = w.cell? p := World.cell?_of_block (w := w) (by rw [h])
theorem below_drewN {B : Nat} {a w : World} (h : Below B a w) (q : Nat) : Below B a (w.drewN q) := ⟨h.os, h.tape, h.output, h.size, h.block⟩
theorem bad_lo {l : List Int} {j : Nat} (h : l.getD j 0 < loOf j) : bad l j = true := by simp only [bad, decide_eq_true h, Bool.true_or]
theorem bad_hi {l : List Int} {j : Nat} (h : hiOf l j < l.getD j 0) : bad l j = true := by simp only [bad, decide_eq_true h, Bool.or_true]
theorem bad_no {l : List Int} {j : Nat} (h1 : ¬ l.getD j 0 < loOf j) (h2 : ¬ hiOf l j < l.getD j 0) : bad l j = false := by simp only [bad, decide_eq_false h1, decide_eq_false h2, Bool.or_false]
theorem tup2 {a b a' b' : Int} (h1 : a = a') (h2 : b = b') : Ending.returned (.tuple #[.int .i64 a, .int .i64 b]) = .returned (.tuple #[.int .i64 a', .int .i64 b']) := by rw [h1, h2]

set_option maxRecDepth 100000 in
set_option maxHeartbeats 2000000 in
theorem check_any (l : List Int) (hl : l.length = 15) (w : World) :
    Calls Tryd.prog 9 #[.agg (cc l)] w fun e w' => e = .returned (.tuple #[.int .i64 (ckN l), .int .i64 (ckE l)]) ∧ Below w.heap.size w w' := by
  have HA : Hid ((w.alloc (.cells (cc l) 23)).heap[w.heap.size]? = some (.cells (cc l) 23 (0, 0))) := heap_alloc_new _ _
  go_enter Tryd.func9, Tryd.ntmps9
  go_wp2_with (first
    | (refine wl_load hl rfl _ rfl rfl HA.out ?_))
  refine (bounds_l l hl _).mono ?_
  rintro e w2 ⟨rfl, hb2⟩
  have hA2 := (hb2.block w.heap.size (by simp)).trans HA.out
  have hB2 : Below w.heap.size w w2 := ((Below.refl _ _).alloc (Nat.le_refl _) _).trans (hb2.mono (by simp))
  have HZ : Hid ((w2.alloc (.cells #[.int .i64 0, .int .i64 0, .int .i64 0, .int .i64 0, .int .i64 0, .int .i64 0, .int .i64 0, .int .i64 0, .int .i64 0, .int .i64 0, .int .i64 0, .int .i64 0, .int .i64 0, .int .i64 0, .int .i64 0, .int .i64 0, .int .i64 0, .int .i64 0, .int .i64 0, .int .i64 0, .int .i64 0, .int .i64 0, .int .i64 0, .int .i64 0, .int .i64 0, .int .i64 0, .int .i64 0, .int .i64 0, .int .i64 0, .int .i64 0] 49)).heap[w2.heap.size]? = some (.cells #[.int .i64 0, .int .i64 0, .int .i64 0, .int .i64 0, .int .i64 0, .int .i64 0, .int .i64 0, .int .i64 0, .int .i64 0, .int .i64 0, .int .i64 0, .int .i64 0, .int .i64 0, .int .i64 0, .int .i64 0, .int .i64 0, .int .i64 0, .int .i64 0, .int .i64 0, .int .i64 0, .int .i64 0, .int .i64 0, .int .i64 0, .int .i64 0, .int .i64 0, .int .i64 0, .int .i64 0, .int .i64 0, .int .i64 0, .int .i64 0] 49 (0, 0))) := heap_alloc_new _ _
  have hs : w.heap.size < w2.heap.size := by have := hb2.size; simp at this; omega
  have H2 : Hid (w2.heap[w.heap.size]? = some (.cells (cc l) 23 (0, 0)) ∧ Below w.heap.size w w2 ∧ w.heap.size < w2.heap.size) := ⟨hA2, hB2, hs⟩
  clear hb2 HA hA2 hB2 hs
  go_wp2_with (first
    | (refine wpList_store_row rfl 49 _ _ rfl w2.heap.size (bcl l) rfl rfl 49 _ HZ.out (bcl_info l) rfl (bcl_one l) ?_))
  refine (fields_any _ _).mono ?_
  rintro e w3 ⟨rfl, hb3⟩
  obtain ⟨hA2, hB2, hs⟩ := H2.out
  have hA3 : w3.heap[w.heap.size]? = some (.cells (cc l) 23 (0, 0)) := by
    rw [hb3.block w.heap.size (by simp; omega), setRow_other _ _ _ _ (by omega), Below.heap_alloc _ _ _ hs]
    exact hA2
  have hC3 : w3.heap[w2.heap.size]? = some (.cells (bcl l) 49 (0, 0)) := by
    rw [hb3.block w2.heap.size (by simp)]
    exact setRow_heap _ _ _ _ _ _ HZ.out
  have hB3 : Below w.heap.size w w3 := (below_setRow (hB2.alloc (by omega) _) (by omega) _).trans (hb3.mono (by simp; omega))
  generalize w2.heap.size = gb at *
  have H3 : Hid (w3.heap[w.heap.size]? = some (.cells (cc l) 23 (0, 0)) ∧ w3.heap[gb]? = some (.cells (bcl l) 49 (0, 0)) ∧ Below w.heap.size w w3) := ⟨hA3, hC3, hB3⟩
  clear hA2 hB2 hs hA3 hC3 hB3 hb3 H2 HZ
  go_wp2
  go_loopw [10] (fun vi wr => ∃ i : Nat, vi = .int .i64 i ∧ i ≤ 15 ∧ fb l 15 = fb l (15 - i) ∧ wr.heap = w3.heap ∧ Below w.heap.size w wr) (fun vi _ => 15 - (intOf vi).toNat)
  case atStart => exact ⟨0, rfl, by omega, rfl, rfl, H3.out.2.2⟩
  case round =>
    obtain ⟨i, rfl, hi, hf, hh, hb⟩ := hrel
    have HF : Hid (fb l 15 = fb l (15 - i) ∧ wr.heap = w3.heap ∧ Below w.heap.size w wr) := ⟨hf, hh, hb⟩
    clear hf hb
    by_cases hc : i < 15
    · have x1 : wr.cell? ⟨w.heap.size, i, none⟩ = some (.int .i64 (l.getD i 0)) := by
        rw [cell_of_heap hh, cell_of_row _ _ _ _ _ _ H3.out.1, cc_get l i (by omega)]
      have x2 : wr.cell? ⟨gb, i * 2, none⟩ = some (.int .i64 (loOf i)) := by
        rw [cell_of_heap hh, cell_of_row _ _ _ _ _ _ H3.out.2.1, (bcl_get l i hc).1]
      have x3 : wr.cell? ⟨gb, i * 2 + 1, none⟩ = some (.int .i64 (hiOf l i)) := by
        rw [cell_of_heap hh, cell_of_row _ _ _ _ _ _ H3.out.2.1, (bcl_get l i hc).2]
      have hidx := run_idx w.heap.size i hc wr
      have b1 := Hid.mk' (@bad_lo l i)
      have b2 := Hid.mk' (@bad_hi l i)
      have b3 := Hid.mk' (@bad_no l i)
      clear hh hl
      generalize l.getD i 0 = X at *
      generalize loOf i = L at *
      generalize hiOf l i = H at *
      by_cases hlo : X < L
      · go_wp2_with fail
        go_quiet (fail)
        go_wp2
        go_ret2
        obtain ⟨f1, f2, f3⟩ := HF.out
        obtain ⟨k1, k2⟩ := ck_bad hc f1 (b1.out hlo)
        exact ⟨tup2 k1.symm k2.symm, below_drewN f3 _⟩
      · have hd : decide (X < L) = false := decide_eq_false hlo
        by_cases hhi : H < X
        · go_wp2_with fail
          go_quiet (fail)
          go_wp2
          go_ret2
          obtain ⟨f1, f2, f3⟩ := HF.out
          obtain ⟨k1, k2⟩ := ck_bad hc f1 (b2.out hhi)
          exact ⟨tup2 k1.symm k2.symm, below_drewN f3 _⟩
        · have hd2 : decide (H < X) = false := decide_eq_false hhi
          go_wp2_with fail
          go_quiet (fail)
          go_wp2
          obtain ⟨f1, f2, f3⟩ := HF.out
          exact ⟨⟨i + 1, by simp, by omega, fb_next hc f1 (b3.out hlo hhi), f2, below_drewN f3 _⟩, by simp [intOf]; omega⟩
    · obtain rfl : i = 15 := by omega
      go_wp2
      go_ret2
      obtain ⟨f1, f2, f3⟩ := HF.out
      obtain ⟨k1, k2⟩ := ck_ok f1
      exact ⟨tup2 k1.symm k2.symm, f3⟩

end Go.Proofs.YtmhigndplbdknaaDoor
