/-
  What the document's Check answers, as a contract: the place of the first field that may not be, and the error; it turns nothing that was there. Condition: a config has 15 numbers.
-/
import Derived.Test.YtmhigndplbdknaaDoorCheck
namespace Go.Proofs.YtmhigndplbdknaaDoor
open Go.ChangeShapes Go.WideShapes Go.ChangeAt Go.RowKit

theorem heap_alloc3_new (w : World) (A B C : Obj) : (((w.alloc A).alloc B).alloc C).heap[w.heap.size + 1 + 1]? = some C := by
  have h := heap_alloc_new ((w.alloc A).alloc B) C
  have e : ((w.alloc A).alloc B).heap.size = w.heap.size + 1 + 1 := by simp
  rwa [e] at h

set_option maxRecDepth 100000 in
set_option maxHeartbeats 2000000 in
theorem rcheck_any (l : List Int) (hl : l.length = 15) (w : World) :
    Calls Tryd.prog 10 #[.agg (cc l)] w fun e w' => e = .returned (.tuple #[.int .i64 (ckN l), .int .i64 (ckE l)]) ∧ Below w.heap.size w w' := by
  have h6 := cc_get l 6 (by omega)
  have h1 := cc_get l 1 (by omega)
  obtain ⟨a, ha⟩ : ∃ a, l.getD 6 0 = a := ⟨_, rfl⟩
  obtain ⟨b, hb⟩ : ∃ b, l.getD 1 0 = b := ⟨_, rfl⟩
  have HH : Hid (∀ i, hiOf l i = (his a b).getD i 0) := by
    intro i
    unfold hiOf
    rw [ha, hb]
  rw [ha] at h6
  rw [hb] at h1
  clear ha hb
  have HA : Hid ((((w.alloc (.cells (cc l) 23)).alloc (.cells (cc los) 3)).alloc (.cells (cc (his a b)) 3)).heap[w.heap.size]? = some (.cells (cc l) 23 (0, 0))) := (Below.heap_alloc _ _ _ (by simp; omega)).trans (heap_alloc2_old _ _ _)
  go_enter Tryd.func10, Tryd.ntmps10
  go_wp2_with (first
    | (refine wl_load hl rfl _ rfl rfl HA.out ?_))
  refine (list_any l hl _).mono ?_
  rintro e w2 ⟨gl, rfl, hgl, hG, hb2⟩
  have H3 : Hid (w2.heap[gl]? = some (.cells (cc l) 3 (0, 0)) ∧ w2.heap[w.heap.size + 1]? = some (.cells (cc los) 3 (0, 0)) ∧ w2.heap[w.heap.size + 1 + 1]? = some (.cells (cc (his a b)) 3 (0, 0)) ∧ Below w.heap.size w w2) := by
    refine ⟨hG, ?_, ?_, ?_⟩
    · rw [hb2.block _ (by simp)]
      exact (Below.heap_alloc _ _ _ (by simp)).trans (heap_alloc2_new _ _ _)
    · rw [hb2.block _ (by simp)]
      exact heap_alloc3_new _ _ _ _
    · exact ((((Below.refl _ _).alloc (Nat.le_refl _) _).alloc (by simp) _).alloc (by simp; omega) _).trans (hb2.mono (by simp; omega))
  clear hG hb2 hgl HA h6 h1
  go_wp2
  go_loopw [7] (fun vi wr => ∃ i : Nat, vi = .int .i64 i ∧ i ≤ 15 ∧ fb l 15 = fb l (15 - i) ∧ wr.heap = w2.heap ∧ Below w.heap.size w wr) (fun vi _ => 15 - (intOf vi).toNat)
  case atStart => exact ⟨0, rfl, by omega, rfl, rfl, H3.out.2.2.2⟩
  case round =>
    obtain ⟨i, rfl, hi, hf, hh, hb⟩ := hrel
    have HF : Hid (fb l 15 = fb l (15 - i) ∧ wr.heap = w2.heap ∧ Below w.heap.size w wr) := ⟨hf, hh, hb⟩
    clear hf hb
    by_cases hc : i < 15
    · have x1 : wr.cell? ⟨gl, i, none⟩ = some (.int .i64 (l.getD i 0)) := by
        rw [cell_of_heap hh, cell_of_row _ _ _ _ _ _ H3.out.1, cc_get l i (by omega)]
      have x2 : wr.cell? ⟨w.heap.size + 1, i, none⟩ = some (.int .i64 (loOf i)) := by
        rw [cell_of_heap hh, cell_of_row _ _ _ _ _ _ H3.out.2.1, cc_get los i (by simpa [los] using hc)]
        rfl
      have x3 : wr.cell? ⟨w.heap.size + 1 + 1, i, none⟩ = some (.int .i64 (hiOf l i)) := by
        rw [cell_of_heap hh, cell_of_row _ _ _ _ _ _ H3.out.2.2.1, cc_get (his a b) i (by simpa [his] using hc), HH.out]
      have b1 := Hid.mk' (@bad_lo l i)
      have b2 := Hid.mk' (@bad_hi l i)
      have b3 := Hid.mk' (@bad_no l i)
      clear hh hl
      generalize l.getD i 0 = X at *
      generalize loOf i = L at *
      generalize hiOf l i = H at *
      have hi1 : (i : Int) < 15 := by omega
      by_cases hlo : X < L
      · go_wp2_with fail
        go_quiet (fail)
        go_wp2
        go_ret2
        obtain ⟨f1, f2, f3⟩ := HF.out
        obtain ⟨k1, k2⟩ := ck_bad hc f1 (b1.out hlo)
        exact ⟨tup2 k1.symm k2.symm, below_drewN f3 _⟩
      · have hd : decide (X < L) = false := decide_eq_false hlo
        by_cases hhi : H < X
        · go_wp2_with fail
          go_quiet (fail)
          go_wp2
          go_ret2
          obtain ⟨f1, f2, f3⟩ := HF.out
          obtain ⟨k1, k2⟩ := ck_bad hc f1 (b2.out hhi)
          exact ⟨tup2 k1.symm k2.symm, below_drewN f3 _⟩
        · have hd2 : decide (H < X) = false := decide_eq_false hhi
          go_wp2_with fail
          go_quiet (fail)
          go_wp2
          obtain ⟨f1, f2, f3⟩ := HF.out
          exact ⟨⟨i + 1, by simp, by omega, fb_next hc f1 (b3.out hlo hhi), f2, below_drewN f3 _⟩, by simp [intOf]; omega⟩
    · obtain rfl : i = 15 := by omega
      go_wp2
      go_ret2
      obtain ⟨f1, f2, f3⟩ := HF.out
      obtain ⟨k1, k2⟩ := ck_ok f1
      exact ⟨tup2 k1.symm k2.symm, f3⟩

end Go.Proofs.YtmhigndplbdknaaDoor
