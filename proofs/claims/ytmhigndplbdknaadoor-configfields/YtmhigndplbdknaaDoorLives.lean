/-
  The document's example answers true. Condition: what the program's text lays reads as it is laid.
-/
import Derived.Test.YtmhigndplbdknaaDoorText
namespace Go.Proofs.YtmhigndplbdknaaDoor
open Go.ChangeShapes Go.WideShapes Go.ChangeAt Go.RowKit

def exT : List UInt8 := [54, 52, 32, 50, 32, 52, 32, 51, 32, 49, 48, 32, 50, 48, 32, 49, 48, 48, 32, 49, 48, 32, 51, 48, 32, 49, 32, 53, 48, 32, 51, 32, 52, 48, 32, 53, 32, 50]
def exL : List Int := [64, 2, 4, 3, 10, 20, 100, 10, 30, 1, 50, 3, 40, 5, 2]
theorem ex_txt : txt exL = exT := by
  simp [txt, exL, exT, Lib.join, List.intercalate, Lib.itoa, Lib.decDigits]
theorem ex_ck : ckN exL = -1 ∧ ckE exL = 0 := by decide
theorem ex_rd : rdE exT = 0 ∧ rdL exT = exL := by
  have := back_may (l := exL) rfl ex_ck.2
  rwa [ex_txt] at this
theorem ex_ok : ok64 exL := by
  intro v hv
  simp only [exL, List.mem_cons, List.not_mem_nil, or_false] at hv
  omega
theorem ex_nm : nm 14 = ⟨#[103, 117, 97, 114, 100]⟩ := by decide

set_option maxRecDepth 100000 in
set_option maxHeartbeats 2000000 in
theorem lives_any (w : World) (hE : Env w) :
    Calls Tryd.prog 8 #[] w fun e w' => e = .returned (.bool true) ∧ Below w.heap.size w w' := by
  have hrd := read_any exT (by decide) w hE
  rw [ex_rd.1, ex_rd.2] at hrd
  go_enter Tryd.func8, Tryd.ntmps8
  go_wp2_with fail
  refine hrd.mono ?_
  rintro e w2 ⟨rfl, hb2⟩
  clear hrd
  have HN : Hid ((w2.alloc (.cells (cc exL) 23)).heap[w2.heap.size]? = some (.cells (cc exL) 23 (0, 0))) := heap_alloc_new _ _
  go_wp2_with (first
    | (refine wl_new (l := exL) rfl rfl _ _ rfl rfl rfl rfl ?_)
    | (refine wl_load (l := exL) rfl rfl _ rfl rfl HN.out ?_))
  refine (check_any exL rfl _).mono ?_
  rintro e w3 ⟨rfl, hb3⟩
  rw [ex_ck.1, ex_ck.2]
  have hN3 := keep_blk hb3 HN.out
  have hB3 : Below w.heap.size w w3 := (hb2.alloc hb2.size _).trans (hb3.mono (by have := hb2.size; simp; omega))
  have hx : ∀ j, j < 15 → w3.cell? ⟨w2.heap.size, j, none⟩ = some (.int .i64 (exL.getD j 0)) := fun j hj => by
    rw [cell_of_row _ _ _ _ _ _ hN3, cc_get exL j hj]
  have x0 := hx 0 (by omega)
  have x1 := hx 1 (by omega)
  have x2 := hx 2 (by omega)
  have x3 := hx 3 (by omega)
  have x4 := hx 4 (by omega)
  have x5 := hx 5 (by omega)
  have x6 := hx 6 (by omega)
  have x7 := hx 7 (by omega)
  have x8 := hx 8 (by omega)
  have x9 := hx 9 (by omega)
  have x10 := hx 10 (by omega)
  have x11 := hx 11 (by omega)
  have x12 := hx 12 (by omega)
  have x13 := hx 13 (by omega)
  have x14 := hx 14 (by omega)
  have ht := text_any exL rfl ex_ok w3 (hE.below hB3)
  rw [ex_txt] at ht
  have HT : Hid (Calls Tryd.prog 14 #[.agg (cc exL)] w3 fun e w' => e = .returned (.string ⟨#[54, 52, 32, 50, 32, 52, 32, 51, 32, 49, 48, 32, 50, 48, 32, 49, 48, 48, 32, 49, 48, 32, 51, 48, 32, 49, 32, 53, 48, 32, 51, 32, 52, 48, 32, 53, 32, 50]⟩) ∧ Below w3.heap.size w3 w') := ht
  have HE := Hid.mk' hE
  have HB := Hid.mk' hB3
  have HM : Hid (∀ w, Env w → Calls Tryd.prog 16 #[.int .i64 14] w fun e w' => e = .returned (.string ⟨#[103, 117, 97, 114, 100]⟩) ∧ w' = w) := fun w h => by
    have := name_any 14 w h
    rwa [ex_nm] at this
  clear hx hb2 hb3 HN hN3 ht hE hB3
  simp only [exL, List.getD_cons_succ, List.getD_cons_zero] at x0 x1 x2 x3 x4 x5 x6 x7 x8 x9 x10 x11 x12 x13 x14
  go_wp2_with (first
    | (go_at_call 14; refine HT.out.mono ?_; rintro e w4 ⟨rfl, hb4⟩)
    | (go_at_call 16; refine (HM.out _ ((HE.out.below HB.out).below hb4)).mono ?_; rintro e w' ⟨rfl, hw'⟩; obtain rfl : w4 = w' := hw'.symm))
  go_ret
  exact ⟨rfl, HB.out.trans (hb4.mono HB.out.size)⟩

end Go.Proofs.YtmhigndplbdknaaDoor
