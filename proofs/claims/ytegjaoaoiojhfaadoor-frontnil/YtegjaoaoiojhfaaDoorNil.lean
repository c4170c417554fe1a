/-
  FrontNil's walk: of a front that isn't there every call tells that it is closed. Condition: the tables read as they are laid.
-/
import Derived.Test.YtegjaoaoiojhfaaDoorLives
import Derived.Deep.RegionHeld3
namespace Go.Proofs.YtegjaoaoiojhfaaDoor
open Go.ChangeShapes Go.WideShapes Go.ChangeAt Go.RowKit

set_option maxHeartbeats 2000000 in
set_option maxRecDepth 100000 in
theorem nil_walk (k : Int) (d : ByteArray) (n : Int) (w : World) (h : Tabs w) :
    Calls Tryd.prog 7 #[.agg #[.int .i64 k, .string d], .int .i64 n] w fun e w' => e = .returned (.bool true) ∧ Below w.heap.size w w' := by
  have hb1 : Below w.heap.size w (w.alloc (.cells #[.int .i64 k, .string d] 31)) := (Below.refl _ w).alloc (Nat.le_refl _) _
  obtain ⟨x0, x1, hq⟩ := blk2 (heap_alloc_new w (.cells #[.int .i64 k, .string d] 31))
  have hl := lives_any _ (h.below hb1)
  have HT : Hid (Tabs (w.alloc (.cells #[.int .i64 k, .string d] 31))) := h.below hb1
  have HB := Hid.mk' hb1
  clear h hb1
  go_enter Tryd.func7, Tryd.ntmps7
  go_upto_region 1 with fail
  generalize w.alloc (.cells #[.int .i64 k, .string d] 31) = w1 at *
  generalize hqq : w.heap.size = q at *
  have HQ : Hid (w.heap.size = q) := hqq
  clear hqq
  go_wp2_with fail
  refine hl.mono ?_
  rintro e w2 ⟨rfl, hb2⟩
  have ht2 := HT.out.below hb2
  have y0 := (hb2.cell (p := ⟨q, 0, none⟩) hq).trans x0
  have y1 := (hb2.cell (p := ⟨q, 1, none⟩) hq).trans x1
  have HB2 : Hid (Below q w w2) := HB.out.trans (hb2.mono (Nat.le_of_lt hq))
  have hq2 := Nat.lt_of_lt_of_le hq hb2.size
  have HT2 := Hid.mk' ht2
  clear hb2 ht2 x0 x1 HT HB hl hq
  go_wp2_with fail
  refine (next_nil w2).mono ?_
  rintro e w3 ⟨rfl, hb3⟩
  have ht3 := HT2.out.below hb3
  have x0 := (hb3.cell (p := ⟨q, 0, none⟩) hq2).trans y0
  have x1 := (hb3.cell (p := ⟨q, 1, none⟩) hq2).trans y1
  have HB3 : Hid (Below q w w3) := HB2.out.trans (hb3.mono (Nat.le_of_lt hq2))
  have hq3 := Nat.lt_of_lt_of_le hq2 hb3.size
  have HT3 := Hid.mk' ht3
  clear hb3 ht3 y0 y1 HT2 HB2 hq2
  go_upto_region 5 with fail
  have hb4 : Below w3.heap.size w3 (w3.alloc (.cells #[.int .i64 0, .string ⟨#[]⟩] 31)) := (Below.refl _ w3).alloc (Nat.le_refl _) _
  have HT4 := Hid.mk' (HT3.out.below hb4)
  have y0 := (hb4.cell (p := ⟨q, 0, none⟩) hq3).trans x0
  have y1 := (hb4.cell (p := ⟨q, 1, none⟩) hq3).trans x1
  have HB4 : Hid (Below q w _) := HB3.out.trans (hb4.mono (Nat.le_of_lt hq3))
  have hq4 := Nat.lt_of_lt_of_le hq3 hb4.size
  clear hb4 HT3 HB3 hq3 x0 x1
  generalize w3.alloc (.cells #[.int .i64 0, .string ⟨#[]⟩] 31) = w4 at *
  go_wp2_with fail
  refine (take_nil k d w4 HT4.out).mono ?_
  rintro e w5 ⟨rfl, hb5⟩
  have HB5 : Hid (Below q w w5) := HB4.out.trans (hb5.mono (Nat.le_of_lt hq4))
  have HQ5 : Hid (q ≤ w5.heap.size) := Nat.le_of_lt (Nat.lt_of_lt_of_le hq4 hb5.size)
  clear hb5 y0 y1 HT4 HB4 hq4
  go_wp2_with fail
  refine (call_nil _ w5).mono ?_
  rintro e w6 ⟨rfl, hb6⟩
  have HB6 : Hid (Below q w w6) := HB5.out.trans (hb6.mono HQ5.out)
  clear hb6
  go_wp2_with (first
    | (go_at_call 19; refine (state_nil _).mono ?_; rintro e w' ⟨rfl, hw'⟩; subst w')
    | (go_at_call 20; refine (held_nil _).mono ?_; rintro e w' ⟨rfl, hw'⟩; subst w'))
  go_ret
  exact ⟨rfl, by rw [HQ.out]; exact HB6.out⟩

end Go.Proofs.YtegjaoaoiojhfaaDoor
