/-
  What Take does. Conditions: the front lies where it is said to lie; what always holds of one holds of it.
-/
import Derived.Test.YtegjaoaoiojhfaaDoorFour
namespace Go.Proofs.YtegjaoaoiojhfaaDoor
open Go.ChangeShapes Go.WideShapes Go.ChangeAt Go.RowKit

theorem below_drew {B : Nat} {w w' : World} (h : Below B w w') : Below B w w'.drew := below_drewN h 1
section
variable {w : World} {A : Nat → Prop} {g : Nat} {s : Ft}

set_option maxHeartbeats 2000000 in
set_option maxRecDepth 100000 in
/-- A frame that is not to be held. -/
theorem take_other (h : FIn w A g s) (k : Int) (d : ByteArray) (X W : Int) (hX : onx s.st k = X) (hW : onw s.st k = W) (h3 : W ≠ 3) :
    Calls Tryd.prog 14 #[.pointer (some ⟨g, 0, none⟩), .agg #[.int .i64 k, .string d]] w fun e w' => e = .returned (.int .i64 W) ∧ FIn w' A g (enT X s) ∧ Keep A w w' := by
  have hb1 : Below w.heap.size w (w.alloc (.cells #[.int .i64 k, .string d] 31)) := (Below.refl _ w).alloc (Nat.le_refl _) _
  obtain ⟨x0, x1, hq⟩ := blk2 (heap_alloc_new w (.cells #[.int .i64 k, .string d] 31))
  have hs := state_w (h.below hb1).drew
  have ho := on_any s.st k _ (h.below hb1).drew.tabs
  rw [hX, hW] at ho
  have HF : Hid (FIn _ A g s) := (h.below hb1).drew
  have HK : Hid (Keep A w _) := (keep_below (A := A) hb1).drew
  have hb3 : (W == 3) = false := by simpa using h3
  generalize s.st = S at *
  clear h hb1 hX hW h3
  go_enter Tryd.func14, Tryd.ntmps14
  go_upto_region 1 with fail
  generalize w.alloc (.cells #[.int .i64 k, .string d] 31) = w1 at *
  generalize w.heap.size = q at *
  go_region_held3 (fun w' => w'.cell? ⟨q, 0, none⟩ = some (.int .i64 k)) (first | assumption | exact (hb2.cell (p := ⟨q, 0, none⟩) hq).trans (by assumption) | go_keep)
    (first
      | (go_at_call 19; refine hs.mono ?_; rintro e w' ⟨rfl, hw'⟩; subst w')
      | (go_at_call 21; refine ho.mono ?_; rintro e w2 ⟨rfl, hb2⟩))
  have he := enter_w (HF.out.below hb2) X
  have HK2 : Hid (Keep A w w2) := HK.out.trans (keep_below hb2)
  clear hs ho hb2 HF HK
  go_wp2_with (go_at_call 28; refine he.mono ?_; rintro e w3 ⟨rfl, hf, hk⟩)
  go_ret
  exact ⟨rfl, hf, HK2.out.trans hk⟩

set_option maxHeartbeats 2000000 in
set_option maxRecDepth 100000 in
/-- A frame that would be held, where there is no room. -/
theorem take_full (h : FIn w A g s) (k : Int) (d : ByteArray) (X Y V : Int) (hX : onx s.st k = X) (hW : onw s.st k = 3) (hn : s.hl.length = 4) (hY : lnx s.st 0 = Y) (hV : lwh s.st 0 = V) (h3 : V ≠ 3) :
    Calls Tryd.prog 14 #[.pointer (some ⟨g, 0, none⟩), .agg #[.int .i64 k, .string d]] w fun e w' => e = .returned (.int .i64 V) ∧ FIn w' A g (enT Y s) ∧ Keep A w w' := by
  have hb1 : Below w.heap.size w (w.alloc (.cells #[.int .i64 k, .string d] 31)) := (Below.refl _ w).alloc (Nat.le_refl _) _
  obtain ⟨x0, x1, hq⟩ := blk2 (heap_alloc_new w (.cells #[.int .i64 k, .string d] 31))
  have hs := state_w (h.below hb1).drew
  have ho := on_any s.st k _ (h.below hb1).drew.tabs
  rw [hX, hW] at ho
  have HL : Hid (∀ w' : World, Tabs w' → Calls Tryd.prog 27 #[.int .i64 s.st, .int .i64 0] w' fun e w'' => e = .returned (.tuple #[.int .i64 Y, .int .i64 V]) ∧ Below w'.heap.size w' w'') := fun w' ht => by rw [← hY, ← hV]; exact lead_any s.st 0 w' ht (by decide) (by decide)
  have HS : Hid (∀ w' : World, FIn w' A g s → Calls Tryd.prog 19 #[.pointer (some ⟨g, 0, none⟩)] w' fun e w'' => e = .returned (.int .i64 s.st) ∧ w'' = w') := fun w' h => state_w h
  have HF : Hid (FIn _ A g s) := (h.below hb1).drew
  have HK : Hid (Keep A w _) := (keep_below (A := A) hb1).drew
  have hb3 : (V == 3) = false := by simpa using h3
  generalize s.st = S at *
  clear h hb1 hX hW h3 hY hV
  go_enter Tryd.func14, Tryd.ntmps14
  go_upto_region 1 with fail
  generalize w.alloc (.cells #[.int .i64 k, .string d] 31) = w1 at *
  generalize w.heap.size = q at *
  go_region_held3 (fun w' => w'.cell? ⟨q, 0, none⟩ = some (.int .i64 k)) (first | assumption | exact (hb2.cell (p := ⟨q, 0, none⟩) hq).trans (by assumption) | go_keep)
    (first
      | (go_at_call 19; refine hs.mono ?_; rintro e w' ⟨rfl, hw'⟩; subst w')
      | (go_at_call 21; refine ho.mono ?_; rintro e w2 ⟨rfl, hb2⟩))
  have h2 := HF.out.below hb2
  have hl2 := held_w h2 4 hn
  have hs2 := HS.out _ h2
  have ho2 := HL.out _ h2.tabs
  have HF2 := Hid.mk' h2
  have HK2 : Hid (Keep A w w2) := HK.out.trans (keep_below hb2)
  clear hs ho hb2 HF HK h2 HS HL hn
  go_wp2_with (first
    | (go_at_call 20; refine hl2.mono ?_; rintro e w' ⟨rfl, hw'⟩; subst w')
    | (go_at_call 19; refine hs2.mono ?_; rintro e w' ⟨rfl, hw'⟩; subst w')
    | (go_at_call 27; refine ho2.mono ?_; rintro e w3 ⟨rfl, hb3'⟩; have he := enter_w (HF2.out.below hb3') Y; have hk3 := keep_below (A := A) hb3')
    | (go_at_call 28; refine he.mono ?_; rintro e w4 ⟨rfl, hf, hk⟩))
  go_ret
  exact ⟨rfl, hf, HK2.out.trans (hk3.trans hk)⟩

set_option maxHeartbeats 2000000 in
set_option maxRecDepth 100000 in
/-- A frame that is held. -/
theorem take_hold (h : FIn w A g s) (k : Int) (d : ByteArray) (X : Int) (hX : onx s.st k = X) (hW : onw s.st k = 3) (n : Nat) (hn : s.hl.length = n) (hn4 : n < 4) :
    Calls Tryd.prog 14 #[.pointer (some ⟨g, 0, none⟩), .agg #[.int .i64 k, .string d]] w fun e w' => e = .returned (.int .i64 3) ∧ FIn w' A g (enT X ⟨s.st, s.hl ++ [⟨k, d⟩]⟩) ∧ Keep A w w' := by
  have hb1 : Below w.heap.size w (w.alloc (.cells #[.int .i64 k, .string d] 31)) := (Below.refl _ w).alloc (Nat.le_refl _) _
  obtain ⟨x0, x1, hq⟩ := blk2 (heap_alloc_new w (.cells #[.int .i64 k, .string d] 31))
  have hs := state_w (h.below hb1).drew
  have ho := on_any s.st k _ (h.below hb1).drew.tabs
  rw [hX, hW] at ho
  have HF : Hid (FIn _ A g s) := (h.below hb1).drew
  have HK : Hid (Keep A w _) := (keep_below (A := A) hb1).drew
  have hb4 : ((n : Int) == 4) = false := by simp; omega
  generalize hSS : s.st = S at *
  have HS : Hid (s.st = S) := hSS
  clear hSS h hb1 hX hW
  go_enter Tryd.func14, Tryd.ntmps14
  go_upto_region 1 with fail
  generalize w.alloc (.cells #[.int .i64 k, .string d] 31) = w1 at *
  generalize w.heap.size = q at *
  go_region_held3 (fun w' => w'.cell? ⟨q, 0, none⟩ = some (.int .i64 k)) (first | assumption | exact (hb2.cell (p := ⟨q, 0, none⟩) hq).trans (by assumption) | go_keep)
    (first
      | (go_at_call 19; refine hs.mono ?_; rintro e w' ⟨rfl, hw'⟩; subst w')
      | (go_at_call 21; refine ho.mono ?_; rintro e w2 ⟨rfl, hb2⟩))
  have h2 := HF.out.below hb2
  have hl2 := held_w h2 n hn
  have hx0 := (hb2.cell (p := ⟨q, 0, none⟩) hq).trans x0
  have hx1 := (hb2.cell (p := ⟨q, 1, none⟩) hq).trans x1
  have HK2 : Hid (Keep A w w2) := HK.out.trans (keep_below hb2)
  have HF2 := Hid.mk' h2
  clear hs ho hb2 HF HK x0 x1 h2
  go_wp2_with (go_at_call 20; refine hl2.mono ?_; rintro e w' ⟨rfl, hw'⟩; subst w')
  obtain ⟨a, c, l, hc, hra, q1, q2, hBk, HP⟩ := HF2.out.push
  have hlt := HF2.out.lt
  have hb0 : Below w2.heap.size w2 ((w2.alloc (.cells #[.int .i64 k, .string d] 31)).drew) := below_drewN ((Below.refl _ w2).alloc (Nat.le_refl _) _) 1
  have hra0 : RIn ((w2.alloc (.cells #[.int .i64 k, .string d] 31)).drew) (fun k => A k ∨ k = g) a c l := hra.move (fun b y hA hy => ⟨hb0.block b (lt_of_heap hy), hA⟩)
  have u0 : ((w2.alloc (.cells #[.int .i64 k, .string d] 31)).drew).cell? ⟨w2.heap.size, 0, none⟩ = some (.int .i64 k) := (blk2 (heap_alloc_new w2 (.cells #[.int .i64 k, .string d] 31))).1
  have u1 : ((w2.alloc (.cells #[.int .i64 k, .string d] 31)).drew).cell? ((⟨w2.heap.size, 0, none⟩ : Addr).add 1) = some (.string d) := (blk2 (heap_alloc_new w2 (.cells #[.int .i64 k, .string d] 31))).2.1
  have hBs : ∀ j, (A j ∨ j = g) → j < ((w2.alloc (.cells #[.int .i64 k, .string d] 31)).drew).heap.size := fun j hj => Nat.lt_of_lt_of_le (hBk j hj) hb0.size
  have HKK := Hid.mk' (fun a' c' l' w3 => HP _ w3 a' c' l' ⟨k, d⟩ hb0)
  have hlen : n ≤ 1000 := by omega
  clear HP hra hBk hb0 hl2
  rw [hn] at q1 q2 hc HKK
  go_region_law (first
    | ((refine step_one rfl _ _ rfl (fun k => A k ∨ k = g) a n c l s.hl ⟨k, d⟩ ⟨w2.heap.size, 0, none⟩ 1 rfl rfl hra0 hn q1 q2 hlen u0 u1 hBs ?_; intro a' c' l' w3 y1 y2 y3 y4; have hkk := HKK.out a' c' l' w3 y1 y2 y3 y4; have d3 := hkk.1; have f3 := hkk.2.1)))
  all_goals (
    have he := enter_w hkk.2.2.1 X
    have HK3 := Hid.mk' (HK2.out.trans hkk.2.2.2)
    clear hkk HKK y1 y2 y3 y4 d3 f3 hra0 u0 u1 hBs hc q1 q2
    go_wp2_with (go_at_call 28; refine he.mono ?_; rintro e w4 ⟨rfl, hf, hk⟩)
    go_ret
    exact ⟨rfl, hf, HK3.out.trans hk⟩)
end

end Go.Proofs.YtegjaoaoiojhfaaDoor
