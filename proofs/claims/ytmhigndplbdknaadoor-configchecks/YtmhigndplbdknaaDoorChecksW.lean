/-
  The walk of ConfigChecks: it returns true and turns nothing that was there. Conditions: a config of 15 numbers, each of which an int holds; what the program's text lays reads as it is laid.
-/
import Derived.Test.YtmhigndplbdknaaDoorBackW
import Derived.Test.YtmhigndplbdknaaDoorRText
import Derived.Test.YtmhigndplbdknaaDoorRCheck
import Derived.Deep.RegionHeld3
namespace Go.Proofs.YtmhigndplbdknaaDoor
open Go.ChangeShapes Go.WideShapes Go.ChangeAt Go.RowKit

/-- What stays while the config is asked. -/
structure CS (w : World) (l D : List Int) (gd gl : Nat) (w' : World) : Prop where
  c : w'.heap[w.heap.size]? = some (.cells (cc l) 23 (0, 0))
  d : w'.heap[gd]? = some (.cells (cc D) 23 (0, 0))
  s : w'.heap[gl]? = some (.cells (cc l) 3 (0, 0))
  bel : Below w.heap.size w w'
  env : Env w
  gle : w.heap.size ≤ gl
  gne : gd ≠ gl
theorem CS.keep {w : World} {l D : List Int} {gd gl : Nat} {w' w'' : World} (h : CS w l D gd gl w') (hb : Below w'.heap.size w' w'') : CS w l D gd gl w'' :=
  ⟨keep_blk hb h.c, keep_blk hb h.d, keep_blk hb h.s, h.bel.trans (hb.mono h.bel.size), h.env, h.gle, h.gne⟩
theorem CS.drew {w : World} {l D : List Int} {gd gl : Nat} {w' : World} (h : CS w l D gd gl w') : CS w l D gd gl w'.drew := ⟨h.c, h.d, h.s, h.bel.drew, h.env, h.gle, h.gne⟩

set_option maxRecDepth 100000 in
set_option maxHeartbeats 2000000 in
theorem checks_in (l : List Int) (hl : l.length = 15) (hk : ok64 l) (n : Nat) (hn15 : n < 15) (v : Int) (w : World) (hE : Env w) :
    Calls Tryd.prog 3 #[.agg (cc l), .int .i64 n, .int .i64 v] w fun e w' => e = .returned (.bool true) ∧ Below w.heap.size w w' := by
  have HA : Hid ((w.alloc (.cells (cc l) 23)).heap[w.heap.size]? = some (.cells (cc l) 23 (0, 0))) := heap_alloc_new _ _
  have HE := Hid.mk' hE
  have HK := Hid.mk' hk
  clear hE hk
  have hD : (l.set n v).length = 15 := by simpa using hl
  have hn0 : (0 : Int) ≤ (n : Int) := Int.natCast_nonneg _
  have hn1 : (n : Int) < 15 := by omega
  obtain ⟨X, hX⟩ : ∃ X, l.getD n 0 = X := ⟨_, rfl⟩
  have HFi : Hid (∀ w : World, Calls Tryd.prog 11 #[.agg (cc l), .int .i64 n] w fun e w' => e = .returned (.tuple #[.int .i64 X, .bool true]) ∧ Below w.heap.size w w') := fun w => by
    rw [← hX]
    exact field_in l hl n hn15 w
  have HXX := Hid.mk' hX
  clear hX
  go_enter Tryd.func3, Tryd.ntmps3
  go_wp2_with fail
  refine (lives_any _ (HE.out.below ((Below.refl _ _).alloc (Nat.le_refl _) _))).mono ?_
  rintro e w1 ⟨rfl, hb1⟩
  have H1 : Hid (w1.heap[w.heap.size]? = some (.cells (cc l) 23 (0, 0)) ∧ Below w.heap.size w w1) := ⟨keep_blk hb1 HA.out, ((Below.refl _ _).alloc (Nat.le_refl _) _).trans (hb1.mono (by simp))⟩
  clear hb1 HA
  go_wp2_with (first
    | (refine wl_load (t := 23) (fr := (0, 0)) hl rfl _ rfl rfl ?_ ?_; exact H1.out.1))
  refine (check_any l hl _).mono ?_
  rintro e w2 ⟨rfl, hb2⟩
  have H2 : Hid (w2.heap[w.heap.size]? = some (.cells (cc l) 23 (0, 0)) ∧ Below w.heap.size w w2) := ⟨keep_blk hb2 H1.out.1, H1.out.2.trans (hb2.mono H1.out.2.size)⟩
  clear hb2 H1
  go_wp2_with (first
    | (refine wl_load (t := 23) (fr := (0, 0)) hl rfl _ rfl rfl ?_ ?_; exact H2.out.1))
  refine (rcheck_any l hl _).mono ?_
  rintro e w3 ⟨rfl, hb3⟩
  have H3 : Hid (w3.heap[w.heap.size]? = some (.cells (cc l) 23 (0, 0)) ∧ Below w.heap.size w w3) := ⟨keep_blk hb3 H2.out.1, H2.out.2.trans (hb3.mono H2.out.2.size)⟩
  clear hb3 H2
  go_wp2_with (first
    | (refine wl_load (t := 23) (fr := (0, 0)) hl rfl _ rfl rfl ?_ ?_; exact H3.out.1))
  refine (HFi.out _).mono ?_
  rintro e w4 ⟨rfl, hb4⟩
  have H4 : Hid (w4.heap[w.heap.size]? = some (.cells (cc l) 23 (0, 0)) ∧ Below w.heap.size w w4) := ⟨keep_blk hb4 H3.out.1, H3.out.2.trans (hb4.mono H3.out.2.size)⟩
  clear hb4 H3
  go_wp2_with (first
    | (refine wl_load (t := 23) (fr := (0, 0)) hl rfl _ rfl rfl ?_ ?_; exact H4.out.1))
  refine (set_in l hl n hn15 v _).mono ?_
  rintro e w5 ⟨rfl, hb5⟩
  have H5 : Hid (w5.heap[w.heap.size]? = some (.cells (cc l) 23 (0, 0)) ∧ Below w.heap.size w w5) := ⟨keep_blk hb5 H4.out.1, H4.out.2.trans (hb5.mono H4.out.2.size)⟩
  clear hb5 H4
  have H6 : Hid ((w5.alloc (.cells (cc (l.set n v)) 23)).heap[w.heap.size]? = some (.cells (cc l) 23 (0, 0)) ∧ (w5.alloc (.cells (cc (l.set n v)) 23)).heap[w5.heap.size]? = some (.cells (cc (l.set n v)) 23 (0, 0)) ∧ Below w.heap.size w (w5.alloc (.cells (cc (l.set n v)) 23))) :=
    ⟨(Below.heap_alloc _ _ _ (lt_of_some H5.out.1)).trans H5.out.1, heap_alloc_new _ _, H5.out.2.alloc H5.out.2.size _⟩
  clear H5
  go_wp2_with (first
    | (refine wl_new (l := (l.set n v)) hD rfl _ _ rfl rfl rfl rfl ?_)
    | (refine wl_load (t := 23) (fr := (0, 0)) hl rfl _ rfl rfl ?_ ?_; exact H6.out.1))
  refine (list_any l hl _).mono ?_
  rintro e w7 ⟨gl, rfl, hgl, hG, hb7⟩
  have HC7 : Hid (CS w l (l.set n v) w5.heap.size gl w7) := ⟨keep_blk hb7 H6.out.1, keep_blk hb7 H6.out.2.1, hG, H6.out.2.2.trans (hb7.mono H6.out.2.2.size), HE.out, Nat.le_trans H6.out.2.2.size hgl, by simp at hgl; omega⟩
  clear hgl hG hb7 H6 HE
  generalize w5.heap.size = gd at *
  obtain ⟨c0, c1, c2, c3, c4, c5, c6, c7, c8, c9, c10, c11, c12, c13, c14, hc⟩ := fifteen hl
  obtain ⟨D, hDD⟩ : ∃ D, l.set n v = D := ⟨_, rfl⟩
  rw [hDD] at HC7 hD ⊢
  have HC : Hid (∀ w', CS w l D gd gl w' → w'.cell? ⟨w.heap.size, 0, none⟩ = some (.int .i64 c0) ∧ w'.cell? ⟨w.heap.size, 1, none⟩ = some (.int .i64 c1) ∧ w'.cell? ⟨w.heap.size, 2, none⟩ = some (.int .i64 c2) ∧ w'.cell? ⟨w.heap.size, 3, none⟩ = some (.int .i64 c3) ∧ w'.cell? ⟨w.heap.size, 4, none⟩ = some (.int .i64 c4) ∧ w'.cell? ⟨w.heap.size, 5, none⟩ = some (.int .i64 c5) ∧ w'.cell? ⟨w.heap.size, 6, none⟩ = some (.int .i64 c6) ∧ w'.cell? ⟨w.heap.size, 7, none⟩ = some (.int .i64 c7) ∧ w'.cell? ⟨w.heap.size, 8, none⟩ = some (.int .i64 c8) ∧ w'.cell? ⟨w.heap.size, 9, none⟩ = some (.int .i64 c9) ∧ w'.cell? ⟨w.heap.size, 10, none⟩ = some (.int .i64 c10) ∧ w'.cell? ⟨w.heap.size, 11, none⟩ = some (.int .i64 c11) ∧ w'.cell? ⟨w.heap.size, 12, none⟩ = some (.int .i64 c12) ∧ w'.cell? ⟨w.heap.size, 13, none⟩ = some (.int .i64 c13) ∧ w'.cell? ⟨w.heap.size, 14, none⟩ = some (.int .i64 c14) ∧ CS w l D gd gl w') := fun w' h => by
    have h1 := cells_of hl h.c
    subst hc
    exact ⟨h1 0 (by omega), h1 1 (by omega), h1 2 (by omega), h1 3 (by omega), h1 4 (by omega), h1 5 (by omega), h1 6 (by omega), h1 7 (by omega), h1 8 (by omega), h1 9 (by omega), h1 10 (by omega), h1 11 (by omega), h1 12 (by omega), h1 13 (by omega), h1 14 (by omega), h⟩
  have HC2 : Hid (∀ w', (w'.cell? ⟨w.heap.size, 0, none⟩ = some (.int .i64 c0) ∧ w'.cell? ⟨w.heap.size, 1, none⟩ = some (.int .i64 c1) ∧ w'.cell? ⟨w.heap.size, 2, none⟩ = some (.int .i64 c2) ∧ w'.cell? ⟨w.heap.size, 3, none⟩ = some (.int .i64 c3) ∧ w'.cell? ⟨w.heap.size, 4, none⟩ = some (.int .i64 c4) ∧ w'.cell? ⟨w.heap.size, 5, none⟩ = some (.int .i64 c5) ∧ w'.cell? ⟨w.heap.size, 6, none⟩ = some (.int .i64 c6) ∧ w'.cell? ⟨w.heap.size, 7, none⟩ = some (.int .i64 c7) ∧ w'.cell? ⟨w.heap.size, 8, none⟩ = some (.int .i64 c8) ∧ w'.cell? ⟨w.heap.size, 9, none⟩ = some (.int .i64 c9) ∧ w'.cell? ⟨w.heap.size, 10, none⟩ = some (.int .i64 c10) ∧ w'.cell? ⟨w.heap.size, 11, none⟩ = some (.int .i64 c11) ∧ w'.cell? ⟨w.heap.size, 12, none⟩ = some (.int .i64 c12) ∧ w'.cell? ⟨w.heap.size, 13, none⟩ = some (.int .i64 c13) ∧ w'.cell? ⟨w.heap.size, 14, none⟩ = some (.int .i64 c14) ∧ CS w l D gd gl w') → CS w l D gd gl w') := fun w' h => h.2.2.2.2.2.2.2.2.2.2.2.2.2.2.2
  have HT1 : Hid (∀ w', CS w l D gd gl w' → Calls Tryd.prog 14 #[.agg #[.int .i64 c0, .int .i64 c1, .int .i64 c2, .int .i64 c3, .int .i64 c4, .int .i64 c5, .int .i64 c6, .int .i64 c7, .int .i64 c8, .int .i64 c9, .int .i64 c10, .int .i64 c11, .int .i64 c12, .int .i64 c13, .int .i64 c14]] w' fun e w'' => e = .returned (.string (mk (txt l))) ∧ Below w'.heap.size w' w'') := fun w' h => by
    have := text_any l hl HK.out w' (h.env.below h.bel)
    have e : cc l = #[.int .i64 c0, .int .i64 c1, .int .i64 c2, .int .i64 c3, .int .i64 c4, .int .i64 c5, .int .i64 c6, .int .i64 c7, .int .i64 c8, .int .i64 c9, .int .i64 c10, .int .i64 c11, .int .i64 c12, .int .i64 c13, .int .i64 c14] := by rw [hc]; rfl
    rwa [e] at this
  have HT2 : Hid (∀ w', Calls Tryd.prog 15 #[.agg #[.int .i64 c0, .int .i64 c1, .int .i64 c2, .int .i64 c3, .int .i64 c4, .int .i64 c5, .int .i64 c6, .int .i64 c7, .int .i64 c8, .int .i64 c9, .int .i64 c10, .int .i64 c11, .int .i64 c12, .int .i64 c13, .int .i64 c14]] w' fun e w'' => e = .returned (.string (mk (txt l))) ∧ Below w'.heap.size w' w'') := fun w' => by
    have := rtext_any l hl HK.out w'
    have e : cc l = #[.int .i64 c0, .int .i64 c1, .int .i64 c2, .int .i64 c3, .int .i64 c4, .int .i64 c5, .int .i64 c6, .int .i64 c7, .int .i64 c8, .int .i64 c9, .int .i64 c10, .int .i64 c11, .int .i64 c12, .int .i64 c13, .int .i64 c14] := by rw [hc]; rfl
    rwa [e] at this
  have HN1 : Hid (∀ w', CS w l D gd gl w' → Calls Tryd.prog 16 #[.int .i64 n] w' fun e w'' => e = .returned (.string (nm n)) ∧ w'' = w') := fun w' h => name_any n w' (h.env.below h.bel)
  have HN2 : Hid (∀ w', Calls Tryd.prog 17 #[.int .i64 n] w' fun e w'' => e = .returned (.string (nm n)) ∧ Below w'.heap.size w' w'') := fun w' => rname_any n w'
  have HX : Hid (∀ w', CS w l D gd gl w' → Below w.heap.size w w') := fun w' h => h.bel
  have HCD : Hid (l = [c0, c1, c2, c3, c4, c5, c6, c7, c8, c9, c10, c11, c12, c13, c14]) := hc
  clear hc HK
  generalize mk (txt l) = TX at *
  generalize nm n = NM at *
  generalize ckN l = KN at *
  generalize ckE l = KE at *
  have hS := HC.out w7.drew HC7.out.drew
  go_wp2_with fail
  go_region_held3 (fun w' => w'.cell? ⟨w.heap.size, 0, none⟩ = some (.int .i64 c0) ∧ w'.cell? ⟨w.heap.size, 1, none⟩ = some (.int .i64 c1) ∧ w'.cell? ⟨w.heap.size, 2, none⟩ = some (.int .i64 c2) ∧ w'.cell? ⟨w.heap.size, 3, none⟩ = some (.int .i64 c3) ∧ w'.cell? ⟨w.heap.size, 4, none⟩ = some (.int .i64 c4) ∧ w'.cell? ⟨w.heap.size, 5, none⟩ = some (.int .i64 c5) ∧ w'.cell? ⟨w.heap.size, 6, none⟩ = some (.int .i64 c6) ∧ w'.cell? ⟨w.heap.size, 7, none⟩ = some (.int .i64 c7) ∧ w'.cell? ⟨w.heap.size, 8, none⟩ = some (.int .i64 c8) ∧ w'.cell? ⟨w.heap.size, 9, none⟩ = some (.int .i64 c9) ∧ w'.cell? ⟨w.heap.size, 10, none⟩ = some (.int .i64 c10) ∧ w'.cell? ⟨w.heap.size, 11, none⟩ = some (.int .i64 c11) ∧ w'.cell? ⟨w.heap.size, 12, none⟩ = some (.int .i64 c12) ∧ w'.cell? ⟨w.heap.size, 13, none⟩ = some (.int .i64 c13) ∧ w'.cell? ⟨w.heap.size, 14, none⟩ = some (.int .i64 c14) ∧ CS w l D gd gl w')
    (first | assumption | exact HC.out _ ((HC2.out _ (by assumption)).keep hbx) | go_keep)
    (first
      | (go_at_call 14; refine (HT1.out _ (HC2.out _ (by assumption))).mono ?_; rintro e wt ⟨rfl, hbx⟩)
      | (go_at_call 15; refine (HT2.out _).mono ?_; rintro e wu ⟨rfl, hbx⟩)
      | (go_at_call 16; refine (HN1.out _ (HC2.out _ (by assumption))).mono ?_; rintro e wn ⟨rfl, rfl⟩)
      | (go_at_call 17; refine (HN2.out _).mono ?_; rintro e wv ⟨rfl, hbx⟩))
  have HV : Hid (CS w l D gd gl wv) := HC2.out wv (by assumption)
  rename_i hHeld
  clear hS hHeld HC HC2 HT1 HT2 HN1 HN2 HX HC7 hbx
  have y1 : wv.cell? ⟨gl, n, none⟩ = some (.int .i64 X) := by rw [cell_of_row _ _ _ _ _ _ HV.out.s, cc_get l n (by omega), HXX.out]
  have y2 : wv.frozen? ⟨gl, n, none⟩ = false := frozen_of_row _ _ _ _ _ HV.out.s
  have H9 : Hid ((wv.setCell ⟨gl, n, none⟩ (.int .i64 v)).drew.heap[gd]? = some (.cells (cc D) 23 (0, 0)) ∧ (wv.setCell ⟨gl, n, none⟩ (.int .i64 v)).drew.heap[gl]? = some (.cells (cc D) 3 (0, 0)) ∧ Below w.heap.size w (wv.setCell ⟨gl, n, none⟩ (.int .i64 v)).drew) := by
    refine ⟨?_, ?_, (HV.out.bel.setCell HV.out.gle _).drew⟩
    · show (wv.setCell ⟨gl, n, none⟩ (.int .i64 v)).heap[gd]? = _
      rw [heap_setCell_other _ _ _ _ HV.out.gne]
      exact HV.out.d
    · show (wv.setCell ⟨gl, n, none⟩ (.int .i64 v)).heap[gl]? = _
      rw [heap_setCell_same _ _ _ _ _ _ HV.out.s, cc_set, hDD]
  clear hDD HV
  obtain ⟨d0, d1, d2, d3, d4, d5, d6, d7, d8, d9, d10, d11, d12, d13, d14, hd⟩ := fifteen hD
  have HD1 : Hid (∀ w', (w'.heap[gd]? = some (.cells (cc D) 23 (0, 0)) ∧ w'.heap[gl]? = some (.cells (cc D) 3 (0, 0)) ∧ Below w.heap.size w w') → w'.cell? ⟨gd, 0, none⟩ = some (.int .i64 d0) ∧ w'.cell? ⟨gd, 1, none⟩ = some (.int .i64 d1) ∧ w'.cell? ⟨gd, 2, none⟩ = some (.int .i64 d2) ∧ w'.cell? ⟨gd, 3, none⟩ = some (.int .i64 d3) ∧ w'.cell? ⟨gd, 4, none⟩ = some (.int .i64 d4) ∧ w'.cell? ⟨gd, 5, none⟩ = some (.int .i64 d5) ∧ w'.cell? ⟨gd, 6, none⟩ = some (.int .i64 d6) ∧ w'.cell? ⟨gd, 7, none⟩ = some (.int .i64 d7) ∧ w'.cell? ⟨gd, 8, none⟩ = some (.int .i64 d8) ∧ w'.cell? ⟨gd, 9, none⟩ = some (.int .i64 d9) ∧ w'.cell? ⟨gd, 10, none⟩ = some (.int .i64 d10) ∧ w'.cell? ⟨gd, 11, none⟩ = some (.int .i64 d11) ∧ w'.cell? ⟨gd, 12, none⟩ = some (.int .i64 d12) ∧ w'.cell? ⟨gd, 13, none⟩ = some (.int .i64 d13) ∧ w'.cell? ⟨gd, 14, none⟩ = some (.int .i64 d14) ∧ (w'.heap[gd]? = some (.cells (cc D) 23 (0, 0)) ∧ w'.heap[gl]? = some (.cells (cc D) 3 (0, 0)) ∧ Below w.heap.size w w')) := fun w' h => by
    have h1 := cells_of hD h.1
    have e := hd
    refine ⟨?_, ?_, ?_, ?_, ?_, ?_, ?_, ?_, ?_, ?_, ?_, ?_, ?_, ?_, ?_, h⟩
    all_goals (first | exact (h1 _ (by omega)).trans (by rw [e]; rfl))
  have HD2 : Hid (∀ w', (w'.cell? ⟨gd, 0, none⟩ = some (.int .i64 d0) ∧ w'.cell? ⟨gd, 1, none⟩ = some (.int .i64 d1) ∧ w'.cell? ⟨gd, 2, none⟩ = some (.int .i64 d2) ∧ w'.cell? ⟨gd, 3, none⟩ = some (.int .i64 d3) ∧ w'.cell? ⟨gd, 4, none⟩ = some (.int .i64 d4) ∧ w'.cell? ⟨gd, 5, none⟩ = some (.int .i64 d5) ∧ w'.cell? ⟨gd, 6, none⟩ = some (.int .i64 d6) ∧ w'.cell? ⟨gd, 7, none⟩ = some (.int .i64 d7) ∧ w'.cell? ⟨gd, 8, none⟩ = some (.int .i64 d8) ∧ w'.cell? ⟨gd, 9, none⟩ = some (.int .i64 d9) ∧ w'.cell? ⟨gd, 10, none⟩ = some (.int .i64 d10) ∧ w'.cell? ⟨gd, 11, none⟩ = some (.int .i64 d11) ∧ w'.cell? ⟨gd, 12, none⟩ = some (.int .i64 d12) ∧ w'.cell? ⟨gd, 13, none⟩ = some (.int .i64 d13) ∧ w'.cell? ⟨gd, 14, none⟩ = some (.int .i64 d14) ∧ (w'.heap[gd]? = some (.cells (cc D) 23 (0, 0)) ∧ w'.heap[gl]? = some (.cells (cc D) 3 (0, 0)) ∧ Below w.heap.size w w')) → (w'.heap[gd]? = some (.cells (cc D) 23 (0, 0)) ∧ w'.heap[gl]? = some (.cells (cc D) 3 (0, 0)) ∧ Below w.heap.size w w')) := fun w' h => h.2.2.2.2.2.2.2.2.2.2.2.2.2.2.2
  have HO : Hid (∀ w', (w'.heap[gd]? = some (.cells (cc D) 23 (0, 0)) ∧ w'.heap[gl]? = some (.cells (cc D) 3 (0, 0)) ∧ Below w.heap.size w w') → Calls Tryd.prog 18 #[.slice (some ⟨gl, 0, none⟩) 15 15] w' fun e w'' => e = .returned (.agg #[.int .i64 d0, .int .i64 d1, .int .i64 d2, .int .i64 d3, .int .i64 d4, .int .i64 d5, .int .i64 d6, .int .i64 d7, .int .i64 d8, .int .i64 d9, .int .i64 d10, .int .i64 d11, .int .i64 d12, .int .i64 d13, .int .i64 d14]) ∧ Below w'.heap.size w' w'') := fun w' h => by
    have := of_any D hD gl 15 w' (lt_of_some h.2.1) (cells_of hD h.2.1)
    have e : cc D = #[.int .i64 d0, .int .i64 d1, .int .i64 d2, .int .i64 d3, .int .i64 d4, .int .i64 d5, .int .i64 d6, .int .i64 d7, .int .i64 d8, .int .i64 d9, .int .i64 d10, .int .i64 d11, .int .i64 d12, .int .i64 d13, .int .i64 d14] := by rw [hd]; rfl
    rwa [e] at this
  have HB : Hid (∀ w' w'' : World, (w'.heap[gd]? = some (.cells (cc D) 23 (0, 0)) ∧ w'.heap[gl]? = some (.cells (cc D) 3 (0, 0)) ∧ Below w.heap.size w w') → Below w'.heap.size w' w'' → (w''.heap[gd]? = some (.cells (cc D) 23 (0, 0)) ∧ w''.heap[gl]? = some (.cells (cc D) 3 (0, 0)) ∧ Below w.heap.size w w'')) := fun w' w'' h hb => ⟨keep_blk hb h.1, keep_blk hb h.2.1, h.2.2.trans (hb.mono h.2.2.size)⟩
  clear hd
  have hS := HD1.out _ H9.out
  go_wp2_with fail
  go_region_held3 (fun w' => w'.cell? ⟨gd, 0, none⟩ = some (.int .i64 d0) ∧ w'.cell? ⟨gd, 1, none⟩ = some (.int .i64 d1) ∧ w'.cell? ⟨gd, 2, none⟩ = some (.int .i64 d2) ∧ w'.cell? ⟨gd, 3, none⟩ = some (.int .i64 d3) ∧ w'.cell? ⟨gd, 4, none⟩ = some (.int .i64 d4) ∧ w'.cell? ⟨gd, 5, none⟩ = some (.int .i64 d5) ∧ w'.cell? ⟨gd, 6, none⟩ = some (.int .i64 d6) ∧ w'.cell? ⟨gd, 7, none⟩ = some (.int .i64 d7) ∧ w'.cell? ⟨gd, 8, none⟩ = some (.int .i64 d8) ∧ w'.cell? ⟨gd, 9, none⟩ = some (.int .i64 d9) ∧ w'.cell? ⟨gd, 10, none⟩ = some (.int .i64 d10) ∧ w'.cell? ⟨gd, 11, none⟩ = some (.int .i64 d11) ∧ w'.cell? ⟨gd, 12, none⟩ = some (.int .i64 d12) ∧ w'.cell? ⟨gd, 13, none⟩ = some (.int .i64 d13) ∧ w'.cell? ⟨gd, 14, none⟩ = some (.int .i64 d14) ∧ (w'.heap[gd]? = some (.cells (cc D) 23 (0, 0)) ∧ w'.heap[gl]? = some (.cells (cc D) 3 (0, 0)) ∧ Below w.heap.size w w'))
    (first | assumption | exact HD1.out _ (HB.out _ _ (HD2.out _ (by assumption)) hby) | go_keep)
    (first | (go_at_call 18; refine (HO.out _ (HD2.out _ (by assumption))).mono ?_; rintro e wz ⟨rfl, hby⟩))
  have HZ := Hid.mk' (HD2.out wz (by assumption)).2.2
  rename_i hHeld
  clear hS hHeld HD1 HD2 HO HB hby
  go_wp2
  go_ret
  exact ⟨rfl, HZ.out⟩

end Go.Proofs.YtmhigndplbdknaaDoor
