/-
  The walk of ConfigChecks at a place below the first field: it returns true and turns nothing that was there. Conditions: a config of 15 numbers, each of which an int holds; what the program's text lays reads as it is laid.
-/
import Derived.Test.YtmhigndplbdknaaDoorChecksW
namespace Go.Proofs.YtmhigndplbdknaaDoor
open Go.ChangeShapes Go.WideShapes Go.ChangeAt Go.RowKit

set_option maxRecDepth 100000 in
set_option maxHeartbeats 2000000 in
theorem checks_low (l : List Int) (hl : l.length = 15) (hk : ok64 l) (n : Int) (hn : ¬ (0 ≤ n ∧ n < 15)) (hp : n < 0) (v : Int) (w : World) (hE : Env w) :
    Calls Tryd.prog 3 #[.agg (cc l), .int .i64 n, .int .i64 v] w fun e w' => e = .returned (.bool true) ∧ Below w.heap.size w w' := by
  have HA : Hid ((w.alloc (.cells (cc l) 23)).heap[w.heap.size]? = some (.cells (cc l) 23 (0, 0))) := heap_alloc_new _ _
  have HE := Hid.mk' hE
  have HK := Hid.mk' hk
  clear hE hk
  have hD := hl
  have HNo := Hid.mk' hn
  clear hn
  go_enter Tryd.func3, Tryd.ntmps3
  go_wp2_with fail
  refine (lives_any _ (HE.out.below ((Below.refl _ _).alloc (Nat.le_refl _) _))).mono ?_
  rintro e w1 ⟨rfl, hb1⟩
  have H1 : Hid (w1.heap[w.heap.size]? = some (.cells (cc l) 23 (0, 0)) ∧ Below w.heap.size w w1) := ⟨keep_blk hb1 HA.out, ((Below.refl _ _).alloc (Nat.le_refl _) _).trans (hb1.mono (by simp))⟩
  clear hb1 HA
  go_wp2_with (first
    | (refine wl_load (t := 23) (fr := (0, 0)) hl rfl _ rfl rfl ?_ ?_; exact H1.out.1))
  refine (check_any l hl _).mono ?_
  rintro e w2 ⟨rfl, hb2⟩
  have H2 : Hid (w2.heap[w.heap.size]? = some (.cells (cc l) 23 (0, 0)) ∧ Below w.heap.size w w2) := ⟨keep_blk hb2 H1.out.1, H1.out.2.trans (hb2.mono H1.out.2.size)⟩
  clear hb2 H1
  go_wp2_with (first
    | (refine wl_load (t := 23) (fr := (0, 0)) hl rfl _ rfl rfl ?_ ?_; exact H2.out.1))
  refine (rcheck_any l hl _).mono ?_
  rintro e w3 ⟨rfl, hb3⟩
  have H3 : Hid (w3.heap[w.heap.size]? = some (.cells (cc l) 23 (0, 0)) ∧ Below w.heap.size w w3) := ⟨keep_blk hb3 H2.out.1, H2.out.2.trans (hb3.mono H2.out.2.size)⟩
  clear hb3 H2
  go_wp2_with (first
    | (refine wl_load (t := 23) (fr := (0, 0)) hl rfl _ rfl rfl ?_ ?_; exact H3.out.1))
  refine (field_out l n HNo.out _).mono ?_
  rintro e w4 ⟨rfl, hb4⟩
  have H4 : Hid (w4.heap[w.heap.size]? = some (.cells (cc l) 23 (0, 0)) ∧ Below w.heap.size w w4) := ⟨keep_blk hb4 H3.out.1, H3.out.2.trans (hb4.mono H3.out.2.size)⟩
  clear hb4 H3
  go_wp2_with (first
    | (refine wl_load (t := 23) (fr := (0, 0)) hl rfl _ rfl rfl ?_ ?_; exact H4.out.1))
  refine (set_out l hl n v HNo.out _).mono ?_
  rintro e w5 ⟨rfl, hb5⟩
  have H5 : Hid (w5.heap[w.heap.size]? = some (.cells (cc l) 23 (0, 0)) ∧ Below w.heap.size w w5) := ⟨keep_blk hb5 H4.out.1, H4.out.2.trans (hb5.mono H4.out.2.size)⟩
  clear hb5 H4
  have H6 : Hid ((w5.alloc (.cells (cc l) 23)).heap[w.heap.size]? = some (.cells (cc l) 23 (0, 0)) ∧ (w5.alloc (.cells (cc l) 23)).heap[w5.heap.size]? = some (.cells (cc l) 23 (0, 0)) ∧ Below w.heap.size w (w5.alloc (.cells (cc l) 23))) :=
    ⟨(Below.heap_alloc _ _ _ (lt_of_some H5.out.1)).trans H5.out.1, heap_alloc_new _ _, H5.out.2.alloc H5.out.2.size _⟩
  clear H5
  go_wp2_with (first
    | (refine wl_new (l := l) hD rfl _ _ rfl rfl rfl rfl ?_)
    | (refine wl_load (t := 23) (fr := (0, 0)) hl rfl _ rfl rfl ?_ ?_; exact H6.out.1))
  refine (list_any l hl _).mono ?_
  rintro e w7 ⟨gl, rfl, hgl, hG, hb7⟩
  have HC7 : Hid (CS w l l w5.heap.size gl w7) := ⟨keep_blk hb7 H6.out.1, keep_blk hb7 H6.out.2.1, hG, H6.out.2.2.trans (hb7.mono H6.out.2.2.size), HE.out, Nat.le_trans H6.out.2.2.size hgl, by simp at hgl; omega⟩
  clear hgl hG hb7 H6 HE
  generalize w5.heap.size = gd at *
  obtain ⟨c0, c1, c2, c3, c4, c5, c6, c7, c8, c9, c10, c11, c12, c13, c14, hc⟩ := fifteen hl
  have HC : Hid (∀ w', CS w l l gd gl w' → w'.cell? ⟨w.heap.size, 0, none⟩ = some (.int .i64 c0) ∧ w'.cell? ⟨w.heap.size, 1, none⟩ = some (.int .i64 c1) ∧ w'.cell? ⟨w.heap.size, 2, none⟩ = some (.int .i64 c2) ∧ w'.cell? ⟨w.heap.size, 3, none⟩ = some (.int .i64 c3) ∧ w'.cell? ⟨w.heap.size, 4, none⟩ = some (.int .i64 c4) ∧ w'.cell? ⟨w.heap.size, 5, none⟩ = some (.int .i64 c5) ∧ w'.cell? ⟨w.heap.size, 6, none⟩ = some (.int .i64 c6) ∧ w'.cell? ⟨w.heap.size, 7, none⟩ = some (.int .i64 c7) ∧ w'.cell? ⟨w.heap.size, 8, none⟩ = some (.int .i64 c8) ∧ w'.cell? ⟨w.heap.size, 9, none⟩ = some (.int .i64 c9) ∧ w'.cell? ⟨w.heap.size, 10, none⟩ = some (.int .i64 c10) ∧ w'.cell? ⟨w.heap.size, 11, none⟩ = some (.int .i64 c11) ∧ w'.cell? ⟨w.heap.size, 12, none⟩ = some (.int .i64 c12) ∧ w'.cell? ⟨w.heap.size, 13, none⟩ = some (.int .i64 c13) ∧ w'.cell? ⟨w.heap.size, 14, none⟩ = some (.int .i64 c14) ∧ CS w l l gd gl w') := fun w' h => by
    have h1 := cells_of hl h.c
    subst hc
    exact ⟨h1 0 (by omega), h1 1 (by omega), h1 2 (by omega), h1 3 (by omega), h1 4 (by omega), h1 5 (by omega), h1 6 (by omega), h1 7 (by omega), h1 8 (by omega), h1 9 (by omega), h1 10 (by omega), h1 11 (by omega), h1 12 (by omega), h1 13 (by omega), h1 14 (by omega), h⟩
  have HC2 : Hid (∀ w', (w'.cell? ⟨w.heap.size, 0, none⟩ = some (.int .i64 c0) ∧ w'.cell? ⟨w.heap.size, 1, none⟩ = some (.int .i64 c1) ∧ w'.cell? ⟨w.heap.size, 2, none⟩ = some (.int .i64 c2) ∧ w'.cell? ⟨w.heap.size, 3, none⟩ = some (.int .i64 c3) ∧ w'.cell? ⟨w.heap.size, 4, none⟩ = some (.int .i64 c4) ∧ w'.cell? ⟨w.heap.size, 5, none⟩ = some (.int .i64 c5) ∧ w'.cell? ⟨w.heap.size, 6, none⟩ = some (.int .i64 c6) ∧ w'.cell? ⟨w.heap.size, 7, none⟩ = some (.int .i64 c7) ∧ w'.cell? ⟨w.heap.size, 8, none⟩ = some (.int .i64 c8) ∧ w'.cell? ⟨w.heap.size, 9, none⟩ = some (.int .i64 c9) ∧ w'.cell? ⟨w.heap.size, 10, none⟩ = some (.int .i64 c10) ∧ w'.cell? ⟨w.heap.size, 11, none⟩ = some (.int .i64 c11) ∧ w'.cell? ⟨w.heap.size, 12, none⟩ = some (.int .i64 c12) ∧ w'.cell? ⟨w.heap.size, 13, none⟩ = some (.int .i64 c13) ∧ w'.cell? ⟨w.heap.size, 14, none⟩ = some (.int .i64 c14) ∧ CS w l l gd gl w') → CS w l l gd gl w') := fun w' h => h.2.2.2.2.2.2.2.2.2.2.2.2.2.2.2
  have HT1 : Hid (∀ w', CS w l l gd gl w' → Calls Tryd.prog 14 #[.agg #[.int .i64 c0, .int .i64 c1, .int .i64 c2, .int .i64 c3, .int .i64 c4, .int .i64 c5, .int .i64 c6, .int .i64 c7, .int .i64 c8, .int .i64 c9, .int .i64 c10, .int .i64 c11, .int .i64 c12, .int .i64 c13, .int .i64 c14]] w' fun e w'' => e = .returned (.string (mk (txt l))) ∧ Below w'.heap.size w' w'') := fun w' h => by
    have := text_any l hl HK.out w' (h.env.below h.bel)
    have e : cc l = #[.int .i64 c0, .int .i64 c1, .int .i64 c2, .int .i64 c3, .int .i64 c4, .int .i64 c5, .int .i64 c6, .int .i64 c7, .int .i64 c8, .int .i64 c9, .int .i64 c10, .int .i64 c11, .int .i64 c12, .int .i64 c13, .int .i64 c14] := by rw [hc]; rfl
    rwa [e] at this
  have HT2 : Hid (∀ w', Calls Tryd.prog 15 #[.agg #[.int .i64 c0, .int .i64 c1, .int .i64 c2, .int .i64 c3, .int .i64 c4, .int .i64 c5, .int .i64 c6, .int .i64 c7, .int .i64 c8, .int .i64 c9, .int .i64 c10, .int .i64 c11, .int .i64 c12, .int .i64 c13, .int .i64 c14]] w' fun e w'' => e = .returned (.string (mk (txt l))) ∧ Below w'.heap.size w' w'') := fun w' => by
    have := rtext_any l hl HK.out w'
    have e : cc l = #[.int .i64 c0, .int .i64 c1, .int .i64 c2, .int .i64 c3, .int .i64 c4, .int .i64 c5, .int .i64 c6, .int .i64 c7, .int .i64 c8, .int .i64 c9, .int .i64 c10, .int .i64 c11, .int .i64 c12, .int .i64 c13, .int .i64 c14] := by rw [hc]; rfl
    rwa [e] at this
  have HN1 : Hid (∀ w', CS w l l gd gl w' → Calls Tryd.prog 16 #[.int .i64 n] w' fun e w'' => e = .returned (.string (nm n)) ∧ w'' = w') := fun w' h => name_any n w' (h.env.below h.bel)
  have HN2 : Hid (∀ w', Calls Tryd.prog 17 #[.int .i64 n] w' fun e w'' => e = .returned (.string (nm n)) ∧ Below w'.heap.size w' w'') := fun w' => rname_any n w'
  have HX : Hid (∀ w', CS w l l gd gl w' → Below w.heap.size w w') := fun w' h => h.bel
  have HCD : Hid (l = [c0, c1, c2, c3, c4, c5, c6, c7, c8, c9, c10, c11, c12, c13, c14]) := hc
  clear hc HK
  generalize mk (txt l) = TX at *
  generalize nm n = NM at *
  generalize ckN l = KN at *
  generalize ckE l = KE at *
  have hS := HC.out w7.drew HC7.out.drew
  have hp2 : decide (0 ≤ n) = false := by simp; omega
  go_wp2_with fail
  go_region_held3 (fun w' => w'.cell? ⟨w.heap.size, 0, none⟩ = some (.int .i64 c0) ∧ w'.cell? ⟨w.heap.size, 1, none⟩ = some (.int .i64 c1) ∧ w'.cell? ⟨w.heap.size, 2, none⟩ = some (.int .i64 c2) ∧ w'.cell? ⟨w.heap.size, 3, none⟩ = some (.int .i64 c3) ∧ w'.cell? ⟨w.heap.size, 4, none⟩ = some (.int .i64 c4) ∧ w'.cell? ⟨w.heap.size, 5, none⟩ = some (.int .i64 c5) ∧ w'.cell? ⟨w.heap.size, 6, none⟩ = some (.int .i64 c6) ∧ w'.cell? ⟨w.heap.size, 7, none⟩ = some (.int .i64 c7) ∧ w'.cell? ⟨w.heap.size, 8, none⟩ = some (.int .i64 c8) ∧ w'.cell? ⟨w.heap.size, 9, none⟩ = some (.int .i64 c9) ∧ w'.cell? ⟨w.heap.size, 10, none⟩ = some (.int .i64 c10) ∧ w'.cell? ⟨w.heap.size, 11, none⟩ = some (.int .i64 c11) ∧ w'.cell? ⟨w.heap.size, 12, none⟩ = some (.int .i64 c12) ∧ w'.cell? ⟨w.heap.size, 13, none⟩ = some (.int .i64 c13) ∧ w'.cell? ⟨w.heap.size, 14, none⟩ = some (.int .i64 c14) ∧ CS w l l gd gl w')
    (first | assumption | exact HC.out _ ((HC2.out _ (by assumption)).keep hbx) | go_keep)
    (first
      | (go_at_call 14; refine (HT1.out _ (HC2.out _ (by assumption))).mono ?_; rintro e wt ⟨rfl, hbx⟩)
      | (go_at_call 15; refine (HT2.out _).mono ?_; rintro e wu ⟨rfl, hbx⟩)
      | (go_at_call 16; refine (HN1.out _ (HC2.out _ (by assumption))).mono ?_; rintro e wn ⟨rfl, rfl⟩)
      | (go_at_call 17; refine (HN2.out _).mono ?_; rintro e wv ⟨rfl, hbx⟩))
  have HV : Hid (CS w l l gd gl wv) := HC2.out wv (by assumption)
  rename_i hHeld
  have hq := HC.out wv HV.out
  obtain ⟨p0, p1, p2, p3, p4, p5, p6, p7, p8, p9, p10, p11, p12, p13, p14, -⟩ := hq
  have fd := cells_of hl HV.out.d
  rw [HCD.out] at fd
  have q0 := fd 0 (by omega)
  have q1 := fd 1 (by omega)
  have q2 := fd 2 (by omega)
  have q3 := fd 3 (by omega)
  have q4 := fd 4 (by omega)
  have q5 := fd 5 (by omega)
  have q6 := fd 6 (by omega)
  have q7 := fd 7 (by omega)
  have q8 := fd 8 (by omega)
  have q9 := fd 9 (by omega)
  have q10 := fd 10 (by omega)
  have q11 := fd 11 (by omega)
  have q12 := fd 12 (by omega)
  have q13 := fd 13 (by omega)
  have q14 := fd 14 (by omega)
  simp only [List.getD_cons_succ, List.getD_cons_zero] at q0 q1 q2 q3 q4 q5 q6 q7 q8 q9 q10 q11 q12 q13 q14
  clear hS hHeld HC HC2 HT1 HT2 HN1 HN2 HX HC7 hbx fd
  go_wp2
  go_ret
  exact ⟨rfl, HV.out.bel⟩

end Go.Proofs.YtmhigndplbdknaaDoor
