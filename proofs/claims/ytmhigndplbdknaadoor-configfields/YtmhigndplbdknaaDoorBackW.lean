/-
  The walk of ConfigBack: it returns true and turns nothing that was there. Conditions: a config of 15 numbers, each of which an int holds; what the program's text lays reads as it is laid.
-/
import Derived.Test.YtmhigndplbdknaaDoorLives
namespace Go.Proofs.YtmhigndplbdknaaDoor
open Go.ChangeShapes Go.WideShapes Go.ChangeAt Go.RowKit

theorem read_b (T : ByteArray) (hT : T.size < 4294967281) (w : World) (hE : Env w) :
    Calls Tryd.prog 19 #[.string T] w fun e w' => e = .returned (.tuple #[.agg (cc (rdL T.data.toList)), .int .i64 (rdE T.data.toList)]) ∧ Below w.heap.size w w' := by
  have := read_any T.data.toList (by rw [← Lib.size_eq]; exact hT) w hE
  rwa [mk_data] at this
theorem three (l : List Int) (hl : l.length = 15) : (ckE l = 0 ∧ rdE (txt l) = 0 ∧ rdL (txt l) = l) ∨ (ckE l = 10 ∧ rdE (txt l) = 0 ∧ rdL (txt l) = l) ∨ (ckE l = 10 ∧ (rdE (txt l) == 0) = false) := by
  rcases ckE_two l with h | h
  · exact .inl ⟨h, back_may hl h⟩
  · by_cases h2 : rdE (txt l) = 0
    · exact .inr (.inl ⟨h, h2, back_is hl h2⟩)
    · exact .inr (.inr ⟨h, by simpa using h2⟩)
theorem ok_rd {s : List UInt8} (h : rdE s = 0) : ok64 (rdL s) := by
  have hb := hi_le (ckE_zero (back_text h).2)
  intro v hv
  obtain ⟨j, hj, rfl⟩ := List.getElem_of_mem hv
  have := hb j (by rw [rdL_len] at hj; exact hj)
  simp only [List.getD, List.getElem?_eq_getElem hj, Option.getD_some] at this
  omega
theorem cells_of {w : World} {g : Nat} {l : List Int} {t : TypeId} {fr : Nat × Nat} (hl : l.length = 15) (h : w.heap[g]? = some (.cells (cc l) t fr)) : ∀ j, j < 15 → w.cell? ⟨g, j, none⟩ = some (.int .i64 (l.getD j 0)) := fun j hj => by
  rw [cell_of_row _ _ _ _ _ _ h, cc_get l j (by omega)]
theorem cells_alloc {w : World} {g : Nat} {l : List Int} {t : TypeId} {fr : Nat × Nat} (hl : l.length = 15) (h : w.heap[g]? = some (.cells (cc l) t fr)) (o : Obj) : ∀ j, j < 15 → (w.alloc o).cell? ⟨g, j, none⟩ = some (.int .i64 (l.getD j 0)) :=
  cells_of hl ((Below.heap_alloc _ _ _ (lt_of_some h)).trans h)

set_option maxRecDepth 100000 in
set_option maxHeartbeats 4000000 in
theorem back_any (l : List Int) (hl : l.length = 15) (hk : ok64 l) (s : ByteArray) (hs : s.size ≤ maxLen) (w : World) (hE : Env w) :
    Calls Tryd.prog 5 #[.agg (cc l), .string s] w fun e w' => e = .returned (.bool true) ∧ Below w.heap.size w w' := by
  have hsz : (s.extract 0 (min (s.size : Int) 250).toNat).size ≤ 250 := by rw [ByteArray.size_extract]; omega
  obtain ⟨T, hT⟩ : ∃ T, s.extract 0 (min (s.size : Int) 250).toNat = T := ⟨_, rfl⟩
  rw [hT] at hsz
  unfold maxLen at hs
  have HA : Hid ((w.alloc (.cells (cc l) 23)).heap[w.heap.size]? = some (.cells (cc l) 23 (0, 0))) := heap_alloc_new _ _
  have HE := Hid.mk' hE
  have HK := Hid.mk' hk
  have HT := Hid.mk' hsz
  clear hE hk hsz
  go_enter Tryd.func5, Tryd.ntmps5
  go_wp2_with fail
  refine (lives_any _ (HE.out.below ((Below.refl _ _).alloc (Nat.le_refl _) _))).mono ?_
  rintro e w1 ⟨rfl, hb1⟩
  have H1 : Hid (w1.heap[w.heap.size]? = some (.cells (cc l) 23 (0, 0)) ∧ Below w.heap.size w w1) := ⟨keep_blk hb1 HA.out, ((Below.refl _ _).alloc (Nat.le_refl _) _).trans (hb1.mono (by simp))⟩
  clear hb1 HA
  go_wp2_with (first
    | (refine wl_load hl rfl _ rfl rfl H1.out.1 ?_))
  clear hT hs
  refine (check_any l hl _).mono ?_
  rintro e w2 ⟨rfl, hb2⟩
  have H2 : Hid (w2.heap[w.heap.size]? = some (.cells (cc l) 23 (0, 0)) ∧ Below w.heap.size w w2) := ⟨keep_blk hb2 H1.out.1, H1.out.2.trans (hb2.mono H1.out.2.size)⟩
  clear hb2 H1
  go_wp2_with (first
    | (refine wl_load hl rfl _ rfl rfl H2.out.1 ?_))
  refine (text_any l hl HK.out _ (HE.out.below H2.out.2)).mono ?_
  rintro e w3 ⟨rfl, hb3⟩
  have H3 : Hid (w3.heap[w.heap.size]? = some (.cells (cc l) 23 (0, 0)) ∧ Below w.heap.size w w3) := ⟨keep_blk hb3 H2.out.1, H2.out.2.trans (hb3.mono H2.out.2.size)⟩
  clear hb3 H2
  have hrd := read_any (txt l) (by have := txt_len hl HK.out; omega) w3 (HE.out.below H3.out.2)
  have hth := three l hl
  have hdl := rdL_len (txt l)
  generalize rdL (txt l) = D at *
  generalize rdE (txt l) = R at *
  generalize ckE l = M at *
  generalize mk (txt l) = TX at *
  go_wp2_with fail
  refine hrd.mono ?_
  rintro e w4 ⟨rfl, hb4⟩
  have H4 : Hid (w4.heap[w.heap.size]? = some (.cells (cc l) 23 (0, 0)) ∧ Below w.heap.size w w4) := ⟨keep_blk hb4 H3.out.1, H3.out.2.trans (hb4.mono H3.out.2.size)⟩
  clear hb4 H3 hrd
  have H5 : Hid ((w4.alloc (.cells (cc D) 23)).heap[w.heap.size]? = some (.cells (cc l) 23 (0, 0)) ∧ Below w.heap.size w (w4.alloc (.cells (cc D) 23))) := ⟨(Below.heap_alloc _ _ _ (lt_of_some H4.out.1)).trans H4.out.1, H4.out.2.alloc H4.out.2.size _⟩
  have hrd := read_b T (by have := HT.out; omega) _ (HE.out.below H5.out.2)
  have hfl := rdL_len T.data.toList
  have HB : Hid (rdE T.data.toList = 0 → txt (rdL T.data.toList) = T.data.toList ∧ ckE (rdL T.data.toList) = 0 ∧ ok64 (rdL T.data.toList)) := fun h => ⟨(back_text h).1, (back_text h).2, ok_rd h⟩
  have HX : Hid (∀ j, j < 15 → (cc l)[j]? = some (.int .i64 (l.getD j 0))) := fun j hj => cc_get l j (by omega)
  have HY : Hid (∀ j, j < 15 → (w4.alloc (.cells (cc l) 23)).cell? ⟨w.heap.size, j, none⟩ = some (.int .i64 (l.getD j 0))) := cells_alloc hl H4.out.1 _
  have HM := Hid.mk' mk_data
  rcases hth with ⟨rfl, rfl, rfl⟩ | ⟨rfl, rfl, rfl⟩ | ⟨rfl, hR⟩
  case inl | inr.inl =>
    have ft := HX.out
    have fu := HY.out
    have a0 := ft 0 (by omega)
    have a1 := ft 1 (by omega)
    have a2 := ft 2 (by omega)
    have a3 := ft 3 (by omega)
    have a4 := ft 4 (by omega)
    have a5 := ft 5 (by omega)
    have a6 := ft 6 (by omega)
    have a7 := ft 7 (by omega)
    have a8 := ft 8 (by omega)
    have a9 := ft 9 (by omega)
    have a10 := ft 10 (by omega)
    have a11 := ft 11 (by omega)
    have a12 := ft 12 (by omega)
    have a13 := ft 13 (by omega)
    have a14 := ft 14 (by omega)
    have b0 := fu 0 (by omega)
    have b1 := fu 1 (by omega)
    have b2 := fu 2 (by omega)
    have b3 := fu 3 (by omega)
    have b4 := fu 4 (by omega)
    have b5 := fu 5 (by omega)
    have b6 := fu 6 (by omega)
    have b7 := fu 7 (by omega)
    have b8 := fu 8 (by omega)
    have b9 := fu 9 (by omega)
    have b10 := fu 10 (by omega)
    have b11 := fu 11 (by omega)
    have b12 := fu 12 (by omega)
    have b13 := fu 13 (by omega)
    have b14 := fu 14 (by omega)
    clear ft fu
    generalize D.getD 0 0 = c0 at *
    generalize D.getD 1 0 = c1 at *
    generalize D.getD 2 0 = c2 at *
    generalize D.getD 3 0 = c3 at *
    generalize D.getD 4 0 = c4 at *
    generalize D.getD 5 0 = c5 at *
    generalize D.getD 6 0 = c6 at *
    generalize D.getD 7 0 = c7 at *
    generalize D.getD 8 0 = c8 at *
    generalize D.getD 9 0 = c9 at *
    generalize D.getD 10 0 = c10 at *
    generalize D.getD 11 0 = c11 at *
    generalize D.getD 12 0 = c12 at *
    generalize D.getD 13 0 = c13 at *
    generalize D.getD 14 0 = c14 at *
    go_wp2_with (first
      | (refine wl_new hl rfl _ _ rfl rfl rfl rfl ?_))
    clear a0 a1 a2 a3 a4 a5 a6 a7 a8 a9 a10 a11 a12 a13 a14 b0 b1 b2 b3 b4 b5 b6 b7 b8 b9 b10 b11 b12 b13 b14
    refine hrd.mono ?_
    rintro e w5 ⟨rfl, hb5⟩
    have H6 : Hid (Below w.heap.size w w5) := H5.out.2.trans (hb5.mono H5.out.2.size)
    clear hb5 H5 hrd H4 HX HY
    generalize rdL T.data.toList = X at *
    generalize hF : rdE T.data.toList = F at *
    have HN : Hid ((w5.alloc (.cells (cc X) 23)).heap[w5.heap.size]? = some (.cells (cc X) 23 (0, 0))) := heap_alloc_new _ _
    go_wp2_with (first
      | (refine wl_new hfl rfl _ _ rfl rfl rfl rfl ?_)
      | (refine wl_load hfl rfl _ rfl rfl HN.out ?_))
    refine (check_any X hfl _).mono ?_
    rintro e w6 ⟨rfl, hb6⟩
    have H7 : Hid (w6.heap[w5.heap.size]? = some (.cells (cc X) 23 (0, 0)) ∧ Below w.heap.size w w6) := ⟨keep_blk hb6 HN.out, (H6.out.alloc H6.out.size _).trans (hb6.mono (by have := H6.out.size; simp; omega))⟩
    clear hb6 HN H6
    by_cases hF0 : F = 0
    · obtain ⟨k1, k2, k3⟩ := HB.out hF0
      have ht := text_any X hfl k3 w6 (HE.out.below H7.out.2)
      rw [k1, mk_data] at ht
      have HTX := Hid.mk' ht
      rw [k2]
      have ft := cells_of hfl H7.out.1
      have x0 := ft 0 (by omega)
      have x1 := ft 1 (by omega)
      have x2 := ft 2 (by omega)
      have x3 := ft 3 (by omega)
      have x4 := ft 4 (by omega)
      have x5 := ft 5 (by omega)
      have x6 := ft 6 (by omega)
      have x7 := ft 7 (by omega)
      have x8 := ft 8 (by omega)
      have x9 := ft 9 (by omega)
      have x10 := ft 10 (by omega)
      have x11 := ft 11 (by omega)
      have x12 := ft 12 (by omega)
      have x13 := ft 13 (by omega)
      have x14 := ft 14 (by omega)
      clear ft ht k1 k2 k3 HB
      obtain ⟨d0, d1, d2, d3, d4, d5, d6, d7, d8, d9, d10, d11, d12, d13, d14, rfl⟩ := fifteen hfl
      simp only [List.getD_cons_succ, List.getD_cons_zero] at x0 x1 x2 x3 x4 x5 x6 x7 x8 x9 x10 x11 x12 x13 x14
      subst hF0
      go_wp2_with (first
        | (go_at_call 14; refine HTX.out.mono ?_; rintro e w7 ⟨rfl, hb7⟩))
      go_ret
      exact ⟨rfl, H7.out.2.trans (hb7.mono H7.out.2.size)⟩
    · have hF1 : (F == 0) = false := by simpa using hF0
      have hF2 : (F != 0) = true := by simpa using hF0
      clear hF HB
      go_wp2
      go_ret
      exact ⟨rfl, H7.out.2⟩
  case inr.inr =>
    go_wp2_with (first
      | (refine wl_new hdl rfl _ _ rfl rfl rfl rfl ?_))
    refine hrd.mono ?_
    rintro e w5 ⟨rfl, hb5⟩
    have H6 : Hid (Below w.heap.size w w5) := H5.out.2.trans (hb5.mono H5.out.2.size)
    clear hb5 H5 hrd H4 HX HY
    generalize rdL T.data.toList = X at *
    generalize hF : rdE T.data.toList = F at *
    have HN : Hid ((w5.alloc (.cells (cc X) 23)).heap[w5.heap.size]? = some (.cells (cc X) 23 (0, 0))) := heap_alloc_new _ _
    go_wp2_with (first
      | (refine wl_new hfl rfl _ _ rfl rfl rfl rfl ?_)
      | (refine wl_load hfl rfl _ rfl rfl HN.out ?_))
    refine (check_any X hfl _).mono ?_
    rintro e w6 ⟨rfl, hb6⟩
    have H7 : Hid (w6.heap[w5.heap.size]? = some (.cells (cc X) 23 (0, 0)) ∧ Below w.heap.size w w6) := ⟨keep_blk hb6 HN.out, (H6.out.alloc H6.out.size _).trans (hb6.mono (by have := H6.out.size; simp; omega))⟩
    clear hb6 HN H6
    by_cases hF0 : F = 0
    · obtain ⟨k1, k2, k3⟩ := HB.out hF0
      have ht := text_any X hfl k3 w6 (HE.out.below H7.out.2)
      rw [k1, mk_data] at ht
      have HTX := Hid.mk' ht
      rw [k2]
      have ft := cells_of hfl H7.out.1
      have x0 := ft 0 (by omega)
      have x1 := ft 1 (by omega)
      have x2 := ft 2 (by omega)
      have x3 := ft 3 (by omega)
      have x4 := ft 4 (by omega)
      have x5 := ft 5 (by omega)
      have x6 := ft 6 (by omega)
      have x7 := ft 7 (by omega)
      have x8 := ft 8 (by omega)
      have x9 := ft 9 (by omega)
      have x10 := ft 10 (by omega)
      have x11 := ft 11 (by omega)
      have x12 := ft 12 (by omega)
      have x13 := ft 13 (by omega)
      have x14 := ft 14 (by omega)
      clear ft ht k1 k2 k3 HB
      obtain ⟨d0, d1, d2, d3, d4, d5, d6, d7, d8, d9, d10, d11, d12, d13, d14, rfl⟩ := fifteen hfl
      simp only [List.getD_cons_succ, List.getD_cons_zero] at x0 x1 x2 x3 x4 x5 x6 x7 x8 x9 x10 x11 x12 x13 x14
      subst hF0
      go_wp2_with (first
        | (go_at_call 14; refine HTX.out.mono ?_; rintro e w7 ⟨rfl, hb7⟩))
      go_ret
      exact ⟨rfl, H7.out.2.trans (hb7.mono H7.out.2.size)⟩
    · have hF1 : (F == 0) = false := by simpa using hF0
      have hF2 : (F != 0) = true := by simpa using hF0
      clear hF HB
      go_wp2
      go_ret
      exact ⟨rfl, H7.out.2⟩

end Go.Proofs.YtmhigndplbdknaaDoor
