/-
  What the document's own calls do: Through, Greet, Bind, Sent, Got, Free, Kill, Old and Stale, each as a contract. Conditions: what always holds of a connection holds of it.
-/
import Derived.Test.YtnbpkjfaopfapaaDoorStep
import Derived.Deep.CutBlock
namespace Go.Proofs.YtnbpkjfaopfapaaDoor
open Go.ChangeShapes Go.WideShapes Go.ChangeAt Go.RowKit

theorem rcut_any (n : Int) (w : World) :
    Calls Tryd.prog 49 #[.int .i64 n] w fun e w' => e = .returned (.int .i64 (cut n)) ∧ w' = w := by
  by_cases h0 : n < 0
  · go_enter Tryd.func49, Tryd.ntmps49
    go_wp2
    go_ret
    exact ⟨ret_int (cut_neg h0).symm, rfl⟩
  · by_cases h1 : 1099511627776 < n
    · go_enter Tryd.func49, Tryd.ntmps49
      go_wp2
      go_ret
      exact ⟨ret_int (cut_big h1).symm, rfl⟩
    · go_enter Tryd.func49, Tryd.ntmps49
      go_wp2
      go_ret
      exact ⟨ret_int (cut_mid (by omega) (by omega)).symm, rfl⟩
theorem radd_any (a b : Int) (w : World) :
    Calls Tryd.prog 40 #[.int .i64 a, .int .i64 b] w fun e w' => e = .returned (.int .i64 (add a b)) ∧ w' = w := by
  have a1 := cut_lo a
  have a2 := cut_hi a
  have b1 := cut_lo b
  have b2 := cut_hi b
  go_enter Tryd.func40, Tryd.ntmps40
  go_wp2_with (go_at_call 49; refine (rcut_any _ _).mono ?_; rintro e w' ⟨rfl, rfl⟩)
  go_ret
  exact ⟨rfl, rfl⟩
theorem rpast_any (now d : Int) (w : World) :
    Calls Tryd.prog 38 #[.int .i64 now, .int .i64 d] w fun e w' => e = .returned (.bool (past now d)) ∧ w' = w := by
  go_enter Tryd.func38, Tryd.ntmps38
  go_wp2_with (go_at_call 49; refine (rcut_any _ _).mono ?_; rintro e w' ⟨rfl, rfl⟩)
  go_ret
  exact ⟨rfl, rfl⟩

/-- The document's connection. -/
def rv (h : ByteArray) (s : Bk) : Value := .agg #[.int .i64 s.st, .string h, .int .i64 s.bo, .int .i64 s.dl, .int .i64 s.si, .int .i64 s.cl, .int .i64 s.ow]
def RAt (w : World) (g : Nat) (h : ByteArray) (s : Bk) : Prop := Cells7 w g 27 (.int .i64 s.st) (.string h) (.int .i64 s.bo) (.int .i64 s.dl) (.int .i64 s.si) (.int .i64 s.cl) (.int .i64 s.ow)
def z7 : Obj := .cells #[.int .i64 0, .string ⟨#[]⟩, .int .i64 0, .int .i64 0, .int .i64 0, .int .i64 0, .int .i64 0] 27
section
variable {w : World} {g : Nat} {t : TypeId} {v0 v1 v2 v3 v4 v5 v6 : Value}
theorem Cells7.put (h : Cells7 w g t v0 v1 v2 v3 v4 v5 v6) (u0 u1 u2 u3 u4 u5 u6 : Value) :
    Cells7 (((((((w.setCell ⟨g, 0, none⟩ u0).setCell ⟨g, 1, none⟩ u1).setCell ⟨g, 2, none⟩ u2).setCell ⟨g, 3, none⟩ u3).setCell ⟨g, 4, none⟩ u4).setCell ⟨g, 5, none⟩ u5).setCell ⟨g, 6, none⟩ u6) g t u0 u1 u2 u3 u4 u5 u6 ∧ Keep (fun k => k ≠ g) w (((((((w.setCell ⟨g, 0, none⟩ u0).setCell ⟨g, 1, none⟩ u1).setCell ⟨g, 2, none⟩ u2).setCell ⟨g, 3, none⟩ u3).setCell ⟨g, 4, none⟩ u4).setCell ⟨g, 5, none⟩ u5).setCell ⟨g, 6, none⟩ u6) :=
  ⟨(((((((h.set0 u0).set1 u1).set2 u2).set3 u3).set4 u4).set5 u5).set6 u6), (((((((Keep.refl _ w).setCell (fun hn => hn rfl) _).setCell (fun hn => hn rfl) _).setCell (fun hn => hn rfl) _).setCell (fun hn => hn rfl) _).setCell (fun hn => hn rfl) _).setCell (fun hn => hn rfl) _).setCell (fun hn => hn rfl) _⟩
end
/-- The two blocks of a call of its own: its connection, and its result. -/
theorem two_boxes (w : World) (v0 v1 v2 v3 v4 v5 v6 : Value) :
    Cells7 ((w.alloc (.cells #[v0, v1, v2, v3, v4, v5, v6] 27)).alloc (.cells #[.int .i64 0, .string ⟨#[]⟩, .int .i64 0, .int .i64 0, .int .i64 0, .int .i64 0, .int .i64 0] 27)) w.heap.size 27 v0 v1 v2 v3 v4 v5 v6 ∧
    Cells7 ((w.alloc (.cells #[v0, v1, v2, v3, v4, v5, v6] 27)).alloc (.cells #[.int .i64 0, .string ⟨#[]⟩, .int .i64 0, .int .i64 0, .int .i64 0, .int .i64 0, .int .i64 0] 27)) (w.heap.size + 1) 27 (.int .i64 0) (.string ⟨#[]⟩) (.int .i64 0) (.int .i64 0) (.int .i64 0) (.int .i64 0) (.int .i64 0) ∧
    Below w.heap.size w ((w.alloc (.cells #[v0, v1, v2, v3, v4, v5, v6] 27)).alloc (.cells #[.int .i64 0, .string ⟨#[]⟩, .int .i64 0, .int .i64 0, .int .i64 0, .int .i64 0, .int .i64 0] 27)) := by
  refine ⟨?_, ?_, ((Below.refl _ w).alloc (Nat.le_refl _) _).alloc (by simp) _⟩
  · unfold Cells7
    rw [Below.heap_alloc _ _ _ (by simp)]
    exact heap_alloc_new _ _
  · unfold Cells7
    have := heap_alloc_new (w.alloc (.cells #[v0, v1, v2, v3, v4, v5, v6] 27)) (.cells #[.int .i64 0, .string ⟨#[]⟩, .int .i64 0, .int .i64 0, .int .i64 0, .int .i64 0, .int .i64 0] 27)
    rwa [World.size_alloc] at this

set_option maxHeartbeats 2000000 in
set_option maxRecDepth 100000 in
theorem rthr_no (h : ByteArray) (st si cl ow bo dl a b : Int) (k0 : (st != 0) = true) (w : World) :
    Calls Tryd.prog 29 #[.agg #[.int .i64 st, .string h, .int .i64 bo, .int .i64 dl, .int .i64 si, .int .i64 cl, .int .i64 ow], .int .i64 a, .int .i64 b] w fun e w' => e = .returned (.tuple #[.agg #[.int .i64 st, .string h, .int .i64 bo, .int .i64 dl, .int .i64 si, .int .i64 cl, .int .i64 ow], .bool false]) ∧ Below w.heap.size w w' := by
  obtain ⟨Q1, Q2, hbl⟩ := two_boxes w (.int .i64 st) (.string h) (.int .i64 bo) (.int .i64 dl) (.int .i64 si) (.int .i64 cl) (.int .i64 ow)
  go_enter Tryd.func29, Tryd.ntmps29
  go_upto_region 1 with fail
  generalize (w.alloc (.cells #[.int .i64 st, .string h, .int .i64 bo, .int .i64 dl, .int .i64 si, .int .i64 cl, .int .i64 ow] 27)).alloc (.cells #[.int .i64 0, .string ⟨#[]⟩, .int .i64 0, .int .i64 0, .int .i64 0, .int .i64 0, .int .i64 0] 27) = W at *
  have HB := Hid.mk' hbl
  obtain ⟨p2, hp2⟩ : ∃ p, w.heap.size + 1 = p := ⟨_, rfl⟩
  obtain ⟨p1, hp1⟩ : ∃ p, w.heap.size = p := ⟨_, rfl⟩
  rw [hp2] at Q2
  try rw [hp2]
  rw [hp1] at Q1
  try rw [hp1]
  have HP : Hid (w.heap.size = p1 ∧ p2 = p1 + 1) := ⟨hp1, by omega⟩
  have hne : p1 ≠ p2 := by omega
  have hne2 : p2 ≠ p1 := by omega
  clear hp1 hp2 hbl
  have hk0 : Keep (fun k => k ≠ p1) W W := Keep.refl _ _
  have hk1 : Keep (fun k => k ≠ p1) W W := hk0
  have Q3 := Q2.keep hk1 hne2
  have HZ := Hid.mk' (Q3.put (.int .i64 st) (.string h) (.int .i64 bo) (.int .i64 dl) (.int .i64 si) (.int .i64 cl) (.int .i64 ow))
  have HK := Hid.mk' hk1
  obtain ⟨⟨c0, c1, c2⟩, c3, c4, c5, c6⟩ := Q1.cells
  obtain ⟨⟨d0, d1, d2⟩, d3, d4, d5, d6⟩ := Q2.cells
  have e0 := Q2.fz 0
  have e1 := Q2.fz 1
  have e2 := Q2.fz 2
  have e3 := Q2.fz 3
  have e4 := Q2.fz 4
  have e5 := Q2.fz 5
  have e6 := Q2.fz 6
  clear hk0 hk1 Q1 Q2 Q3
  go_wp2
  generalize (((((((W.setCell ⟨p2, 0, none⟩ (.int .i64 st)).setCell ⟨p2, 1, none⟩ (.string h)).setCell ⟨p2, 2, none⟩ (.int .i64 bo)).setCell ⟨p2, 3, none⟩ (.int .i64 dl)).setCell ⟨p2, 4, none⟩ (.int .i64 si)).setCell ⟨p2, 5, none⟩ (.int .i64 cl)).setCell ⟨p2, 6, none⟩ (.int .i64 ow)) = w9 at *
  obtain ⟨⟨z0, z1, z2⟩, z3, z4, z5, z6⟩ := Cells7.cells HZ.out.1
  refine bodyPost_ret (v := .tuple #[.agg #[.int .i64 st, .string h, .int .i64 bo, .int .i64 dl, .int .i64 si, .int .i64 cl, .int .i64 ow], .bool false]) (by simp [results, Tryd.results29, go_sem, z0, z1, z2, z3, z4, z5, z6]) rfl ?_
  obtain ⟨hp1, hp2⟩ := HP.out
  have HF : Keep (fun k => k < p1) W w9 := (HK.out.mono fun k _ hk => by omega).trans (HZ.out.2.mono fun k _ hk => by omega)
  exact ⟨rfl, HB.out.trans (HF.below HB.out.size (fun k hk => by omega))⟩

set_option maxHeartbeats 2000000 in
set_option maxRecDepth 100000 in
theorem rthr_yes (h : ByteArray) (si cl ow bo dl a b : Int)  (w : World) :
    Calls Tryd.prog 29 #[.agg #[.int .i64 0, .string h, .int .i64 bo, .int .i64 dl, .int .i64 si, .int .i64 cl, .int .i64 ow], .int .i64 a, .int .i64 b] w fun e w' => e = .returned (.tuple #[.agg #[.int .i64 1, .string h, .int .i64 (cut a), .int .i64 (cut b), .int .i64 si, .int .i64 cl, .int .i64 ow], .bool true]) ∧ Below w.heap.size w w' := by
  obtain ⟨Q1, Q2, hbl⟩ := two_boxes w (.int .i64 0) (.string h) (.int .i64 bo) (.int .i64 dl) (.int .i64 si) (.int .i64 cl) (.int .i64 ow)
  go_enter Tryd.func29, Tryd.ntmps29
  go_upto_region 1 with fail
  generalize (w.alloc (.cells #[.int .i64 0, .string h, .int .i64 bo, .int .i64 dl, .int .i64 si, .int .i64 cl, .int .i64 ow] 27)).alloc (.cells #[.int .i64 0, .string ⟨#[]⟩, .int .i64 0, .int .i64 0, .int .i64 0, .int .i64 0, .int .i64 0] 27) = W at *
  have HB := Hid.mk' hbl
  obtain ⟨p2, hp2⟩ : ∃ p, w.heap.size + 1 = p := ⟨_, rfl⟩
  obtain ⟨p1, hp1⟩ : ∃ p, w.heap.size = p := ⟨_, rfl⟩
  rw [hp2] at Q2
  try rw [hp2]
  rw [hp1] at Q1
  try rw [hp1]
  have HP : Hid (w.heap.size = p1 ∧ p2 = p1 + 1) := ⟨hp1, by omega⟩
  have hne : p1 ≠ p2 := by omega
  have hne2 : p2 ≠ p1 := by omega
  clear hp1 hp2 hbl
  have hk0 : Keep (fun k => k ≠ p1) W W := Keep.refl _ _
  have Q1x := Q1.set0 (.int .i64 1)
  have Q1xx := Q1x.set2 (.int .i64 (cut a))
  have Q1xxx := Q1xx.set3 (.int .i64 (cut b))
  have hk1 : Keep (fun k => k ≠ p1) W (((W.setCell ⟨p1, 0, none⟩ (.int .i64 1)).setCell ⟨p1, 2, none⟩ (.int .i64 (cut a))).setCell ⟨p1, 3, none⟩ (.int .i64 (cut b))) := (((Keep.refl _ _).setCell (fun hn => hn rfl) _).setCell (fun hn => hn rfl) _).setCell (fun hn => hn rfl) _
  have Q3 := Q2.keep hk1 hne2
  have HZ := Hid.mk' (Q3.put (.int .i64 1) (.string h) (.int .i64 (cut a)) (.int .i64 (cut b)) (.int .i64 si) (.int .i64 cl) (.int .i64 ow))
  have HK := Hid.mk' hk1
  obtain ⟨⟨c0, c1, c2⟩, c3, c4, c5, c6⟩ := Q1.cells
  obtain ⟨⟨d0, d1, d2⟩, d3, d4, d5, d6⟩ := Q2.cells
  have e0 := Q2.fz 0
  have e1 := Q2.fz 1
  have e2 := Q2.fz 2
  have e3 := Q2.fz 3
  have e4 := Q2.fz 4
  have e5 := Q2.fz 5
  have e6 := Q2.fz 6
  have f0 := Q1.fz 0
  have f2 := Q1.fz 2
  have f3 := Q1.fz 3
  clear hk0 hk1 Q1 Q2 Q3 Q1x Q1xx Q1xxx
  go_wp2_with (go_at_call 49; refine (rcut_any _ _).mono ?_; rintro e w' ⟨rfl, hw'⟩; subst w')
  generalize ((((((((((W.setCell ⟨p1, 0, none⟩ (.int .i64 1)).setCell ⟨p1, 2, none⟩ (.int .i64 (cut a))).setCell ⟨p1, 3, none⟩ (.int .i64 (cut b))).setCell ⟨p2, 0, none⟩ (.int .i64 1)).setCell ⟨p2, 1, none⟩ (.string h)).setCell ⟨p2, 2, none⟩ (.int .i64 (cut a))).setCell ⟨p2, 3, none⟩ (.int .i64 (cut b))).setCell ⟨p2, 4, none⟩ (.int .i64 si)).setCell ⟨p2, 5, none⟩ (.int .i64 cl)).setCell ⟨p2, 6, none⟩ (.int .i64 ow)) = w9 at *
  obtain ⟨⟨z0, z1, z2⟩, z3, z4, z5, z6⟩ := Cells7.cells HZ.out.1
  refine bodyPost_ret (v := .tuple #[.agg #[.int .i64 1, .string h, .int .i64 (cut a), .int .i64 (cut b), .int .i64 si, .int .i64 cl, .int .i64 ow], .bool true]) (by simp [results, Tryd.results29, go_sem, z0, z1, z2, z3, z4, z5, z6]) rfl ?_
  obtain ⟨hp1, hp2⟩ := HP.out
  have HF : Keep (fun k => k < p1) W w9 := (HK.out.mono fun k _ hk => by omega).trans (HZ.out.2.mono fun k _ hk => by omega)
  exact ⟨rfl, HB.out.trans (HF.below HB.out.size (fun k hk => by omega))⟩

set_option maxHeartbeats 2000000 in
set_option maxRecDepth 100000 in
theorem rgre_no (h : ByteArray) (st si cl ow bo dl a : Int) (k0 : (st != 1) = true) (w : World) :
    Calls Tryd.prog 30 #[.agg #[.int .i64 st, .string h, .int .i64 bo, .int .i64 dl, .int .i64 si, .int .i64 cl, .int .i64 ow], .int .i64 a] w fun e w' => e = .returned (.tuple #[.agg #[.int .i64 st, .string h, .int .i64 bo, .int .i64 dl, .int .i64 si, .int .i64 cl, .int .i64 ow], .bool false]) ∧ Below w.heap.size w w' := by
  obtain ⟨Q1, Q2, hbl⟩ := two_boxes w (.int .i64 st) (.string h) (.int .i64 bo) (.int .i64 dl) (.int .i64 si) (.int .i64 cl) (.int .i64 ow)
  go_enter Tryd.func30, Tryd.ntmps30
  go_upto_region 1 with fail
  generalize (w.alloc (.cells #[.int .i64 st, .string h, .int .i64 bo, .int .i64 dl, .int .i64 si, .int .i64 cl, .int .i64 ow] 27)).alloc (.cells #[.int .i64 0, .string ⟨#[]⟩, .int .i64 0, .int .i64 0, .int .i64 0, .int .i64 0, .int .i64 0] 27) = W at *
  have HB := Hid.mk' hbl
  obtain ⟨p2, hp2⟩ : ∃ p, w.heap.size + 1 = p := ⟨_, rfl⟩
  obtain ⟨p1, hp1⟩ : ∃ p, w.heap.size = p := ⟨_, rfl⟩
  rw [hp2] at Q2
  try rw [hp2]
  rw [hp1] at Q1
  try rw [hp1]
  have HP : Hid (w.heap.size = p1 ∧ p2 = p1 + 1) := ⟨hp1, by omega⟩
  have hne : p1 ≠ p2 := by omega
  have hne2 : p2 ≠ p1 := by omega
  clear hp1 hp2 hbl
  have hk0 : Keep (fun k => k ≠ p1) W W := Keep.refl _ _
  have hk1 : Keep (fun k => k ≠ p1) W W := hk0
  have Q3 := Q2.keep hk1 hne2
  have HZ := Hid.mk' (Q3.put (.int .i64 st) (.string h) (.int .i64 bo) (.int .i64 dl) (.int .i64 si) (.int .i64 cl) (.int .i64 ow))
  have HK := Hid.mk' hk1
  obtain ⟨⟨c0, c1, c2⟩, c3, c4, c5, c6⟩ := Q1.cells
  obtain ⟨⟨d0, d1, d2⟩, d3, d4, d5, d6⟩ := Q2.cells
  have e0 := Q2.fz 0
  have e1 := Q2.fz 1
  have e2 := Q2.fz 2
  have e3 := Q2.fz 3
  have e4 := Q2.fz 4
  have e5 := Q2.fz 5
  have e6 := Q2.fz 6
  clear hk0 hk1 Q1 Q2 Q3
  go_wp2
  generalize (((((((W.setCell ⟨p2, 0, none⟩ (.int .i64 st)).setCell ⟨p2, 1, none⟩ (.string h)).setCell ⟨p2, 2, none⟩ (.int .i64 bo)).setCell ⟨p2, 3, none⟩ (.int .i64 dl)).setCell ⟨p2, 4, none⟩ (.int .i64 si)).setCell ⟨p2, 5, none⟩ (.int .i64 cl)).setCell ⟨p2, 6, none⟩ (.int .i64 ow)) = w9 at *
  obtain ⟨⟨z0, z1, z2⟩, z3, z4, z5, z6⟩ := Cells7.cells HZ.out.1
  refine bodyPost_ret (v := .tuple #[.agg #[.int .i64 st, .string h, .int .i64 bo, .int .i64 dl, .int .i64 si, .int .i64 cl, .int .i64 ow], .bool false]) (by simp [results, Tryd.results30, go_sem, z0, z1, z2, z3, z4, z5, z6]) rfl ?_
  obtain ⟨hp1, hp2⟩ := HP.out
  have HF : Keep (fun k => k < p1) W w9 := (HK.out.mono fun k _ hk => by omega).trans (HZ.out.2.mono fun k _ hk => by omega)
  exact ⟨rfl, HB.out.trans (HF.below HB.out.size (fun k hk => by omega))⟩

set_option maxHeartbeats 2000000 in
set_option maxRecDepth 100000 in
theorem rgre_yes (h : ByteArray) (si cl ow bo dl a : Int)  (w : World) :
    Calls Tryd.prog 30 #[.agg #[.int .i64 1, .string h, .int .i64 bo, .int .i64 dl, .int .i64 si, .int .i64 cl, .int .i64 ow], .int .i64 a] w fun e w' => e = .returned (.tuple #[.agg #[.int .i64 2, .string h, .int .i64 bo, .int .i64 dl, .int .i64 (cut a), .int .i64 cl, .int .i64 ow], .bool true]) ∧ Below w.heap.size w w' := by
  obtain ⟨Q1, Q2, hbl⟩ := two_boxes w (.int .i64 1) (.string h) (.int .i64 bo) (.int .i64 dl) (.int .i64 si) (.int .i64 cl) (.int .i64 ow)
  go_enter Tryd.func30, Tryd.ntmps30
  go_upto_region 1 with fail
  generalize (w.alloc (.cells #[.int .i64 1, .string h, .int .i64 bo, .int .i64 dl, .int .i64 si, .int .i64 cl, .int .i64 ow] 27)).alloc (.cells #[.int .i64 0, .string ⟨#[]⟩, .int .i64 0, .int .i64 0, .int .i64 0, .int .i64 0, .int .i64 0] 27) = W at *
  have HB := Hid.mk' hbl
  obtain ⟨p2, hp2⟩ : ∃ p, w.heap.size + 1 = p := ⟨_, rfl⟩
  obtain ⟨p1, hp1⟩ : ∃ p, w.heap.size = p := ⟨_, rfl⟩
  rw [hp2] at Q2
  try rw [hp2]
  rw [hp1] at Q1
  try rw [hp1]
  have HP : Hid (w.heap.size = p1 ∧ p2 = p1 + 1) := ⟨hp1, by omega⟩
  have hne : p1 ≠ p2 := by omega
  have hne2 : p2 ≠ p1 := by omega
  clear hp1 hp2 hbl
  have hk0 : Keep (fun k => k ≠ p1) W W := Keep.refl _ _
  have Q1x := Q1.set0 (.int .i64 2)
  have Q1xx := Q1x.set4 (.int .i64 (cut a))
  have hk1 : Keep (fun k => k ≠ p1) W ((W.setCell ⟨p1, 0, none⟩ (.int .i64 2)).setCell ⟨p1, 4, none⟩ (.int .i64 (cut a))) := ((Keep.refl _ _).setCell (fun hn => hn rfl) _).setCell (fun hn => hn rfl) _
  have Q3 := Q2.keep hk1 hne2
  have HZ := Hid.mk' (Q3.put (.int .i64 2) (.string h) (.int .i64 bo) (.int .i64 dl) (.int .i64 (cut a)) (.int .i64 cl) (.int .i64 ow))
  have HK := Hid.mk' hk1
  obtain ⟨⟨c0, c1, c2⟩, c3, c4, c5, c6⟩ := Q1.cells
  obtain ⟨⟨d0, d1, d2⟩, d3, d4, d5, d6⟩ := Q2.cells
  have e0 := Q2.fz 0
  have e1 := Q2.fz 1
  have e2 := Q2.fz 2
  have e3 := Q2.fz 3
  have e4 := Q2.fz 4
  have e5 := Q2.fz 5
  have e6 := Q2.fz 6
  have f0 := Q1.fz 0
  have f4 := Q1.fz 4
  clear hk0 hk1 Q1 Q2 Q3 Q1x Q1xx
  go_wp2_with (go_at_call 49; refine (rcut_any _ _).mono ?_; rintro e w' ⟨rfl, hw'⟩; subst w')
  generalize (((((((((W.setCell ⟨p1, 0, none⟩ (.int .i64 2)).setCell ⟨p1, 4, none⟩ (.int .i64 (cut a))).setCell ⟨p2, 0, none⟩ (.int .i64 2)).setCell ⟨p2, 1, none⟩ (.string h)).setCell ⟨p2, 2, none⟩ (.int .i64 bo)).setCell ⟨p2, 3, none⟩ (.int .i64 dl)).setCell ⟨p2, 4, none⟩ (.int .i64 (cut a))).setCell ⟨p2, 5, none⟩ (.int .i64 cl)).setCell ⟨p2, 6, none⟩ (.int .i64 ow)) = w9 at *
  obtain ⟨⟨z0, z1, z2⟩, z3, z4, z5, z6⟩ := Cells7.cells HZ.out.1
  refine bodyPost_ret (v := .tuple #[.agg #[.int .i64 2, .string h, .int .i64 bo, .int .i64 dl, .int .i64 (cut a), .int .i64 cl, .int .i64 ow], .bool true]) (by simp [results, Tryd.results30, go_sem, z0, z1, z2, z3, z4, z5, z6]) rfl ?_
  obtain ⟨hp1, hp2⟩ := HP.out
  have HF : Keep (fun k => k < p1) W w9 := (HK.out.mono fun k _ hk => by omega).trans (HZ.out.2.mono fun k _ hk => by omega)
  exact ⟨rfl, HB.out.trans (HF.below HB.out.size (fun k hk => by omega))⟩

set_option maxHeartbeats 2000000 in
set_option maxRecDepth 100000 in
theorem rbin_no (h : ByteArray) (st si cl ow bo dl a : Int) (k0 : (st != 2) = true) (w : World) :
    Calls Tryd.prog 31 #[.agg #[.int .i64 st, .string h, .int .i64 bo, .int .i64 dl, .int .i64 si, .int .i64 cl, .int .i64 ow], .int .i64 a] w fun e w' => e = .returned (.tuple #[.agg #[.int .i64 st, .string h, .int .i64 bo, .int .i64 dl, .int .i64 si, .int .i64 cl, .int .i64 ow], .bool false]) ∧ Below w.heap.size w w' := by
  obtain ⟨Q1, Q2, hbl⟩ := two_boxes w (.int .i64 st) (.string h) (.int .i64 bo) (.int .i64 dl) (.int .i64 si) (.int .i64 cl) (.int .i64 ow)
  go_enter Tryd.func31, Tryd.ntmps31
  go_upto_region 1 with fail
  generalize (w.alloc (.cells #[.int .i64 st, .string h, .int .i64 bo, .int .i64 dl, .int .i64 si, .int .i64 cl, .int .i64 ow] 27)).alloc (.cells #[.int .i64 0, .string ⟨#[]⟩, .int .i64 0, .int .i64 0, .int .i64 0, .int .i64 0, .int .i64 0] 27) = W at *
  have HB := Hid.mk' hbl
  obtain ⟨p2, hp2⟩ : ∃ p, w.heap.size + 1 = p := ⟨_, rfl⟩
  obtain ⟨p1, hp1⟩ : ∃ p, w.heap.size = p := ⟨_, rfl⟩
  rw [hp2] at Q2
  try rw [hp2]
  rw [hp1] at Q1
  try rw [hp1]
  have HP : Hid (w.heap.size = p1 ∧ p2 = p1 + 1) := ⟨hp1, by omega⟩
  have hne : p1 ≠ p2 := by omega
  have hne2 : p2 ≠ p1 := by omega
  clear hp1 hp2 hbl
  have hk0 : Keep (fun k => k ≠ p1) W W := Keep.refl _ _
  have hk1 : Keep (fun k => k ≠ p1) W W := hk0
  have Q3 := Q2.keep hk1 hne2
  have HZ := Hid.mk' (Q3.put (.int .i64 st) (.string h) (.int .i64 bo) (.int .i64 dl) (.int .i64 si) (.int .i64 cl) (.int .i64 ow))
  have HK := Hid.mk' hk1
  obtain ⟨⟨c0, c1, c2⟩, c3, c4, c5, c6⟩ := Q1.cells
  obtain ⟨⟨d0, d1, d2⟩, d3, d4, d5, d6⟩ := Q2.cells
  have e0 := Q2.fz 0
  have e1 := Q2.fz 1
  have e2 := Q2.fz 2
  have e3 := Q2.fz 3
  have e4 := Q2.fz 4
  have e5 := Q2.fz 5
  have e6 := Q2.fz 6
  clear hk0 hk1 Q1 Q2 Q3
  go_wp2
  generalize (((((((W.setCell ⟨p2, 0, none⟩ (.int .i64 st)).setCell ⟨p2, 1, none⟩ (.string h)).setCell ⟨p2, 2, none⟩ (.int .i64 bo)).setCell ⟨p2, 3, none⟩ (.int .i64 dl)).setCell ⟨p2, 4, none⟩ (.int .i64 si)).setCell ⟨p2, 5, none⟩ (.int .i64 cl)).setCell ⟨p2, 6, none⟩ (.int .i64 ow)) = w9 at *
  obtain ⟨⟨z0, z1, z2⟩, z3, z4, z5, z6⟩ := Cells7.cells HZ.out.1
  refine bodyPost_ret (v := .tuple #[.agg #[.int .i64 st, .string h, .int .i64 bo, .int .i64 dl, .int .i64 si, .int .i64 cl, .int .i64 ow], .bool false]) (by simp [results, Tryd.results31, go_sem, z0, z1, z2, z3, z4, z5, z6]) rfl ?_
  obtain ⟨hp1, hp2⟩ := HP.out
  have HF : Keep (fun k => k < p1) W w9 := (HK.out.mono fun k _ hk => by omega).trans (HZ.out.2.mono fun k _ hk => by omega)
  exact ⟨rfl, HB.out.trans (HF.below HB.out.size (fun k hk => by omega))⟩

set_option maxHeartbeats 2000000 in
set_option maxRecDepth 100000 in
theorem rbin_no2 (h : ByteArray) (si cl ow bo dl a : Int) (k1 : a < 1) (w : World) :
    Calls Tryd.prog 31 #[.agg #[.int .i64 2, .string h, .int .i64 bo, .int .i64 dl, .int .i64 si, .int .i64 cl, .int .i64 ow], .int .i64 a] w fun e w' => e = .returned (.tuple #[.agg #[.int .i64 2, .string h, .int .i64 bo, .int .i64 dl, .int .i64 si, .int .i64 cl, .int .i64 ow], .bool false]) ∧ Below w.heap.size w w' := by
  obtain ⟨Q1, Q2, hbl⟩ := two_boxes w (.int .i64 2) (.string h) (.int .i64 bo) (.int .i64 dl) (.int .i64 si) (.int .i64 cl) (.int .i64 ow)
  go_enter Tryd.func31, Tryd.ntmps31
  go_upto_region 1 with fail
  generalize (w.alloc (.cells #[.int .i64 2, .string h, .int .i64 bo, .int .i64 dl, .int .i64 si, .int .i64 cl, .int .i64 ow] 27)).alloc (.cells #[.int .i64 0, .string ⟨#[]⟩, .int .i64 0, .int .i64 0, .int .i64 0, .int .i64 0, .int .i64 0] 27) = W at *
  have HB := Hid.mk' hbl
  obtain ⟨p2, hp2⟩ : ∃ p, w.heap.size + 1 = p := ⟨_, rfl⟩
  obtain ⟨p1, hp1⟩ : ∃ p, w.heap.size = p := ⟨_, rfl⟩
  rw [hp2] at Q2
  try rw [hp2]
  rw [hp1] at Q1
  try rw [hp1]
  have HP : Hid (w.heap.size = p1 ∧ p2 = p1 + 1) := ⟨hp1, by omega⟩
  have hne : p1 ≠ p2 := by omega
  have hne2 : p2 ≠ p1 := by omega
  clear hp1 hp2 hbl
  have hk0 : Keep (fun k => k ≠ p1) W W := Keep.refl _ _
  have hk1 : Keep (fun k => k ≠ p1) W W := hk0
  have Q3 := Q2.keep hk1 hne2
  have HZ := Hid.mk' (Q3.put (.int .i64 2) (.string h) (.int .i64 bo) (.int .i64 dl) (.int .i64 si) (.int .i64 cl) (.int .i64 ow))
  have HK := Hid.mk' hk1
  obtain ⟨⟨c0, c1, c2⟩, c3, c4, c5, c6⟩ := Q1.cells
  obtain ⟨⟨d0, d1, d2⟩, d3, d4, d5, d6⟩ := Q2.cells
  have e0 := Q2.fz 0
  have e1 := Q2.fz 1
  have e2 := Q2.fz 2
  have e3 := Q2.fz 3
  have e4 := Q2.fz 4
  have e5 := Q2.fz 5
  have e6 := Q2.fz 6
  clear hk0 hk1 Q1 Q2 Q3
  go_wp2
  generalize (((((((W.setCell ⟨p2, 0, none⟩ (.int .i64 2)).setCell ⟨p2, 1, none⟩ (.string h)).setCell ⟨p2, 2, none⟩ (.int .i64 bo)).setCell ⟨p2, 3, none⟩ (.int .i64 dl)).setCell ⟨p2, 4, none⟩ (.int .i64 si)).setCell ⟨p2, 5, none⟩ (.int .i64 cl)).setCell ⟨p2, 6, none⟩ (.int .i64 ow)) = w9 at *
  obtain ⟨⟨z0, z1, z2⟩, z3, z4, z5, z6⟩ := Cells7.cells HZ.out.1
  refine bodyPost_ret (v := .tuple #[.agg #[.int .i64 2, .string h, .int .i64 bo, .int .i64 dl, .int .i64 si, .int .i64 cl, .int .i64 ow], .bool false]) (by simp [results, Tryd.results31, go_sem, z0, z1, z2, z3, z4, z5, z6]) rfl ?_
  obtain ⟨hp1, hp2⟩ := HP.out
  have HF : Keep (fun k => k < p1) W w9 := (HK.out.mono fun k _ hk => by omega).trans (HZ.out.2.mono fun k _ hk => by omega)
  exact ⟨rfl, HB.out.trans (HF.below HB.out.size (fun k hk => by omega))⟩

set_option maxHeartbeats 2000000 in
set_option maxRecDepth 100000 in
theorem rbin_yes (h : ByteArray) (si cl ow bo dl a : Int) (k1 : 1 ≤ a) (w : World) :
    Calls Tryd.prog 31 #[.agg #[.int .i64 2, .string h, .int .i64 bo, .int .i64 dl, .int .i64 si, .int .i64 cl, .int .i64 ow], .int .i64 a] w fun e w' => e = .returned (.tuple #[.agg #[.int .i64 3, .string h, .int .i64 bo, .int .i64 dl, .int .i64 0, .int .i64 a, .int .i64 0], .bool true]) ∧ Below w.heap.size w w' := by
  obtain ⟨Q1, Q2, hbl⟩ := two_boxes w (.int .i64 2) (.string h) (.int .i64 bo) (.int .i64 dl) (.int .i64 si) (.int .i64 cl) (.int .i64 ow)
  go_enter Tryd.func31, Tryd.ntmps31
  go_upto_region 1 with fail
  generalize (w.alloc (.cells #[.int .i64 2, .string h, .int .i64 bo, .int .i64 dl, .int .i64 si, .int .i64 cl, .int .i64 ow] 27)).alloc (.cells #[.int .i64 0, .string ⟨#[]⟩, .int .i64 0, .int .i64 0, .int .i64 0, .int .i64 0, .int .i64 0] 27) = W at *
  have HB := Hid.mk' hbl
  obtain ⟨p2, hp2⟩ : ∃ p, w.heap.size + 1 = p := ⟨_, rfl⟩
  obtain ⟨p1, hp1⟩ : ∃ p, w.heap.size = p := ⟨_, rfl⟩
  rw [hp2] at Q2
  try rw [hp2]
  rw [hp1] at Q1
  try rw [hp1]
  have HP : Hid (w.heap.size = p1 ∧ p2 = p1 + 1) := ⟨hp1, by omega⟩
  have hne : p1 ≠ p2 := by omega
  have hne2 : p2 ≠ p1 := by omega
  clear hp1 hp2 hbl
  have hk0 : Keep (fun k => k ≠ p1) W W := Keep.refl _ _
  have Q1x := Q1.set0 (.int .i64 3)
  have Q1xx := Q1x.set5 (.int .i64 a)
  have Q1xxx := Q1xx.set6 (.int .i64 0)
  have Q1xxxx := Q1xxx.set4 (.int .i64 0)
  have hk1 : Keep (fun k => k ≠ p1) W ((((W.setCell ⟨p1, 0, none⟩ (.int .i64 3)).setCell ⟨p1, 5, none⟩ (.int .i64 a)).setCell ⟨p1, 6, none⟩ (.int .i64 0)).setCell ⟨p1, 4, none⟩ (.int .i64 0)) := ((((Keep.refl _ _).setCell (fun hn => hn rfl) _).setCell (fun hn => hn rfl) _).setCell (fun hn => hn rfl) _).setCell (fun hn => hn rfl) _
  have Q3 := Q2.keep hk1 hne2
  have HZ := Hid.mk' (Q3.put (.int .i64 3) (.string h) (.int .i64 bo) (.int .i64 dl) (.int .i64 0) (.int .i64 a) (.int .i64 0))
  have HK := Hid.mk' hk1
  obtain ⟨⟨c0, c1, c2⟩, c3, c4, c5, c6⟩ := Q1.cells
  obtain ⟨⟨d0, d1, d2⟩, d3, d4, d5, d6⟩ := Q2.cells
  have e0 := Q2.fz 0
  have e1 := Q2.fz 1
  have e2 := Q2.fz 2
  have e3 := Q2.fz 3
  have e4 := Q2.fz 4
  have e5 := Q2.fz 5
  have e6 := Q2.fz 6
  have f0 := Q1.fz 0
  have f4 := Q1.fz 4
  have f5 := Q1.fz 5
  have f6 := Q1.fz 6
  clear hk0 hk1 Q1 Q2 Q3 Q1x Q1xx Q1xxx Q1xxxx
  go_wp2
  generalize (((((((((((W.setCell ⟨p1, 0, none⟩ (.int .i64 3)).setCell ⟨p1, 5, none⟩ (.int .i64 a)).setCell ⟨p1, 6, none⟩ (.int .i64 0)).setCell ⟨p1, 4, none⟩ (.int .i64 0)).setCell ⟨p2, 0, none⟩ (.int .i64 3)).setCell ⟨p2, 1, none⟩ (.string h)).setCell ⟨p2, 2, none⟩ (.int .i64 bo)).setCell ⟨p2, 3, none⟩ (.int .i64 dl)).setCell ⟨p2, 4, none⟩ (.int .i64 0)).setCell ⟨p2, 5, none⟩ (.int .i64 a)).setCell ⟨p2, 6, none⟩ (.int .i64 0)) = w9 at *
  obtain ⟨⟨z0, z1, z2⟩, z3, z4, z5, z6⟩ := Cells7.cells HZ.out.1
  refine bodyPost_ret (v := .tuple #[.agg #[.int .i64 3, .string h, .int .i64 bo, .int .i64 dl, .int .i64 0, .int .i64 a, .int .i64 0], .bool true]) (by simp [results, Tryd.results31, go_sem, z0, z1, z2, z3, z4, z5, z6]) rfl ?_
  obtain ⟨hp1, hp2⟩ := HP.out
  have HF : Keep (fun k => k < p1) W w9 := (HK.out.mono fun k _ hk => by omega).trans (HZ.out.2.mono fun k _ hk => by omega)
  exact ⟨rfl, HB.out.trans (HF.below HB.out.size (fun k hk => by omega))⟩

set_option maxHeartbeats 2000000 in
set_option maxRecDepth 100000 in
theorem rsen_no (h : ByteArray) (st si cl ow bo dl : Int) (k0 : (st != 3) = true) (w : World) :
    Calls Tryd.prog 32 #[.agg #[.int .i64 st, .string h, .int .i64 bo, .int .i64 dl, .int .i64 si, .int .i64 cl, .int .i64 ow]] w fun e w' => e = .returned (.tuple #[.agg #[.int .i64 st, .string h, .int .i64 bo, .int .i64 dl, .int .i64 si, .int .i64 cl, .int .i64 ow], .bool false]) ∧ Below w.heap.size w w' := by
  obtain ⟨Q1, Q2, hbl⟩ := two_boxes w (.int .i64 st) (.string h) (.int .i64 bo) (.int .i64 dl) (.int .i64 si) (.int .i64 cl) (.int .i64 ow)
  go_enter Tryd.func32, Tryd.ntmps32
  go_upto_region 1 with fail
  generalize (w.alloc (.cells #[.int .i64 st, .string h, .int .i64 bo, .int .i64 dl, .int .i64 si, .int .i64 cl, .int .i64 ow] 27)).alloc (.cells #[.int .i64 0, .string ⟨#[]⟩, .int .i64 0, .int .i64 0, .int .i64 0, .int .i64 0, .int .i64 0] 27) = W at *
  have HB := Hid.mk' hbl
  obtain ⟨p2, hp2⟩ : ∃ p, w.heap.size + 1 = p := ⟨_, rfl⟩
  obtain ⟨p1, hp1⟩ : ∃ p, w.heap.size = p := ⟨_, rfl⟩
  rw [hp2] at Q2
  try rw [hp2]
  rw [hp1] at Q1
  try rw [hp1]
  have HP : Hid (w.heap.size = p1 ∧ p2 = p1 + 1) := ⟨hp1, by omega⟩
  have hne : p1 ≠ p2 := by omega
  have hne2 : p2 ≠ p1 := by omega
  clear hp1 hp2 hbl
  have hk0 : Keep (fun k => k ≠ p1) W W := Keep.refl _ _
  have hk1 : Keep (fun k => k ≠ p1) W W := hk0
  have Q3 := Q2.keep hk1 hne2
  have HZ := Hid.mk' (Q3.put (.int .i64 st) (.string h) (.int .i64 bo) (.int .i64 dl) (.int .i64 si) (.int .i64 cl) (.int .i64 ow))
  have HK := Hid.mk' hk1
  obtain ⟨⟨c0, c1, c2⟩, c3, c4, c5, c6⟩ := Q1.cells
  obtain ⟨⟨d0, d1, d2⟩, d3, d4, d5, d6⟩ := Q2.cells
  have e0 := Q2.fz 0
  have e1 := Q2.fz 1
  have e2 := Q2.fz 2
  have e3 := Q2.fz 3
  have e4 := Q2.fz 4
  have e5 := Q2.fz 5
  have e6 := Q2.fz 6
  clear hk0 hk1 Q1 Q2 Q3
  go_wp2
  generalize (((((((W.setCell ⟨p2, 0, none⟩ (.int .i64 st)).setCell ⟨p2, 1, none⟩ (.string h)).setCell ⟨p2, 2, none⟩ (.int .i64 bo)).setCell ⟨p2, 3, none⟩ (.int .i64 dl)).setCell ⟨p2, 4, none⟩ (.int .i64 si)).setCell ⟨p2, 5, none⟩ (.int .i64 cl)).setCell ⟨p2, 6, none⟩ (.int .i64 ow)) = w9 at *
  obtain ⟨⟨z0, z1, z2⟩, z3, z4, z5, z6⟩ := Cells7.cells HZ.out.1
  refine bodyPost_ret (v := .tuple #[.agg #[.int .i64 st, .string h, .int .i64 bo, .int .i64 dl, .int .i64 si, .int .i64 cl, .int .i64 ow], .bool false]) (by simp [results, Tryd.results32, go_sem, z0, z1, z2, z3, z4, z5, z6]) rfl ?_
  obtain ⟨hp1, hp2⟩ := HP.out
  have HF : Keep (fun k => k < p1) W w9 := (HK.out.mono fun k _ hk => by omega).trans (HZ.out.2.mono fun k _ hk => by omega)
  exact ⟨rfl, HB.out.trans (HF.below HB.out.size (fun k hk => by omega))⟩

set_option maxHeartbeats 2000000 in
set_option maxRecDepth 100000 in
theorem rsen_yes (h : ByteArray) (si cl ow bo dl : Int) (o0 : 0 ≤ ow) (o1 : ow ≤ 1000) (w : World) :
    Calls Tryd.prog 32 #[.agg #[.int .i64 3, .string h, .int .i64 bo, .int .i64 dl, .int .i64 si, .int .i64 cl, .int .i64 ow]] w fun e w' => e = .returned (.tuple #[.agg #[.int .i64 3, .string h, .int .i64 bo, .int .i64 dl, .int .i64 si, .int .i64 cl, .int .i64 (ow + 1)], .bool true]) ∧ Below w.heap.size w w' := by
  obtain ⟨Q1, Q2, hbl⟩ := two_boxes w (.int .i64 3) (.string h) (.int .i64 bo) (.int .i64 dl) (.int .i64 si) (.int .i64 cl) (.int .i64 ow)
  go_enter Tryd.func32, Tryd.ntmps32
  go_upto_region 1 with fail
  generalize (w.alloc (.cells #[.int .i64 3, .string h, .int .i64 bo, .int .i64 dl, .int .i64 si, .int .i64 cl, .int .i64 ow] 27)).alloc (.cells #[.int .i64 0, .string ⟨#[]⟩, .int .i64 0, .int .i64 0, .int .i64 0, .int .i64 0, .int .i64 0] 27) = W at *
  have HB := Hid.mk' hbl
  obtain ⟨p2, hp2⟩ : ∃ p, w.heap.size + 1 = p := ⟨_, rfl⟩
  obtain ⟨p1, hp1⟩ : ∃ p, w.heap.size = p := ⟨_, rfl⟩
  rw [hp2] at Q2
  try rw [hp2]
  rw [hp1] at Q1
  try rw [hp1]
  have HP : Hid (w.heap.size = p1 ∧ p2 = p1 + 1) := ⟨hp1, by omega⟩
  have hne : p1 ≠ p2 := by omega
  have hne2 : p2 ≠ p1 := by omega
  clear hp1 hp2 hbl
  have hk0 : Keep (fun k => k ≠ p1) W W := Keep.refl _ _
  have Q1x := Q1.set6 (.int .i64 (ow + 1))
  have hk1 : Keep (fun k => k ≠ p1) W (W.setCell ⟨p1, 6, none⟩ (.int .i64 (ow + 1))) := (Keep.refl _ _).setCell (fun hn => hn rfl) _
  have Q3 := Q2.keep hk1 hne2
  have HZ := Hid.mk' (Q3.put (.int .i64 3) (.string h) (.int .i64 bo) (.int .i64 dl) (.int .i64 si) (.int .i64 cl) (.int .i64 (ow + 1)))
  have HK := Hid.mk' hk1
  obtain ⟨⟨c0, c1, c2⟩, c3, c4, c5, c6⟩ := Q1.cells
  obtain ⟨⟨d0, d1, d2⟩, d3, d4, d5, d6⟩ := Q2.cells
  have e0 := Q2.fz 0
  have e1 := Q2.fz 1
  have e2 := Q2.fz 2
  have e3 := Q2.fz 3
  have e4 := Q2.fz 4
  have e5 := Q2.fz 5
  have e6 := Q2.fz 6
  have f6 := Q1.fz 6
  clear hk0 hk1 Q1 Q2 Q3 Q1x
  go_wp2
  generalize ((((((((W.setCell ⟨p1, 6, none⟩ (.int .i64 (ow + 1))).setCell ⟨p2, 0, none⟩ (.int .i64 3)).setCell ⟨p2, 1, none⟩ (.string h)).setCell ⟨p2, 2, none⟩ (.int .i64 bo)).setCell ⟨p2, 3, none⟩ (.int .i64 dl)).setCell ⟨p2, 4, none⟩ (.int .i64 si)).setCell ⟨p2, 5, none⟩ (.int .i64 cl)).setCell ⟨p2, 6, none⟩ (.int .i64 (ow + 1))) = w9 at *
  obtain ⟨⟨z0, z1, z2⟩, z3, z4, z5, z6⟩ := Cells7.cells HZ.out.1
  refine bodyPost_ret (v := .tuple #[.agg #[.int .i64 3, .string h, .int .i64 bo, .int .i64 dl, .int .i64 si, .int .i64 cl, .int .i64 (ow + 1)], .bool true]) (by simp [results, Tryd.results32, go_sem, z0, z1, z2, z3, z4, z5, z6]) rfl ?_
  obtain ⟨hp1, hp2⟩ := HP.out
  have HF : Keep (fun k => k < p1) W w9 := (HK.out.mono fun k _ hk => by omega).trans (HZ.out.2.mono fun k _ hk => by omega)
  exact ⟨rfl, HB.out.trans (HF.below HB.out.size (fun k hk => by omega))⟩

set_option maxHeartbeats 2000000 in
set_option maxRecDepth 100000 in
theorem rgot_no (h : ByteArray) (st si cl ow bo dl : Int) (k0 : (st != 3) = true) (w : World) :
    Calls Tryd.prog 33 #[.agg #[.int .i64 st, .string h, .int .i64 bo, .int .i64 dl, .int .i64 si, .int .i64 cl, .int .i64 ow]] w fun e w' => e = .returned (.tuple #[.agg #[.int .i64 st, .string h, .int .i64 bo, .int .i64 dl, .int .i64 si, .int .i64 cl, .int .i64 ow], .bool false]) ∧ Below w.heap.size w w' := by
  obtain ⟨Q1, Q2, hbl⟩ := two_boxes w (.int .i64 st) (.string h) (.int .i64 bo) (.int .i64 dl) (.int .i64 si) (.int .i64 cl) (.int .i64 ow)
  go_enter Tryd.func33, Tryd.ntmps33
  go_upto_region 1 with fail
  generalize (w.alloc (.cells #[.int .i64 st, .string h, .int .i64 bo, .int .i64 dl, .int .i64 si, .int .i64 cl, .int .i64 ow] 27)).alloc (.cells #[.int .i64 0, .string ⟨#[]⟩, .int .i64 0, .int .i64 0, .int .i64 0, .int .i64 0, .int .i64 0] 27) = W at *
  have HB := Hid.mk' hbl
  obtain ⟨p2, hp2⟩ : ∃ p, w.heap.size + 1 = p := ⟨_, rfl⟩
  obtain ⟨p1, hp1⟩ : ∃ p, w.heap.size = p := ⟨_, rfl⟩
  rw [hp2] at Q2
  try rw [hp2]
  rw [hp1] at Q1
  try rw [hp1]
  have HP : Hid (w.heap.size = p1 ∧ p2 = p1 + 1) := ⟨hp1, by omega⟩
  have hne : p1 ≠ p2 := by omega
  have hne2 : p2 ≠ p1 := by omega
  clear hp1 hp2 hbl
  have hk0 : Keep (fun k => k ≠ p1) W W := Keep.refl _ _
  have hk1 : Keep (fun k => k ≠ p1) W W := hk0
  have Q3 := Q2.keep hk1 hne2
  have HZ := Hid.mk' (Q3.put (.int .i64 st) (.string h) (.int .i64 bo) (.int .i64 dl) (.int .i64 si) (.int .i64 cl) (.int .i64 ow))
  have HK := Hid.mk' hk1
  obtain ⟨⟨c0, c1, c2⟩, c3, c4, c5, c6⟩ := Q1.cells
  obtain ⟨⟨d0, d1, d2⟩, d3, d4, d5, d6⟩ := Q2.cells
  have e0 := Q2.fz 0
  have e1 := Q2.fz 1
  have e2 := Q2.fz 2
  have e3 := Q2.fz 3
  have e4 := Q2.fz 4
  have e5 := Q2.fz 5
  have e6 := Q2.fz 6
  clear hk0 hk1 Q1 Q2 Q3
  go_wp2
  generalize (((((((W.setCell ⟨p2, 0, none⟩ (.int .i64 st)).setCell ⟨p2, 1, none⟩ (.string h)).setCell ⟨p2, 2, none⟩ (.int .i64 bo)).setCell ⟨p2, 3, none⟩ (.int .i64 dl)).setCell ⟨p2, 4, none⟩ (.int .i64 si)).setCell ⟨p2, 5, none⟩ (.int .i64 cl)).setCell ⟨p2, 6, none⟩ (.int .i64 ow)) = w9 at *
  obtain ⟨⟨z0, z1, z2⟩, z3, z4, z5, z6⟩ := Cells7.cells HZ.out.1
  refine bodyPost_ret (v := .tuple #[.agg #[.int .i64 st, .string h, .int .i64 bo, .int .i64 dl, .int .i64 si, .int .i64 cl, .int .i64 ow], .bool false]) (by simp [results, Tryd.results33, go_sem, z0, z1, z2, z3, z4, z5, z6]) rfl ?_
  obtain ⟨hp1, hp2⟩ := HP.out
  have HF : Keep (fun k => k < p1) W w9 := (HK.out.mono fun k _ hk => by omega).trans (HZ.out.2.mono fun k _ hk => by omega)
  exact ⟨rfl, HB.out.trans (HF.below HB.out.size (fun k hk => by omega))⟩

set_option maxHeartbeats 2000000 in
set_option maxRecDepth 100000 in
theorem rgot_no2 (h : ByteArray) (si cl bo dl : Int)  (w : World) :
    Calls Tryd.prog 33 #[.agg #[.int .i64 3, .string h, .int .i64 bo, .int .i64 dl, .int .i64 si, .int .i64 cl, .int .i64 0]] w fun e w' => e = .returned (.tuple #[.agg #[.int .i64 3, .string h, .int .i64 bo, .int .i64 dl, .int .i64 si, .int .i64 cl, .int .i64 0], .bool false]) ∧ Below w.heap.size w w' := by
  obtain ⟨Q1, Q2, hbl⟩ := two_boxes w (.int .i64 3) (.string h) (.int .i64 bo) (.int .i64 dl) (.int .i64 si) (.int .i64 cl) (.int .i64 0)
  go_enter Tryd.func33, Tryd.ntmps33
  go_upto_region 1 with fail
  generalize (w.alloc (.cells #[.int .i64 3, .string h, .int .i64 bo, .int .i64 dl, .int .i64 si, .int .i64 cl, .int .i64 0] 27)).alloc (.cells #[.int .i64 0, .string ⟨#[]⟩, .int .i64 0, .int .i64 0, .int .i64 0, .int .i64 0, .int .i64 0] 27) = W at *
  have HB := Hid.mk' hbl
  obtain ⟨p2, hp2⟩ : ∃ p, w.heap.size + 1 = p := ⟨_, rfl⟩
  obtain ⟨p1, hp1⟩ : ∃ p, w.heap.size = p := ⟨_, rfl⟩
  rw [hp2] at Q2
  try rw [hp2]
  rw [hp1] at Q1
  try rw [hp1]
  have HP : Hid (w.heap.size = p1 ∧ p2 = p1 + 1) := ⟨hp1, by omega⟩
  have hne : p1 ≠ p2 := by omega
  have hne2 : p2 ≠ p1 := by omega
  clear hp1 hp2 hbl
  have hk0 : Keep (fun k => k ≠ p1) W W := Keep.refl _ _
  have hk1 : Keep (fun k => k ≠ p1) W W := hk0
  have Q3 := Q2.keep hk1 hne2
  have HZ := Hid.mk' (Q3.put (.int .i64 3) (.string h) (.int .i64 bo) (.int .i64 dl) (.int .i64 si) (.int .i64 cl) (.int .i64 0))
  have HK := Hid.mk' hk1
  obtain ⟨⟨c0, c1, c2⟩, c3, c4, c5, c6⟩ := Q1.cells
  obtain ⟨⟨d0, d1, d2⟩, d3, d4, d5, d6⟩ := Q2.cells
  have e0 := Q2.fz 0
  have e1 := Q2.fz 1
  have e2 := Q2.fz 2
  have e3 := Q2.fz 3
  have e4 := Q2.fz 4
  have e5 := Q2.fz 5
  have e6 := Q2.fz 6
  clear hk0 hk1 Q1 Q2 Q3
  go_wp2
  generalize (((((((W.setCell ⟨p2, 0, none⟩ (.int .i64 3)).setCell ⟨p2, 1, none⟩ (.string h)).setCell ⟨p2, 2, none⟩ (.int .i64 bo)).setCell ⟨p2, 3, none⟩ (.int .i64 dl)).setCell ⟨p2, 4, none⟩ (.int .i64 si)).setCell ⟨p2, 5, none⟩ (.int .i64 cl)).setCell ⟨p2, 6, none⟩ (.int .i64 0)) = w9 at *
  obtain ⟨⟨z0, z1, z2⟩, z3, z4, z5, z6⟩ := Cells7.cells HZ.out.1
  refine bodyPost_ret (v := .tuple #[.agg #[.int .i64 3, .string h, .int .i64 bo, .int .i64 dl, .int .i64 si, .int .i64 cl, .int .i64 0], .bool false]) (by simp [results, Tryd.results33, go_sem, z0, z1, z2, z3, z4, z5, z6]) rfl ?_
  obtain ⟨hp1, hp2⟩ := HP.out
  have HF : Keep (fun k => k < p1) W w9 := (HK.out.mono fun k _ hk => by omega).trans (HZ.out.2.mono fun k _ hk => by omega)
  exact ⟨rfl, HB.out.trans (HF.below HB.out.size (fun k hk => by omega))⟩

set_option maxHeartbeats 2000000 in
set_option maxRecDepth 100000 in
theorem rgot_yes (h : ByteArray) (si cl ow bo dl : Int) (o0 : 0 < ow) (o1 : ow ≤ 1000) (w : World) :
    Calls Tryd.prog 33 #[.agg #[.int .i64 3, .string h, .int .i64 bo, .int .i64 dl, .int .i64 si, .int .i64 cl, .int .i64 ow]] w fun e w' => e = .returned (.tuple #[.agg #[.int .i64 3, .string h, .int .i64 bo, .int .i64 dl, .int .i64 si, .int .i64 cl, .int .i64 (ow - 1)], .bool true]) ∧ Below w.heap.size w w' := by
  obtain ⟨Q1, Q2, hbl⟩ := two_boxes w (.int .i64 3) (.string h) (.int .i64 bo) (.int .i64 dl) (.int .i64 si) (.int .i64 cl) (.int .i64 ow)
  go_enter Tryd.func33, Tryd.ntmps33
  go_upto_region 1 with fail
  generalize (w.alloc (.cells #[.int .i64 3, .string h, .int .i64 bo, .int .i64 dl, .int .i64 si, .int .i64 cl, .int .i64 ow] 27)).alloc (.cells #[.int .i64 0, .string ⟨#[]⟩, .int .i64 0, .int .i64 0, .int .i64 0, .int .i64 0, .int .i64 0] 27) = W at *
  have HB := Hid.mk' hbl
  obtain ⟨p2, hp2⟩ : ∃ p, w.heap.size + 1 = p := ⟨_, rfl⟩
  obtain ⟨p1, hp1⟩ : ∃ p, w.heap.size = p := ⟨_, rfl⟩
  rw [hp2] at Q2
  try rw [hp2]
  rw [hp1] at Q1
  try rw [hp1]
  have HP : Hid (w.heap.size = p1 ∧ p2 = p1 + 1) := ⟨hp1, by omega⟩
  have hne : p1 ≠ p2 := by omega
  have hne2 : p2 ≠ p1 := by omega
  clear hp1 hp2 hbl
  have hk0 : Keep (fun k => k ≠ p1) W W := Keep.refl _ _
  have Q1x := Q1.set6 (.int .i64 (ow - 1))
  have hk1 : Keep (fun k => k ≠ p1) W (W.setCell ⟨p1, 6, none⟩ (.int .i64 (ow - 1))) := (Keep.refl _ _).setCell (fun hn => hn rfl) _
  have Q3 := Q2.keep hk1 hne2
  have HZ := Hid.mk' (Q3.put (.int .i64 3) (.string h) (.int .i64 bo) (.int .i64 dl) (.int .i64 si) (.int .i64 cl) (.int .i64 (ow - 1)))
  have HK := Hid.mk' hk1
  obtain ⟨⟨c0, c1, c2⟩, c3, c4, c5, c6⟩ := Q1.cells
  obtain ⟨⟨d0, d1, d2⟩, d3, d4, d5, d6⟩ := Q2.cells
  have e0 := Q2.fz 0
  have e1 := Q2.fz 1
  have e2 := Q2.fz 2
  have e3 := Q2.fz 3
  have e4 := Q2.fz 4
  have e5 := Q2.fz 5
  have e6 := Q2.fz 6
  have f6 := Q1.fz 6
  clear hk0 hk1 Q1 Q2 Q3 Q1x
  go_wp2
  generalize ((((((((W.setCell ⟨p1, 6, none⟩ (.int .i64 (ow - 1))).setCell ⟨p2, 0, none⟩ (.int .i64 3)).setCell ⟨p2, 1, none⟩ (.string h)).setCell ⟨p2, 2, none⟩ (.int .i64 bo)).setCell ⟨p2, 3, none⟩ (.int .i64 dl)).setCell ⟨p2, 4, none⟩ (.int .i64 si)).setCell ⟨p2, 5, none⟩ (.int .i64 cl)).setCell ⟨p2, 6, none⟩ (.int .i64 (ow - 1))) = w9 at *
  obtain ⟨⟨z0, z1, z2⟩, z3, z4, z5, z6⟩ := Cells7.cells HZ.out.1
  refine bodyPost_ret (v := .tuple #[.agg #[.int .i64 3, .string h, .int .i64 bo, .int .i64 dl, .int .i64 si, .int .i64 cl, .int .i64 (ow - 1)], .bool true]) (by simp [results, Tryd.results33, go_sem, z0, z1, z2, z3, z4, z5, z6]) rfl ?_
  obtain ⟨hp1, hp2⟩ := HP.out
  have HF : Keep (fun k => k < p1) W w9 := (HK.out.mono fun k _ hk => by omega).trans (HZ.out.2.mono fun k _ hk => by omega)
  exact ⟨rfl, HB.out.trans (HF.below HB.out.size (fun k hk => by omega))⟩

set_option maxHeartbeats 2000000 in
set_option maxRecDepth 100000 in
theorem rfre_no (h : ByteArray) (st si cl ow bo dl a : Int) (k0 : (st != 3) = true) (w : World) :
    Calls Tryd.prog 34 #[.agg #[.int .i64 st, .string h, .int .i64 bo, .int .i64 dl, .int .i64 si, .int .i64 cl, .int .i64 ow], .int .i64 a] w fun e w' => e = .returned (.tuple #[.agg #[.int .i64 st, .string h, .int .i64 bo, .int .i64 dl, .int .i64 si, .int .i64 cl, .int .i64 ow], .bool false]) ∧ Below w.heap.size w w' := by
  obtain ⟨Q1, Q2, hbl⟩ := two_boxes w (.int .i64 st) (.string h) (.int .i64 bo) (.int .i64 dl) (.int .i64 si) (.int .i64 cl) (.int .i64 ow)
  go_enter Tryd.func34, Tryd.ntmps34
  go_upto_region 1 with fail
  generalize (w.alloc (.cells #[.int .i64 st, .string h, .int .i64 bo, .int .i64 dl, .int .i64 si, .int .i64 cl, .int .i64 ow] 27)).alloc (.cells #[.int .i64 0, .string ⟨#[]⟩, .int .i64 0, .int .i64 0, .int .i64 0, .int .i64 0, .int .i64 0] 27) = W at *
  have HB := Hid.mk' hbl
  obtain ⟨p2, hp2⟩ : ∃ p, w.heap.size + 1 = p := ⟨_, rfl⟩
  obtain ⟨p1, hp1⟩ : ∃ p, w.heap.size = p := ⟨_, rfl⟩
  rw [hp2] at Q2
  try rw [hp2]
  rw [hp1] at Q1
  try rw [hp1]
  have HP : Hid (w.heap.size = p1 ∧ p2 = p1 + 1) := ⟨hp1, by omega⟩
  have hne : p1 ≠ p2 := by omega
  have hne2 : p2 ≠ p1 := by omega
  clear hp1 hp2 hbl
  have hk0 : Keep (fun k => k ≠ p1) W W := Keep.refl _ _
  have hk1 : Keep (fun k => k ≠ p1) W W := hk0
  have Q3 := Q2.keep hk1 hne2
  have HZ := Hid.mk' (Q3.put (.int .i64 st) (.string h) (.int .i64 bo) (.int .i64 dl) (.int .i64 si) (.int .i64 cl) (.int .i64 ow))
  have HK := Hid.mk' hk1
  obtain ⟨⟨c0, c1, c2⟩, c3, c4, c5, c6⟩ := Q1.cells
  obtain ⟨⟨d0, d1, d2⟩, d3, d4, d5, d6⟩ := Q2.cells
  have e0 := Q2.fz 0
  have e1 := Q2.fz 1
  have e2 := Q2.fz 2
  have e3 := Q2.fz 3
  have e4 := Q2.fz 4
  have e5 := Q2.fz 5
  have e6 := Q2.fz 6
  clear hk0 hk1 Q1 Q2 Q3
  go_wp2
  generalize (((((((W.setCell ⟨p2, 0, none⟩ (.int .i64 st)).setCell ⟨p2, 1, none⟩ (.string h)).setCell ⟨p2, 2, none⟩ (.int .i64 bo)).setCell ⟨p2, 3, none⟩ (.int .i64 dl)).setCell ⟨p2, 4, none⟩ (.int .i64 si)).setCell ⟨p2, 5, none⟩ (.int .i64 cl)).setCell ⟨p2, 6, none⟩ (.int .i64 ow)) = w9 at *
  obtain ⟨⟨z0, z1, z2⟩, z3, z4, z5, z6⟩ := Cells7.cells HZ.out.1
  refine bodyPost_ret (v := .tuple #[.agg #[.int .i64 st, .string h, .int .i64 bo, .int .i64 dl, .int .i64 si, .int .i64 cl, .int .i64 ow], .bool false]) (by simp [results, Tryd.results34, go_sem, z0, z1, z2, z3, z4, z5, z6]) rfl ?_
  obtain ⟨hp1, hp2⟩ := HP.out
  have HF : Keep (fun k => k < p1) W w9 := (HK.out.mono fun k _ hk => by omega).trans (HZ.out.2.mono fun k _ hk => by omega)
  exact ⟨rfl, HB.out.trans (HF.below HB.out.size (fun k hk => by omega))⟩

set_option maxHeartbeats 2000000 in
set_option maxRecDepth 100000 in
theorem rfre_no2 (h : ByteArray) (si cl ow bo dl a : Int) (k1 : 0 < ow) (w : World) :
    Calls Tryd.prog 34 #[.agg #[.int .i64 3, .string h, .int .i64 bo, .int .i64 dl, .int .i64 si, .int .i64 cl, .int .i64 ow], .int .i64 a] w fun e w' => e = .returned (.tuple #[.agg #[.int .i64 3, .string h, .int .i64 bo, .int .i64 dl, .int .i64 si, .int .i64 cl, .int .i64 ow], .bool false]) ∧ Below w.heap.size w w' := by
  obtain ⟨Q1, Q2, hbl⟩ := two_boxes w (.int .i64 3) (.string h) (.int .i64 bo) (.int .i64 dl) (.int .i64 si) (.int .i64 cl) (.int .i64 ow)
  go_enter Tryd.func34, Tryd.ntmps34
  go_upto_region 1 with fail
  generalize (w.alloc (.cells #[.int .i64 3, .string h, .int .i64 bo, .int .i64 dl, .int .i64 si, .int .i64 cl, .int .i64 ow] 27)).alloc (.cells #[.int .i64 0, .string ⟨#[]⟩, .int .i64 0, .int .i64 0, .int .i64 0, .int .i64 0, .int .i64 0] 27) = W at *
  have HB := Hid.mk' hbl
  obtain ⟨p2, hp2⟩ : ∃ p, w.heap.size + 1 = p := ⟨_, rfl⟩
  obtain ⟨p1, hp1⟩ : ∃ p, w.heap.size = p := ⟨_, rfl⟩
  rw [hp2] at Q2
  try rw [hp2]
  rw [hp1] at Q1
  try rw [hp1]
  have HP : Hid (w.heap.size = p1 ∧ p2 = p1 + 1) := ⟨hp1, by omega⟩
  have hne : p1 ≠ p2 := by omega
  have hne2 : p2 ≠ p1 := by omega
  clear hp1 hp2 hbl
  have hk0 : Keep (fun k => k ≠ p1) W W := Keep.refl _ _
  have hk1 : Keep (fun k => k ≠ p1) W W := hk0
  have Q3 := Q2.keep hk1 hne2
  have HZ := Hid.mk' (Q3.put (.int .i64 3) (.string h) (.int .i64 bo) (.int .i64 dl) (.int .i64 si) (.int .i64 cl) (.int .i64 ow))
  have HK := Hid.mk' hk1
  obtain ⟨⟨c0, c1, c2⟩, c3, c4, c5, c6⟩ := Q1.cells
  obtain ⟨⟨d0, d1, d2⟩, d3, d4, d5, d6⟩ := Q2.cells
  have e0 := Q2.fz 0
  have e1 := Q2.fz 1
  have e2 := Q2.fz 2
  have e3 := Q2.fz 3
  have e4 := Q2.fz 4
  have e5 := Q2.fz 5
  have e6 := Q2.fz 6
  clear hk0 hk1 Q1 Q2 Q3
  go_wp2
  generalize (((((((W.setCell ⟨p2, 0, none⟩ (.int .i64 3)).setCell ⟨p2, 1, none⟩ (.string h)).setCell ⟨p2, 2, none⟩ (.int .i64 bo)).setCell ⟨p2, 3, none⟩ (.int .i64 dl)).setCell ⟨p2, 4, none⟩ (.int .i64 si)).setCell ⟨p2, 5, none⟩ (.int .i64 cl)).setCell ⟨p2, 6, none⟩ (.int .i64 ow)) = w9 at *
  obtain ⟨⟨z0, z1, z2⟩, z3, z4, z5, z6⟩ := Cells7.cells HZ.out.1
  refine bodyPost_ret (v := .tuple #[.agg #[.int .i64 3, .string h, .int .i64 bo, .int .i64 dl, .int .i64 si, .int .i64 cl, .int .i64 ow], .bool false]) (by simp [results, Tryd.results34, go_sem, z0, z1, z2, z3, z4, z5, z6]) rfl ?_
  obtain ⟨hp1, hp2⟩ := HP.out
  have HF : Keep (fun k => k < p1) W w9 := (HK.out.mono fun k _ hk => by omega).trans (HZ.out.2.mono fun k _ hk => by omega)
  exact ⟨rfl, HB.out.trans (HF.below HB.out.size (fun k hk => by omega))⟩

set_option maxHeartbeats 2000000 in
set_option maxRecDepth 100000 in
theorem rfre_yes (h : ByteArray) (si cl bo dl a : Int)  (w : World) :
    Calls Tryd.prog 34 #[.agg #[.int .i64 3, .string h, .int .i64 bo, .int .i64 dl, .int .i64 si, .int .i64 cl, .int .i64 0], .int .i64 a] w fun e w' => e = .returned (.tuple #[.agg #[.int .i64 2, .string h, .int .i64 bo, .int .i64 dl, .int .i64 (cut a), .int .i64 0, .int .i64 0], .bool true]) ∧ Below w.heap.size w w' := by
  obtain ⟨Q1, Q2, hbl⟩ := two_boxes w (.int .i64 3) (.string h) (.int .i64 bo) (.int .i64 dl) (.int .i64 si) (.int .i64 cl) (.int .i64 0)
  go_enter Tryd.func34, Tryd.ntmps34
  go_upto_region 1 with fail
  generalize (w.alloc (.cells #[.int .i64 3, .string h, .int .i64 bo, .int .i64 dl, .int .i64 si, .int .i64 cl, .int .i64 0] 27)).alloc (.cells #[.int .i64 0, .string ⟨#[]⟩, .int .i64 0, .int .i64 0, .int .i64 0, .int .i64 0, .int .i64 0] 27) = W at *
  have HB := Hid.mk' hbl
  obtain ⟨p2, hp2⟩ : ∃ p, w.heap.size + 1 = p := ⟨_, rfl⟩
  obtain ⟨p1, hp1⟩ : ∃ p, w.heap.size = p := ⟨_, rfl⟩
  rw [hp2] at Q2
  try rw [hp2]
  rw [hp1] at Q1
  try rw [hp1]
  have HP : Hid (w.heap.size = p1 ∧ p2 = p1 + 1) := ⟨hp1, by omega⟩
  have hne : p1 ≠ p2 := by omega
  have hne2 : p2 ≠ p1 := by omega
  clear hp1 hp2 hbl
  have hk0 : Keep (fun k => k ≠ p1) W W := Keep.refl _ _
  have Q1x := Q1.set0 (.int .i64 2)
  have Q1xx := Q1x.set5 (.int .i64 0)
  have Q1xxx := Q1xx.set4 (.int .i64 (cut a))
  have hk1 : Keep (fun k => k ≠ p1) W (((W.setCell ⟨p1, 0, none⟩ (.int .i64 2)).setCell ⟨p1, 5, none⟩ (.int .i64 0)).setCell ⟨p1, 4, none⟩ (.int .i64 (cut a))) := (((Keep.refl _ _).setCell (fun hn => hn rfl) _).setCell (fun hn => hn rfl) _).setCell (fun hn => hn rfl) _
  have Q3 := Q2.keep hk1 hne2
  have HZ := Hid.mk' (Q3.put (.int .i64 2) (.string h) (.int .i64 bo) (.int .i64 dl) (.int .i64 (cut a)) (.int .i64 0) (.int .i64 0))
  have HK := Hid.mk' hk1
  obtain ⟨⟨c0, c1, c2⟩, c3, c4, c5, c6⟩ := Q1.cells
  obtain ⟨⟨d0, d1, d2⟩, d3, d4, d5, d6⟩ := Q2.cells
  have e0 := Q2.fz 0
  have e1 := Q2.fz 1
  have e2 := Q2.fz 2
  have e3 := Q2.fz 3
  have e4 := Q2.fz 4
  have e5 := Q2.fz 5
  have e6 := Q2.fz 6
  have f0 := Q1.fz 0
  have f4 := Q1.fz 4
  have f5 := Q1.fz 5
  clear hk0 hk1 Q1 Q2 Q3 Q1x Q1xx Q1xxx
  go_wp2_with (go_at_call 49; refine (rcut_any _ _).mono ?_; rintro e w' ⟨rfl, hw'⟩; subst w')
  generalize ((((((((((W.setCell ⟨p1, 0, none⟩ (.int .i64 2)).setCell ⟨p1, 5, none⟩ (.int .i64 0)).setCell ⟨p1, 4, none⟩ (.int .i64 (cut a))).setCell ⟨p2, 0, none⟩ (.int .i64 2)).setCell ⟨p2, 1, none⟩ (.string h)).setCell ⟨p2, 2, none⟩ (.int .i64 bo)).setCell ⟨p2, 3, none⟩ (.int .i64 dl)).setCell ⟨p2, 4, none⟩ (.int .i64 (cut a))).setCell ⟨p2, 5, none⟩ (.int .i64 0)).setCell ⟨p2, 6, none⟩ (.int .i64 0)) = w9 at *
  obtain ⟨⟨z0, z1, z2⟩, z3, z4, z5, z6⟩ := Cells7.cells HZ.out.1
  refine bodyPost_ret (v := .tuple #[.agg #[.int .i64 2, .string h, .int .i64 bo, .int .i64 dl, .int .i64 (cut a), .int .i64 0, .int .i64 0], .bool true]) (by simp [results, Tryd.results34, go_sem, z0, z1, z2, z3, z4, z5, z6]) rfl ?_
  obtain ⟨hp1, hp2⟩ := HP.out
  have HF : Keep (fun k => k < p1) W w9 := (HK.out.mono fun k _ hk => by omega).trans (HZ.out.2.mono fun k _ hk => by omega)
  exact ⟨rfl, HB.out.trans (HF.below HB.out.size (fun k hk => by omega))⟩

set_option maxHeartbeats 2000000 in
set_option maxRecDepth 100000 in
theorem rkil_no (h : ByteArray) (si cl ow bo dl : Int)  (w : World) :
    Calls Tryd.prog 35 #[.agg #[.int .i64 4, .string h, .int .i64 bo, .int .i64 dl, .int .i64 si, .int .i64 cl, .int .i64 ow]] w fun e w' => e = .returned (.tuple #[.agg #[.int .i64 4, .string h, .int .i64 bo, .int .i64 dl, .int .i64 si, .int .i64 cl, .int .i64 ow], .bool false]) ∧ Below w.heap.size w w' := by
  obtain ⟨Q1, Q2, hbl⟩ := two_boxes w (.int .i64 4) (.string h) (.int .i64 bo) (.int .i64 dl) (.int .i64 si) (.int .i64 cl) (.int .i64 ow)
  go_enter Tryd.func35, Tryd.ntmps35
  go_upto_region 1 with fail
  generalize (w.alloc (.cells #[.int .i64 4, .string h, .int .i64 bo, .int .i64 dl, .int .i64 si, .int .i64 cl, .int .i64 ow] 27)).alloc (.cells #[.int .i64 0, .string ⟨#[]⟩, .int .i64 0, .int .i64 0, .int .i64 0, .int .i64 0, .int .i64 0] 27) = W at *
  have HB := Hid.mk' hbl
  obtain ⟨p2, hp2⟩ : ∃ p, w.heap.size + 1 = p := ⟨_, rfl⟩
  obtain ⟨p1, hp1⟩ : ∃ p, w.heap.size = p := ⟨_, rfl⟩
  rw [hp2] at Q2
  try rw [hp2]
  rw [hp1] at Q1
  try rw [hp1]
  have HP : Hid (w.heap.size = p1 ∧ p2 = p1 + 1) := ⟨hp1, by omega⟩
  have hne : p1 ≠ p2 := by omega
  have hne2 : p2 ≠ p1 := by omega
  clear hp1 hp2 hbl
  have hk0 : Keep (fun k => k ≠ p1) W W := Keep.refl _ _
  have hk1 : Keep (fun k => k ≠ p1) W W := hk0
  have Q3 := Q2.keep hk1 hne2
  have HZ := Hid.mk' (Q3.put (.int .i64 4) (.string h) (.int .i64 bo) (.int .i64 dl) (.int .i64 si) (.int .i64 cl) (.int .i64 ow))
  have HK := Hid.mk' hk1
  obtain ⟨⟨c0, c1, c2⟩, c3, c4, c5, c6⟩ := Q1.cells
  obtain ⟨⟨d0, d1, d2⟩, d3, d4, d5, d6⟩ := Q2.cells
  have e0 := Q2.fz 0
  have e1 := Q2.fz 1
  have e2 := Q2.fz 2
  have e3 := Q2.fz 3
  have e4 := Q2.fz 4
  have e5 := Q2.fz 5
  have e6 := Q2.fz 6
  clear hk0 hk1 Q1 Q2 Q3
  go_wp2
  generalize (((((((W.setCell ⟨p2, 0, none⟩ (.int .i64 4)).setCell ⟨p2, 1, none⟩ (.string h)).setCell ⟨p2, 2, none⟩ (.int .i64 bo)).setCell ⟨p2, 3, none⟩ (.int .i64 dl)).setCell ⟨p2, 4, none⟩ (.int .i64 si)).setCell ⟨p2, 5, none⟩ (.int .i64 cl)).setCell ⟨p2, 6, none⟩ (.int .i64 ow)) = w9 at *
  obtain ⟨⟨z0, z1, z2⟩, z3, z4, z5, z6⟩ := Cells7.cells HZ.out.1
  refine bodyPost_ret (v := .tuple #[.agg #[.int .i64 4, .string h, .int .i64 bo, .int .i64 dl, .int .i64 si, .int .i64 cl, .int .i64 ow], .bool false]) (by simp [results, Tryd.results35, go_sem, z0, z1, z2, z3, z4, z5, z6]) rfl ?_
  obtain ⟨hp1, hp2⟩ := HP.out
  have HF : Keep (fun k => k < p1) W w9 := (HK.out.mono fun k _ hk => by omega).trans (HZ.out.2.mono fun k _ hk => by omega)
  exact ⟨rfl, HB.out.trans (HF.below HB.out.size (fun k hk => by omega))⟩

set_option maxHeartbeats 2000000 in
set_option maxRecDepth 100000 in
theorem rkil_yes (h : ByteArray) (st si cl ow bo dl : Int) (k0 : (st == 4) = false) (w : World) :
    Calls Tryd.prog 35 #[.agg #[.int .i64 st, .string h, .int .i64 bo, .int .i64 dl, .int .i64 si, .int .i64 cl, .int .i64 ow]] w fun e w' => e = .returned (.tuple #[.agg #[.int .i64 4, .string h, .int .i64 bo, .int .i64 dl, .int .i64 0, .int .i64 0, .int .i64 0], .bool true]) ∧ Below w.heap.size w w' := by
  obtain ⟨Q1, Q2, hbl⟩ := two_boxes w (.int .i64 st) (.string h) (.int .i64 bo) (.int .i64 dl) (.int .i64 si) (.int .i64 cl) (.int .i64 ow)
  go_enter Tryd.func35, Tryd.ntmps35
  go_upto_region 1 with fail
  generalize (w.alloc (.cells #[.int .i64 st, .string h, .int .i64 bo, .int .i64 dl, .int .i64 si, .int .i64 cl, .int .i64 ow] 27)).alloc (.cells #[.int .i64 0, .string ⟨#[]⟩, .int .i64 0, .int .i64 0, .int .i64 0, .int .i64 0, .int .i64 0] 27) = W at *
  have HB := Hid.mk' hbl
  obtain ⟨p2, hp2⟩ : ∃ p, w.heap.size + 1 = p := ⟨_, rfl⟩
  obtain ⟨p1, hp1⟩ : ∃ p, w.heap.size = p := ⟨_, rfl⟩
  rw [hp2] at Q2
  try rw [hp2]
  rw [hp1] at Q1
  try rw [hp1]
  have HP : Hid (w.heap.size = p1 ∧ p2 = p1 + 1) := ⟨hp1, by omega⟩
  have hne : p1 ≠ p2 := by omega
  have hne2 : p2 ≠ p1 := by omega
  clear hp1 hp2 hbl
  have hk0 : Keep (fun k => k ≠ p1) W W := Keep.refl _ _
  have Q1x := Q1.set0 (.int .i64 4)
  have Q1xx := Q1x.set5 (.int .i64 0)
  have Q1xxx := Q1xx.set6 (.int .i64 0)
  have Q1xxxx := Q1xxx.set4 (.int .i64 0)
  have hk1 : Keep (fun k => k ≠ p1) W ((((W.setCell ⟨p1, 0, none⟩ (.int .i64 4)).setCell ⟨p1, 5, none⟩ (.int .i64 0)).setCell ⟨p1, 6, none⟩ (.int .i64 0)).setCell ⟨p1, 4, none⟩ (.int .i64 0)) := ((((Keep.refl _ _).setCell (fun hn => hn rfl) _).setCell (fun hn => hn rfl) _).setCell (fun hn => hn rfl) _).setCell (fun hn => hn rfl) _
  have Q3 := Q2.keep hk1 hne2
  have HZ := Hid.mk' (Q3.put (.int .i64 4) (.string h) (.int .i64 bo) (.int .i64 dl) (.int .i64 0) (.int .i64 0) (.int .i64 0))
  have HK := Hid.mk' hk1
  obtain ⟨⟨c0, c1, c2⟩, c3, c4, c5, c6⟩ := Q1.cells
  obtain ⟨⟨d0, d1, d2⟩, d3, d4, d5, d6⟩ := Q2.cells
  have e0 := Q2.fz 0
  have e1 := Q2.fz 1
  have e2 := Q2.fz 2
  have e3 := Q2.fz 3
  have e4 := Q2.fz 4
  have e5 := Q2.fz 5
  have e6 := Q2.fz 6
  have f0 := Q1.fz 0
  have f4 := Q1.fz 4
  have f5 := Q1.fz 5
  have f6 := Q1.fz 6
  clear hk0 hk1 Q1 Q2 Q3 Q1x Q1xx Q1xxx Q1xxxx
  go_wp2
  generalize (((((((((((W.setCell ⟨p1, 0, none⟩ (.int .i64 4)).setCell ⟨p1, 5, none⟩ (.int .i64 0)).setCell ⟨p1, 6, none⟩ (.int .i64 0)).setCell ⟨p1, 4, none⟩ (.int .i64 0)).setCell ⟨p2, 0, none⟩ (.int .i64 4)).setCell ⟨p2, 1, none⟩ (.string h)).setCell ⟨p2, 2, none⟩ (.int .i64 bo)).setCell ⟨p2, 3, none⟩ (.int .i64 dl)).setCell ⟨p2, 4, none⟩ (.int .i64 0)).setCell ⟨p2, 5, none⟩ (.int .i64 0)).setCell ⟨p2, 6, none⟩ (.int .i64 0)) = w9 at *
  obtain ⟨⟨z0, z1, z2⟩, z3, z4, z5, z6⟩ := Cells7.cells HZ.out.1
  refine bodyPost_ret (v := .tuple #[.agg #[.int .i64 4, .string h, .int .i64 bo, .int .i64 dl, .int .i64 0, .int .i64 0, .int .i64 0], .bool true]) (by simp [results, Tryd.results35, go_sem, z0, z1, z2, z3, z4, z5, z6]) rfl ?_
  obtain ⟨hp1, hp2⟩ := HP.out
  have HF : Keep (fun k => k < p1) W w9 := (HK.out.mono fun k _ hk => by omega).trans (HZ.out.2.mono fun k _ hk => by omega)
  exact ⟨rfl, HB.out.trans (HF.below HB.out.size (fun k hk => by omega))⟩

end Go.Proofs.YtnbpkjfaopfapaaDoor
