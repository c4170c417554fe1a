/-
  What the document's own calls do of any connection, and what a step of the document's does, each as a contract. Conditions: what always holds of a connection holds of it.
-/
import Derived.Test.YtnbpkjfaopfapaaDoorRef
namespace Go.Proofs.YtnbpkjfaopfapaaDoor
open Go.ChangeShapes Go.WideShapes Go.ChangeAt Go.RowKit

theorem rthr_any (h : ByteArray) (s : Bk) (a b : Int) (w : World) (hi : Inv s 1000) :
    Calls Tryd.prog 29 #[rv h s, .int .i64 a, .int .i64 b] w fun e w' => e = .returned (.tuple #[rv h (thr s a b).1, .bool (thr s a b).2]) ∧ Below w.heap.size w w' := by
  obtain ⟨h1, h2, h3, h4, h5, h6, h7⟩ := hi
  obtain ⟨st, si, cl, ow, bo, dl⟩ := s
  dsimp only at h1 h2 h3 h4 h5 h6 h7
  by_cases e : st = 0
  · subst e
    obtain ⟨rfl, rfl⟩ := h6 (by decide)
    obtain rfl := h7 (by decide)
    exact rthr_yes h 0 0 0 bo dl a b w
  · rw [show thr ⟨st, si, cl, ow, bo, dl⟩ a b = (⟨st, si, cl, ow, bo, dl⟩, false) from if_neg e]
    exact rthr_no h st si cl ow bo dl a b (by simpa using e) w

theorem rgre_any (h : ByteArray) (s : Bk) (a : Int) (w : World) (hi : Inv s 1000) :
    Calls Tryd.prog 30 #[rv h s, .int .i64 a] w fun e w' => e = .returned (.tuple #[rv h (gre s a).1, .bool (gre s a).2]) ∧ Below w.heap.size w w' := by
  obtain ⟨h1, h2, h3, h4, h5, h6, h7⟩ := hi
  obtain ⟨st, si, cl, ow, bo, dl⟩ := s
  dsimp only at h1 h2 h3 h4 h5 h6 h7
  by_cases e : st = 1
  · subst e
    obtain ⟨rfl, rfl⟩ := h6 (by decide)
    exact rgre_yes h si 0 0 bo dl a w
  · rw [show gre ⟨st, si, cl, ow, bo, dl⟩ a = (⟨st, si, cl, ow, bo, dl⟩, false) from if_neg e]
    exact rgre_no h st si cl ow bo dl a (by simpa using e) w

theorem rbin_any (h : ByteArray) (s : Bk) (a : Int) (w : World) (hi : Inv s 1000) :
    Calls Tryd.prog 31 #[rv h s, .int .i64 a] w fun e w' => e = .returned (.tuple #[rv h (bin s a).1, .bool (bin s a).2]) ∧ Below w.heap.size w w' := by
  obtain ⟨h1, h2, h3, h4, h5, h6, h7⟩ := hi
  obtain ⟨st, si, cl, ow, bo, dl⟩ := s
  dsimp only at h1 h2 h3 h4 h5 h6 h7
  by_cases e : st = 2
  · subst e
    by_cases e2 : 1 ≤ a
    · rw [show bin ⟨2, si, cl, ow, bo, dl⟩ a = (⟨3, 0, a, 0, bo, dl⟩, true) from if_pos ⟨rfl, e2⟩]
      exact rbin_yes h si cl ow bo dl a e2 w
    · rw [show bin ⟨2, si, cl, ow, bo, dl⟩ a = (⟨2, si, cl, ow, bo, dl⟩, false) from if_neg (fun x => e2 x.2)]
      exact rbin_no2 h si cl ow bo dl a (by omega) w
  · rw [show bin ⟨st, si, cl, ow, bo, dl⟩ a = (⟨st, si, cl, ow, bo, dl⟩, false) from if_neg (fun x => e x.1)]
    exact rbin_no h st si cl ow bo dl a (by simpa using e) w

theorem rsen_any (h : ByteArray) (s : Bk) (w : World) (hi : Inv s 1000) :
    Calls Tryd.prog 32 #[rv h s] w fun e w' => e = .returned (.tuple #[rv h (sen s).1, .bool (sen s).2]) ∧ Below w.heap.size w w' := by
  obtain ⟨h1, h2, h3, h4, h5, h6, h7⟩ := hi
  obtain ⟨st, si, cl, ow, bo, dl⟩ := s
  dsimp only at h1 h2 h3 h4 h5 h6 h7
  by_cases e : st = 3
  · subst e
    exact rsen_yes h si cl ow bo dl h3 h4 w
  · rw [show sen ⟨st, si, cl, ow, bo, dl⟩ = (⟨st, si, cl, ow, bo, dl⟩, false) from if_neg e]
    exact rsen_no h st si cl ow bo dl (by simpa using e) w

theorem rgot_any (h : ByteArray) (s : Bk) (w : World) (hi : Inv s 1000) :
    Calls Tryd.prog 33 #[rv h s] w fun e w' => e = .returned (.tuple #[rv h (got s).1, .bool (got s).2]) ∧ Below w.heap.size w w' := by
  obtain ⟨h1, h2, h3, h4, h5, h6, h7⟩ := hi
  obtain ⟨st, si, cl, ow, bo, dl⟩ := s
  dsimp only at h1 h2 h3 h4 h5 h6 h7
  by_cases e : st = 3
  · subst e
    by_cases e2 : 0 < ow
    · rw [show got ⟨3, si, cl, ow, bo, dl⟩ = (⟨3, si, cl, ow - 1, bo, dl⟩, true) from if_pos ⟨rfl, e2⟩]
      exact rgot_yes h si cl ow bo dl e2 h4 w
    · obtain rfl : ow = 0 := by omega
      exact rgot_no2 h si cl bo dl w
  · rw [show got ⟨st, si, cl, ow, bo, dl⟩ = (⟨st, si, cl, ow, bo, dl⟩, false) from if_neg (fun x => e x.1)]
    exact rgot_no h st si cl ow bo dl (by simpa using e) w

theorem rfre_any (h : ByteArray) (s : Bk) (a : Int) (w : World) (hi : Inv s 1000) :
    Calls Tryd.prog 34 #[rv h s, .int .i64 a] w fun e w' => e = .returned (.tuple #[rv h (fre s a).1, .bool (fre s a).2]) ∧ Below w.heap.size w w' := by
  obtain ⟨h1, h2, h3, h4, h5, h6, h7⟩ := hi
  obtain ⟨st, si, cl, ow, bo, dl⟩ := s
  dsimp only at h1 h2 h3 h4 h5 h6 h7
  by_cases e : st = 3
  · subst e
    by_cases e2 : ow = 0
    · subst e2
      exact rfre_yes h si cl bo dl a w
    · rw [show fre ⟨3, si, cl, ow, bo, dl⟩ a = (⟨3, si, cl, ow, bo, dl⟩, false) from if_neg (fun x => e2 x.2)]
      exact rfre_no2 h si cl ow bo dl a (by omega) w
  · rw [show fre ⟨st, si, cl, ow, bo, dl⟩ a = (⟨st, si, cl, ow, bo, dl⟩, false) from if_neg (fun x => e x.1)]
    exact rfre_no h st si cl ow bo dl a (by simpa using e) w

theorem rkil_any (h : ByteArray) (s : Bk) (w : World) (hi : Inv s 1000) :
    Calls Tryd.prog 35 #[rv h s] w fun e w' => e = .returned (.tuple #[rv h (kil s).1, .bool (kil s).2]) ∧ Below w.heap.size w w' := by
  obtain ⟨h1, h2, h3, h4, h5, h6, h7⟩ := hi
  obtain ⟨st, si, cl, ow, bo, dl⟩ := s
  dsimp only at h1 h2 h3 h4 h5 h6 h7
  by_cases e : st = 4
  · subst e
    exact rkil_no h si cl ow bo dl w
  · rw [show kil ⟨st, si, cl, ow, bo, dl⟩ = (⟨4, 0, 0, 0, bo, dl⟩, true) from if_neg e]
    exact rkil_yes h st si cl ow bo dl (by simpa using e) w

theorem one_box (w : World) (v0 v1 v2 v3 v4 v5 v6 : Value) :
    Cells7 (w.alloc (.cells #[v0, v1, v2, v3, v4, v5, v6] 27)) w.heap.size 27 v0 v1 v2 v3 v4 v5 v6 ∧ Below w.heap.size w (w.alloc (.cells #[v0, v1, v2, v3, v4, v5, v6] 27)) :=
  ⟨heap_alloc_new _ _, (Below.refl _ w).alloc (Nat.le_refl _) _⟩

set_option maxHeartbeats 1000000 in
set_option maxRecDepth 100000 in
theorem rold_any (h : ByteArray) (s : Bk) (n : Int) (w : World) (hi : Inv s 1000) :
    Calls Tryd.prog 17 #[rv h s, .int .i64 n] w fun e w' => e = .returned (.bool (oldB s n)) ∧ Below w.heap.size w w' := by
  have h1 := hi.s0
  have h2 := hi.s4
  clear hi
  have HO : Hid (∀ p q r, (s.st == 0) = p → (s.st == 4) = q → past n s.dl = r → oldB s n = (!p && (!q && r))) := fun p q r h1 h2 h3 => by subst h1 h2 h3; rfl
  generalize oldB s n = O at *
  unfold rv
  obtain ⟨st, si, cl, ow, bo, dl⟩ := s
  dsimp only at *
  obtain ⟨Q1, hbl⟩ := one_box w (.int .i64 st) (.string h) (.int .i64 bo) (.int .i64 dl) (.int .i64 si) (.int .i64 cl) (.int .i64 ow)
  have HB := Hid.mk' hbl
  obtain ⟨⟨c0, c1, c2⟩, c3, c4, c5, c6⟩ := Q1.cells
  clear Q1 hbl
  by_cases e0 : st = 0
  · subst e0
    have HR := Hid.mk' (HO.out true false _ rfl rfl rfl)
    clear HO
    go_enter Tryd.func17, Tryd.ntmps17
    go_wp2
    go_ret
    exact ⟨ret_bool (by rw [HR.out]; rfl), HB.out⟩
  · by_cases e4 : st = 4
    · subst e4
      have HR := Hid.mk' (HO.out false true _ rfl rfl rfl)
      clear HO
      go_enter Tryd.func17, Tryd.ntmps17
      go_wp2
      go_ret
      exact ⟨ret_bool (by rw [HR.out]; rfl), HB.out⟩
    · have HR := Hid.mk' (HO.out false false _ (by simpa using e0) (by simpa using e4) rfl)
      have k1 : 1 ≤ st := by omega
      have k2 : st ≤ 3 := by omega
      clear HO e0 e4 h1 h2
      go_enter Tryd.func17, Tryd.ntmps17
      go_wp2_with (go_at_call 38; refine (rpast_any _ _ _).mono ?_; rintro e w' ⟨rfl, hw'⟩; subst w')
      go_ret
      exact ⟨ret_bool (by rw [HR.out]; rfl), HB.out⟩

set_option maxHeartbeats 1000000 in
set_option maxRecDepth 100000 in
theorem rstale_any (h : ByteArray) (s : Bk) (n i : Int) (w : World) :
    Calls Tryd.prog 19 #[rv h s, .int .i64 n, .int .i64 i] w fun e w' => e = .returned (.bool (staB s n i)) ∧ Below w.heap.size w w' := by
  have HO : Hid (∀ p r, (s.st == 2) = p → past n (add s.si i) = r → staB s n i = (p && r)) := fun p r h1 h2 => by subst h1 h2; rfl
  generalize staB s n i = O at *
  unfold rv
  obtain ⟨st, si, cl, ow, bo, dl⟩ := s
  dsimp only at *
  obtain ⟨Q1, hbl⟩ := one_box w (.int .i64 st) (.string h) (.int .i64 bo) (.int .i64 dl) (.int .i64 si) (.int .i64 cl) (.int .i64 ow)
  have HB := Hid.mk' hbl
  obtain ⟨⟨c0, c1, c2⟩, c3, c4, c5, c6⟩ := Q1.cells
  clear Q1 hbl
  by_cases e0 : st = 2
  · subst e0
    have HR := Hid.mk' (HO.out true _ rfl rfl)
    clear HO
    go_enter Tryd.func19, Tryd.ntmps19
    go_wp2_with (first
      | (go_at_call 40; refine (radd_any _ _ _).mono ?_; rintro e w' ⟨rfl, hw'⟩; subst w')
      | (go_at_call 38; refine (rpast_any _ _ _).mono ?_; rintro e w' ⟨rfl, hw'⟩; subst w'))
    go_ret
    exact ⟨ret_bool (by rw [HR.out]; rfl), HB.out⟩
  · have k0 : (st == 2) = false := by simpa using e0
    have HR := Hid.mk' (HO.out false _ k0 rfl)
    clear HO e0
    go_enter Tryd.func19, Tryd.ntmps19
    go_wp2
    go_ret
    exact ⟨ret_bool (by rw [HR.out]; rfl), HB.out⟩

/-- The three blocks of the document's step. -/
theorem three_boxes (w : World) (h : ByteArray) (s : Bk) (k a b : Int) :
    RAt (((w.alloc (.cells #[.int .i64 s.st, .string h, .int .i64 s.bo, .int .i64 s.dl, .int .i64 s.si, .int .i64 s.cl, .int .i64 s.ow] 27)).alloc (.cells #[.int .i64 k, .int .i64 a, .int .i64 b] 30)).alloc (.cells #[.int .i64 0, .string ⟨#[]⟩, .int .i64 0, .int .i64 0, .int .i64 0, .int .i64 0, .int .i64 0] 27)) w.heap.size h s ∧ ((((w.alloc (.cells #[.int .i64 s.st, .string h, .int .i64 s.bo, .int .i64 s.dl, .int .i64 s.si, .int .i64 s.cl, .int .i64 s.ow] 27)).alloc (.cells #[.int .i64 k, .int .i64 a, .int .i64 b] 30)).alloc (.cells #[.int .i64 0, .string ⟨#[]⟩, .int .i64 0, .int .i64 0, .int .i64 0, .int .i64 0, .int .i64 0] 27)).cell? ⟨w.heap.size + 1, 0, none⟩ = some (.int .i64 k) ∧ (((w.alloc (.cells #[.int .i64 s.st, .string h, .int .i64 s.bo, .int .i64 s.dl, .int .i64 s.si, .int .i64 s.cl, .int .i64 s.ow] 27)).alloc (.cells #[.int .i64 k, .int .i64 a, .int .i64 b] 30)).alloc (.cells #[.int .i64 0, .string ⟨#[]⟩, .int .i64 0, .int .i64 0, .int .i64 0, .int .i64 0, .int .i64 0] 27)).cell? ⟨w.heap.size + 1, 1, none⟩ = some (.int .i64 a) ∧ (((w.alloc (.cells #[.int .i64 s.st, .string h, .int .i64 s.bo, .int .i64 s.dl, .int .i64 s.si, .int .i64 s.cl, .int .i64 s.ow] 27)).alloc (.cells #[.int .i64 k, .int .i64 a, .int .i64 b] 30)).alloc (.cells #[.int .i64 0, .string ⟨#[]⟩, .int .i64 0, .int .i64 0, .int .i64 0, .int .i64 0, .int .i64 0] 27)).cell? ⟨w.heap.size + 1, 2, none⟩ = some (.int .i64 b)) ∧
    RAt (((w.alloc (.cells #[.int .i64 s.st, .string h, .int .i64 s.bo, .int .i64 s.dl, .int .i64 s.si, .int .i64 s.cl, .int .i64 s.ow] 27)).alloc (.cells #[.int .i64 k, .int .i64 a, .int .i64 b] 30)).alloc (.cells #[.int .i64 0, .string ⟨#[]⟩, .int .i64 0, .int .i64 0, .int .i64 0, .int .i64 0, .int .i64 0] 27)) (w.heap.size + 2) ⟨#[]⟩ b0 ∧ Below w.heap.size w (((w.alloc (.cells #[.int .i64 s.st, .string h, .int .i64 s.bo, .int .i64 s.dl, .int .i64 s.si, .int .i64 s.cl, .int .i64 s.ow] 27)).alloc (.cells #[.int .i64 k, .int .i64 a, .int .i64 b] 30)).alloc (.cells #[.int .i64 0, .string ⟨#[]⟩, .int .i64 0, .int .i64 0, .int .i64 0, .int .i64 0, .int .i64 0] 27)) := by
  refine ⟨?_, ⟨?_, ?_, ?_⟩, ?_, (((Below.refl _ w).alloc (Nat.le_refl _) _).alloc (by simp) _).alloc (by simp; omega) _⟩
  · unfold RAt Cells7
    rw [Below.heap_alloc _ _ _ (by simp; omega), Below.heap_alloc _ _ _ (by simp)]
    exact heap_alloc_new _ _
  · simp [go_sem]
  · simp [go_sem]
  · simp [go_sem]
  · unfold RAt Cells7
    have := heap_alloc_new ((w.alloc (.cells #[.int .i64 s.st, .string h, .int .i64 s.bo, .int .i64 s.dl, .int .i64 s.si, .int .i64 s.cl, .int .i64 s.ow] 27)).alloc (.cells #[.int .i64 k, .int .i64 a, .int .i64 b] 30)) (.cells #[.int .i64 0, .string ⟨#[]⟩, .int .i64 0, .int .i64 0, .int .i64 0, .int .i64 0, .int .i64 0] 27)
    simpa [World.size_alloc, b0] using this

end Go.Proofs.YtnbpkjfaopfapaaDoor
