/-
  Words for what lies in memory: what is kept while a call writes its own blocks; a connection. What New and the calls that only look do, of nil too, each as a contract. Conditions: the connection lies where it is said to lie.
-/
import Derived.Test.YtnbpkjfaopfapaaDoorPure
import Derived.Laws.OwnMore
import Derived.Laws.Rows
namespace Go.Proofs.YtnbpkjfaopfapaaDoor
open Go.ChangeShapes Go.WideShapes Go.ChangeAt Go.RowKit

/-- The blocks of A are as they were; the streams are as they were; no block has gone. -/
structure Keep (A : Nat → Prop) (w w' : World) : Prop where
  os : w'.os = w.os
  tape : w'.tape = w.tape
  output : w'.output = w.output
  size : w.heap.size ≤ w'.heap.size
  block : ∀ k, k < w.heap.size → A k → w'.heap[k]? = w.heap[k]?

theorem Keep.refl (A : Nat → Prop) (w : World) : Keep A w w := ⟨rfl, rfl, rfl, Nat.le_refl _, fun _ _ _ => rfl⟩
theorem Keep.trans {A : Nat → Prop} {a b c : World} (h : Keep A a b) (k : Keep A b c) : Keep A a c :=
  ⟨k.os.trans h.os, k.tape.trans h.tape, k.output.trans h.output, Nat.le_trans h.size k.size, fun i hi hA => (k.block i (Nat.lt_of_lt_of_le hi h.size) hA).trans (h.block i hi hA)⟩
theorem Keep.mono {A B : Nat → Prop} {w w' : World} (h : Keep A w w') (hB : ∀ k, k < w.heap.size → B k → A k) : Keep B w w' := ⟨h.os, h.tape, h.output, h.size, fun k hk hb => h.block k hk (hB k hk hb)⟩
theorem Keep.drewN {A : Nat → Prop} {a w : World} (h : Keep A a w) (q : Nat) : Keep A a (w.drewN q) := ⟨h.os, h.tape, h.output, h.size, h.block⟩
theorem Keep.drew {A : Nat → Prop} {a w : World} (h : Keep A a w) : Keep A a w.drew := ⟨h.os, h.tape, h.output, h.size, h.block⟩
theorem Keep.setCell {A : Nat → Prop} {a w : World} (h : Keep A a w) {x : Addr} (hx : ¬ A x.block) (v : Value) : Keep A a (w.setCell x v) :=
  ⟨h.os, h.tape, h.output, by rw [World.size_setCell]; exact h.size, fun k hk hA => (heap_setCell_other w x k v (fun e => hx (e ▸ hA))).trans (h.block k hk hA)⟩
theorem Keep.alloc {A : Nat → Prop} {a w : World} (h : Keep A a w) (o : Obj) : Keep A a (w.alloc o) :=
  ⟨h.os, h.tape, h.output, by rw [World.size_alloc]; exact Nat.le_succ_of_le h.size, fun k hk hA => (Below.heap_alloc w o k (Nat.lt_of_lt_of_le hk h.size)).trans (h.block k hk hA)⟩
theorem Keep.below {A : Nat → Prop} {w w' : World} {B : Nat} (h : Keep A w w') (hB : B ≤ w.heap.size) (hA : ∀ k, k < B → A k) : Below B w w' :=
  ⟨h.os, h.tape, h.output, h.size, fun k hk => h.block k (Nat.lt_of_lt_of_le hk hB) (hA k hk)⟩
theorem keep_below {A : Nat → Prop} {w w' : World} (h : Below w.heap.size w w') : Keep A w w' := ⟨h.os, h.tape, h.output, h.size, fun k hk _ => h.block k hk⟩
theorem Keep.cell {A : Nat → Prop} {w w' : World} (h : Keep A w w') {a : Addr} {v : Value} (hc : w.cell? a = some v) (hA : A a.block) : w'.cell? a = some v :=
  (World.cell?_of_block (h.block a.block (World.block_lt_of_cell? w a hc) hA)).trans hc

/-- Seven cells lie at block g. -/
def Cells7 (w : World) (g : Nat) (t : TypeId) (v0 v1 v2 v3 v4 v5 v6 : Value) : Prop := w.heap[g]? = some (.cells #[v0, v1, v2, v3, v4, v5, v6] t (0, 0))
section
variable {w w' : World} {g : Nat} {t : TypeId} {v0 v1 v2 v3 v4 v5 v6 u : Value}
theorem Cells7.cells (h : Cells7 w g t v0 v1 v2 v3 v4 v5 v6) :
    (w.cell? ⟨g, 0, none⟩ = some v0 ∧ w.cell? ⟨g, 1, none⟩ = some v1 ∧ w.cell? ⟨g, 2, none⟩ = some v2) ∧ (w.cell? ⟨g, 3, none⟩ = some v3 ∧ w.cell? ⟨g, 4, none⟩ = some v4 ∧ w.cell? ⟨g, 5, none⟩ = some v5 ∧ w.cell? ⟨g, 6, none⟩ = some v6) := by
  unfold Cells7 at h
  exact ⟨⟨by simp [World.cell?, h], by simp [World.cell?, h], by simp [World.cell?, h]⟩, by simp [World.cell?, h], by simp [World.cell?, h], by simp [World.cell?, h], by simp [World.cell?, h]⟩
theorem Cells7.fz (h : Cells7 w g t v0 v1 v2 v3 v4 v5 v6) (o : Nat) : w.frozen? ⟨g, o, none⟩ = false := by unfold Cells7 at h; simp [World.frozen?, h]
theorem Cells7.lt (h : Cells7 w g t v0 v1 v2 v3 v4 v5 v6) : g < w.heap.size := (Array.getElem?_eq_some_iff.1 h).1
theorem Cells7.set0 (h : Cells7 w g t v0 v1 v2 v3 v4 v5 v6) (u : Value) : Cells7 (w.setCell ⟨g, 0, none⟩ u) g t u v1 v2 v3 v4 v5 v6 := by unfold Cells7 at *; rw [heap_setCell_same w g 0 _ t _ h]; simp
theorem Cells7.set1 (h : Cells7 w g t v0 v1 v2 v3 v4 v5 v6) (u : Value) : Cells7 (w.setCell ⟨g, 1, none⟩ u) g t v0 u v2 v3 v4 v5 v6 := by unfold Cells7 at *; rw [heap_setCell_same w g 1 _ t _ h]; simp
theorem Cells7.set2 (h : Cells7 w g t v0 v1 v2 v3 v4 v5 v6) (u : Value) : Cells7 (w.setCell ⟨g, 2, none⟩ u) g t v0 v1 u v3 v4 v5 v6 := by unfold Cells7 at *; rw [heap_setCell_same w g 2 _ t _ h]; simp
theorem Cells7.set3 (h : Cells7 w g t v0 v1 v2 v3 v4 v5 v6) (u : Value) : Cells7 (w.setCell ⟨g, 3, none⟩ u) g t v0 v1 v2 u v4 v5 v6 := by unfold Cells7 at *; rw [heap_setCell_same w g 3 _ t _ h]; simp
theorem Cells7.set4 (h : Cells7 w g t v0 v1 v2 v3 v4 v5 v6) (u : Value) : Cells7 (w.setCell ⟨g, 4, none⟩ u) g t v0 v1 v2 v3 u v5 v6 := by unfold Cells7 at *; rw [heap_setCell_same w g 4 _ t _ h]; simp
theorem Cells7.set5 (h : Cells7 w g t v0 v1 v2 v3 v4 v5 v6) (u : Value) : Cells7 (w.setCell ⟨g, 5, none⟩ u) g t v0 v1 v2 v3 v4 u v6 := by unfold Cells7 at *; rw [heap_setCell_same w g 5 _ t _ h]; simp
theorem Cells7.set6 (h : Cells7 w g t v0 v1 v2 v3 v4 v5 v6) (u : Value) : Cells7 (w.setCell ⟨g, 6, none⟩ u) g t v0 v1 v2 v3 v4 v5 u := by unfold Cells7 at *; rw [heap_setCell_same w g 6 _ t _ h]; simp
theorem Cells7.keep {A : Nat → Prop} (h : Cells7 w g t v0 v1 v2 v3 v4 v5 v6) (hk : Keep A w w') (hA : A g) : Cells7 w' g t v0 v1 v2 v3 v4 v5 v6 := (hk.block g h.lt hA).trans h
end

/-- A connection lies at block g. -/
def BAt (w : World) (g : Nat) (h : ByteArray) (s : Bk) : Prop := Cells7 w g 45 (.string h) (.int .i64 s.bo) (.int .i64 s.dl) (.int .i64 s.st) (.int .i64 s.si) (.int .i64 s.cl) (.int .i64 s.ow)
section
variable {w w' : World} {g : Nat} {h : ByteArray} {s : Bk}
theorem BAt.lt (hb : BAt w g h s) : g < w.heap.size := Cells7.lt hb
theorem BAt.keep {A : Nat → Prop} (hb : BAt w g h s) (hk : Keep A w w') (hA : A g) : BAt w' g h s := Cells7.keep hb hk hA
theorem BAt.below (hb : BAt w g h s) (hk : Below w.heap.size w w') : BAt w' g h s := (hk.block g hb.lt).trans hb

theorem new_any (h : ByteArray) (w : World) :
    Calls Tryd.prog 5 #[.string h] w fun e w' => e = .returned (.pointer (some ⟨w.heap.size, 0, none⟩)) ∧ BAt w' w.heap.size h b0 ∧ Below w.heap.size w w' ∧ w'.heap.size = w.heap.size + 1 := by
  go_enter Tryd.func5, Tryd.ntmps5
  go_wp2
  go_ret
  exact ⟨rfl, heap_alloc_new _ _, (Below.refl _ _).alloc (Nat.le_refl _) _, by simp⟩

theorem state_w (hb : BAt w g h s) :
    Calls Tryd.prog 9 #[.pointer (some ⟨g, 0, none⟩)] w fun e w' => e = .returned (.int .i64 s.st) ∧ w' = w := by
  obtain ⟨⟨c0, c1, c2⟩, c3, c4, c5, c6⟩ := Cells7.cells hb
  have hl := hb.lt
  clear hb
  go_enter Tryd.func9, Tryd.ntmps9
  go_wp2
  go_ret
  exact ⟨rfl, rfl⟩
theorem state_nil (w : World) : Calls Tryd.prog 9 #[.pointer none] w fun e w' => e = .returned (.int .i64 4) ∧ w' = w := by
  go_enter Tryd.func9, Tryd.ntmps9
  go_wp2
  go_ret
  exact ⟨rfl, rfl⟩

theorem host_w (hb : BAt w g h s) :
    Calls Tryd.prog 10 #[.pointer (some ⟨g, 0, none⟩)] w fun e w' => e = .returned (.string h) ∧ w' = w := by
  obtain ⟨⟨c0, c1, c2⟩, c3, c4, c5, c6⟩ := Cells7.cells hb
  have hl := hb.lt
  clear hb
  go_enter Tryd.func10, Tryd.ntmps10
  go_wp2
  go_ret
  exact ⟨rfl, rfl⟩
theorem host_nil (w : World) : Calls Tryd.prog 10 #[.pointer none] w fun e w' => e = .returned (.string ⟨#[]⟩) ∧ w' = w := by
  go_enter Tryd.func10, Tryd.ntmps10
  go_wp2
  go_ret
  exact ⟨rfl, rfl⟩

theorem client_w (hb : BAt w g h s) :
    Calls Tryd.prog 11 #[.pointer (some ⟨g, 0, none⟩)] w fun e w' => e = .returned (.int .i64 s.cl) ∧ w' = w := by
  obtain ⟨⟨c0, c1, c2⟩, c3, c4, c5, c6⟩ := Cells7.cells hb
  have hl := hb.lt
  clear hb
  go_enter Tryd.func11, Tryd.ntmps11
  go_wp2
  go_ret
  exact ⟨rfl, rfl⟩
theorem client_nil (w : World) : Calls Tryd.prog 11 #[.pointer none] w fun e w' => e = .returned (.int .i64 0) ∧ w' = w := by
  go_enter Tryd.func11, Tryd.ntmps11
  go_wp2
  go_ret
  exact ⟨rfl, rfl⟩

theorem owes_w (hb : BAt w g h s) :
    Calls Tryd.prog 12 #[.pointer (some ⟨g, 0, none⟩)] w fun e w' => e = .returned (.int .i64 s.ow) ∧ w' = w := by
  obtain ⟨⟨c0, c1, c2⟩, c3, c4, c5, c6⟩ := Cells7.cells hb
  have hl := hb.lt
  clear hb
  go_enter Tryd.func12, Tryd.ntmps12
  go_wp2
  go_ret
  exact ⟨rfl, rfl⟩
theorem owes_nil (w : World) : Calls Tryd.prog 12 #[.pointer none] w fun e w' => e = .returned (.int .i64 0) ∧ w' = w := by
  go_enter Tryd.func12, Tryd.ntmps12
  go_wp2
  go_ret
  exact ⟨rfl, rfl⟩

theorem born_w (hb : BAt w g h s) :
    Calls Tryd.prog 13 #[.pointer (some ⟨g, 0, none⟩)] w fun e w' => e = .returned (.int .i64 s.bo) ∧ w' = w := by
  obtain ⟨⟨c0, c1, c2⟩, c3, c4, c5, c6⟩ := Cells7.cells hb
  have hl := hb.lt
  clear hb
  go_enter Tryd.func13, Tryd.ntmps13
  go_wp2
  go_ret
  exact ⟨rfl, rfl⟩
theorem born_nil (w : World) : Calls Tryd.prog 13 #[.pointer none] w fun e w' => e = .returned (.int .i64 0) ∧ w' = w := by
  go_enter Tryd.func13, Tryd.ntmps13
  go_wp2
  go_ret
  exact ⟨rfl, rfl⟩

theorem deadline_w (hb : BAt w g h s) :
    Calls Tryd.prog 14 #[.pointer (some ⟨g, 0, none⟩)] w fun e w' => e = .returned (.int .i64 s.dl) ∧ w' = w := by
  obtain ⟨⟨c0, c1, c2⟩, c3, c4, c5, c6⟩ := Cells7.cells hb
  have hl := hb.lt
  clear hb
  go_enter Tryd.func14, Tryd.ntmps14
  go_wp2
  go_ret
  exact ⟨rfl, rfl⟩
theorem deadline_nil (w : World) : Calls Tryd.prog 14 #[.pointer none] w fun e w' => e = .returned (.int .i64 0) ∧ w' = w := by
  go_enter Tryd.func14, Tryd.ntmps14
  go_wp2
  go_ret
  exact ⟨rfl, rfl⟩

theorem since_w (hb : BAt w g h s) :
    Calls Tryd.prog 15 #[.pointer (some ⟨g, 0, none⟩)] w fun e w' => e = .returned (.int .i64 s.si) ∧ w' = w := by
  obtain ⟨⟨c0, c1, c2⟩, c3, c4, c5, c6⟩ := Cells7.cells hb
  have hl := hb.lt
  clear hb
  go_enter Tryd.func15, Tryd.ntmps15
  go_wp2
  go_ret
  exact ⟨rfl, rfl⟩
theorem since_nil (w : World) : Calls Tryd.prog 15 #[.pointer none] w fun e w' => e = .returned (.int .i64 0) ∧ w' = w := by
  go_enter Tryd.func15, Tryd.ntmps15
  go_wp2
  go_ret
  exact ⟨rfl, rfl⟩

theorem state_v (hb : BAt w g h s) (v : Int) (hv : s.st = v) :
    Calls Tryd.prog 9 #[.pointer (some ⟨g, 0, none⟩)] w fun e w' => e = .returned (.int .i64 v) ∧ w' = w := by subst hv; exact state_w hb
theorem owes_v (hb : BAt w g h s) (v : Int) (hv : s.ow = v) :
    Calls Tryd.prog 12 #[.pointer (some ⟨g, 0, none⟩)] w fun e w' => e = .returned (.int .i64 v) ∧ w' = w := by subst hv; exact owes_w hb

theorem old_w (hb : BAt w g h s) (n : Int) :
    Calls Tryd.prog 16 #[.pointer (some ⟨g, 0, none⟩), .int .i64 n] w fun e w' => e = .returned (.bool (oldB s n)) ∧ w' = w := by
  have hs := fun v hv => state_v hb v hv
  have hd := deadline_w hb
  have HO : Hid (∀ p q r, (s.st == 0) = p → (s.st == 4) = q → past n s.dl = r → oldB s n = (!p && (!q && r))) := fun p q r h1 h2 h3 => by subst h1 h2 h3; rfl
  generalize oldB s n = O at *
  obtain ⟨st, si, cl, ow, bo, dl⟩ := s
  dsimp only at *
  clear hb
  by_cases h0 : st = 0
  · subst h0
    have HR := Hid.mk' (HO.out true _ _ rfl rfl rfl)
    clear HO
    go_enter Tryd.func16, Tryd.ntmps16
    go_wp2_with (first
      | (go_at_call 9; refine (hs _ rfl).mono ?_; rintro e w' ⟨rfl, rfl⟩))
    go_ret
    exact ⟨ret_bool (by rw [HR.out]; rfl), rfl⟩
  · by_cases h4 : st = 4
    · subst h4
      have HR := Hid.mk' (HO.out false true _ rfl rfl rfl)
      clear HO
      go_enter Tryd.func16, Tryd.ntmps16
      go_wp2_with (first
        | (go_at_call 9; refine (hs _ rfl).mono ?_; rintro e w' ⟨rfl, rfl⟩))
      go_ret
      exact ⟨ret_bool (by rw [HR.out]; rfl), rfl⟩
    · have k0 : (st == 0) = false := by simpa using h0
      have k4 : (st == 4) = false := by simpa using h4
      have k0' : (st != 0) = true := by simpa using h0
      have k4' : (st != 4) = true := by simpa using h4
      have HR := Hid.mk' (HO.out false false _ k0 k4 rfl)
      clear HO
      go_enter Tryd.func16, Tryd.ntmps16
      go_wp2_with (first
        | (go_at_call 9; refine (hs _ rfl).mono ?_; rintro e w' ⟨rfl, rfl⟩)
        | (go_at_call 14; refine hd.mono ?_; rintro e w' ⟨rfl, rfl⟩)
        | (go_at_call 37; refine (past_any _ _ _).mono ?_; rintro e w' ⟨rfl, rfl⟩))
      go_ret
      exact ⟨ret_bool (by rw [HR.out]; rfl), rfl⟩

theorem stale_w (hb : BAt w g h s) (n i : Int) :
    Calls Tryd.prog 18 #[.pointer (some ⟨g, 0, none⟩), .int .i64 n, .int .i64 i] w fun e w' => e = .returned (.bool (staB s n i)) ∧ w' = w := by
  have hs := fun v hv => state_v hb v hv
  have hd := since_w hb
  have HO : Hid (∀ p r, (s.st == 2) = p → past n (add s.si i) = r → staB s n i = (p && r)) := fun p r h1 h2 => by subst h1 h2; rfl
  generalize staB s n i = O at *
  obtain ⟨st, si, cl, ow, bo, dl⟩ := s
  dsimp only at *
  clear hb
  by_cases h0 : st = 2
  · subst h0
    have HR := Hid.mk' (HO.out true _ rfl rfl)
    clear HO
    go_enter Tryd.func18, Tryd.ntmps18
    go_wp2_with (first
      | (go_at_call 9; refine (hs _ rfl).mono ?_; rintro e w' ⟨rfl, rfl⟩)
      | (go_at_call 15; refine hd.mono ?_; rintro e w' ⟨rfl, rfl⟩)
      | (go_at_call 39; refine (add_any _ _ _).mono ?_; rintro e w' ⟨rfl, rfl⟩)
      | (go_at_call 37; refine (past_any _ _ _).mono ?_; rintro e w' ⟨rfl, rfl⟩))
    go_ret
    exact ⟨ret_bool (by rw [HR.out]; rfl), rfl⟩
  · have k0 : (st == 2) = false := by simpa using h0
    have HR := Hid.mk' (HO.out false _ k0 rfl)
    clear HO
    go_enter Tryd.func18, Tryd.ntmps18
    go_wp2_with (first
      | (go_at_call 9; refine (hs _ rfl).mono ?_; rintro e w' ⟨rfl, rfl⟩))
    go_ret
    exact ⟨ret_bool (by rw [HR.out]; rfl), rfl⟩

theorem old_nil (n : Int) (w : World) : Calls Tryd.prog 16 #[.pointer none, .int .i64 n] w fun e w' => e = .returned (.bool false) ∧ w' = w := by
  go_enter Tryd.func16, Tryd.ntmps16
  go_wp2_with (first
    | (go_at_call 9; refine (state_nil _).mono ?_; rintro e w' ⟨rfl, rfl⟩))
  go_ret
  exact ⟨rfl, rfl⟩
theorem stale_nil (n i : Int) (w : World) : Calls Tryd.prog 18 #[.pointer none, .int .i64 n, .int .i64 i] w fun e w' => e = .returned (.bool false) ∧ w' = w := by
  go_enter Tryd.func18, Tryd.ntmps18
  go_wp2_with (first
    | (go_at_call 9; refine (state_nil _).mono ?_; rintro e w' ⟨rfl, rfl⟩))
  go_ret
  exact ⟨rfl, rfl⟩
end

end Go.Proofs.YtnbpkjfaopfapaaDoor
