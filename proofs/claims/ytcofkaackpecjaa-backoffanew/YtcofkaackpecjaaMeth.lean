/-
  Words for what lies in memory: what is kept while a call writes its own blocks; a backoff. What New, Fail, OK, Fails, Until and May do, the program's, of nil too, and the document's Wait, Fail and May, each as a contract. Conditions: the backoff lies where it is said to lie; it failed at most 1000 times; a draw is an int.
-/
import Derived.Test.YtcofkaackpecjaaWait
import Derived.Laws.OwnMore
import Derived.Laws.Rows
namespace Go.Proofs.Ytcofkaackpecjaa
open Go.ChangeShapes Go.WideShapes Go.ChangeAt Go.RowKit

/-- The blocks of A are as they were; the streams are as they were; no block has gone. -/
structure Keep (A : Nat → Prop) (w w' : World) : Prop where
  os : w'.os = w.os
  tape : w'.tape = w.tape
  output : w'.output = w.output
  size : w.heap.size ≤ w'.heap.size
  block : ∀ k, k < w.heap.size → A k → w'.heap[k]? = w.heap[k]?

theorem Keep.refl (A : Nat → Prop) (w : World) : Keep A w w := ⟨rfl, rfl, rfl, Nat.le_refl _, fun _ _ _ => rfl⟩
theorem Keep.trans {A : Nat → Prop} {a b c : World} (h : Keep A a b) (k : Keep A b c) : Keep A a c :=
  ⟨k.os.trans h.os, k.tape.trans h.tape, k.output.trans h.output, Nat.le_trans h.size k.size, fun i hi hA => (k.block i (Nat.lt_of_lt_of_le hi h.size) hA).trans (h.block i hi hA)⟩
theorem Keep.mono {A B : Nat → Prop} {w w' : World} (h : Keep A w w') (hB : ∀ k, k < w.heap.size → B k → A k) : Keep B w w' := ⟨h.os, h.tape, h.output, h.size, fun k hk hb => h.block k hk (hB k hk hb)⟩
theorem Keep.drewN {A : Nat → Prop} {a w : World} (h : Keep A a w) (q : Nat) : Keep A a (w.drewN q) := ⟨h.os, h.tape, h.output, h.size, h.block⟩
theorem Keep.drew {A : Nat → Prop} {a w : World} (h : Keep A a w) : Keep A a w.drew := ⟨h.os, h.tape, h.output, h.size, h.block⟩
theorem Keep.setCell {A : Nat → Prop} {a w : World} (h : Keep A a w) {x : Addr} (hx : ¬ A x.block) (v : Value) : Keep A a (w.setCell x v) :=
  ⟨h.os, h.tape, h.output, by rw [World.size_setCell]; exact h.size, fun k hk hA => (heap_setCell_other w x k v (fun e => hx (e ▸ hA))).trans (h.block k hk hA)⟩
theorem Keep.alloc {A : Nat → Prop} {a w : World} (h : Keep A a w) (o : Obj) : Keep A a (w.alloc o) :=
  ⟨h.os, h.tape, h.output, by rw [World.size_alloc]; exact Nat.le_succ_of_le h.size, fun k hk hA => (Below.heap_alloc w o k (Nat.lt_of_lt_of_le hk h.size)).trans (h.block k hk hA)⟩
theorem Keep.below {A : Nat → Prop} {w w' : World} {B : Nat} (h : Keep A w w') (hB : B ≤ w.heap.size) (hA : ∀ k, k < B → A k) : Below B w w' :=
  ⟨h.os, h.tape, h.output, h.size, fun k hk => h.block k (Nat.lt_of_lt_of_le hk hB) (hA k hk)⟩
theorem keep_below {A : Nat → Prop} {w w' : World} (h : Below w.heap.size w w') : Keep A w w' := ⟨h.os, h.tape, h.output, h.size, fun k hk _ => h.block k hk⟩
theorem keep_grown {A : Nat → Prop} {w w' : World} {row : Option Nat} (h : w.grownBy w' row) (hr : ∀ k, row = some k → ¬ A k) : Keep A w w' :=
  ⟨h.os, h.tape, h.output, h.size, fun k hk hA => h.block k hk (fun e => hr k e.symm hA)⟩
theorem Keep.cell {A : Nat → Prop} {w w' : World} (h : Keep A w w') {a : Addr} {v : Value} (hc : w.cell? a = some v) (hA : A a.block) : w'.cell? a = some v :=
  (World.cell?_of_block (h.block a.block (World.block_lt_of_cell? w a hc) hA)).trans hc

theorem blk3 {w : World} {g : Nat} {x y z : Value} {t : TypeId} (h : w.heap[g]? = some (.cells #[x, y, z] t (0, 0))) :
    w.cell? ⟨g, 0, none⟩ = some x ∧ w.cell? ⟨g, 1, none⟩ = some y ∧ w.cell? ⟨g, 2, none⟩ = some z ∧ g < w.heap.size :=
  ⟨by simp [World.cell?, h], by simp [World.cell?, h], by simp [World.cell?, h], (Array.getElem?_eq_some_iff.1 h).1⟩
theorem fz3 {w : World} {g : Nat} {x y z : Value} {t : TypeId} (h : w.heap[g]? = some (.cells #[x, y, z] t (0, 0))) (o : Nat) : w.frozen? ⟨g, o, none⟩ = false := by simp [World.frozen?, h]
theorem heap_set3 {w : World} {g : Nat} {x y z u : Value} {t : TypeId} (h : w.heap[g]? = some (.cells #[x, y, z] t (0, 0))) :
    (w.setCell ⟨g, 0, none⟩ u).heap[g]? = some (.cells #[u, y, z] t (0, 0)) ∧ (w.setCell ⟨g, 1, none⟩ u).heap[g]? = some (.cells #[x, u, z] t (0, 0)) ∧ (w.setCell ⟨g, 2, none⟩ u).heap[g]? = some (.cells #[x, y, u] t (0, 0)) :=
  ⟨by rw [heap_setCell_same w g 0 _ t _ h]; simp, by rw [heap_setCell_same w g 1 _ t _ h]; simp, by rw [heap_setCell_same w g 2 _ t _ h]; simp⟩

/-- A backoff lies at block g: its base, its fails, the tick from which on it may be tried. -/
def BAt (w : World) (g : Nat) (base f u : Int) : Prop := w.heap[g]? = some (.cells #[.int .i64 base, .int .i64 f, .int .i64 u] 45 (0, 0))
section
variable {w w' : World} {g : Nat} {base f u : Int}
theorem BAt.lt (h : BAt w g base f u) : g < w.heap.size := (Array.getElem?_eq_some_iff.1 h).1
theorem BAt.drewN (h : BAt w g base f u) (q : Nat) : BAt (w.drewN q) g base f u := h
theorem BAt.keep {A : Nat → Prop} (h : BAt w g base f u) (hk : Keep A w w') (hA : A g) : BAt w' g base f u := (hk.block g h.lt hA).trans h
theorem BAt.below (h : BAt w g base f u) (hb : Below w.heap.size w w') : BAt w' g base f u := (hb.block g h.lt).trans h
end

/-- The tick from which on it may be tried behind so many fails, the last one at now with that draw. -/
def nextU (base f now d : Int) : Int := life d now (waitI base f) (waitI base f / 4)

theorem new_any (base : Int) (w : World) :
    Calls Try.prog 9 #[.int .i64 base] w fun e w' => e = .returned (.pointer (some ⟨w.heap.size, 0, none⟩)) ∧ BAt w' w.heap.size base 0 0 ∧ Below w.heap.size w w' ∧ w'.heap.size = w.heap.size + 1 := by
  go_enter Try.func9, Try.ntmps9
  go_wp2
  go_ret
  exact ⟨rfl, heap_alloc_new _ _, (Below.refl _ _).alloc (Nat.le_refl _) _, by simp⟩

theorem fails_w {w : World} {g : Nat} {base f u : Int} (h : BAt w g base f u) :
    Calls Try.prog 16 #[.pointer (some ⟨g, 0, none⟩)] w fun e w' => e = .returned (.int .i64 f) ∧ w' = w := by
  obtain ⟨c0, c1, c2, hl⟩ := blk3 h
  clear h
  go_enter Try.func16, Try.ntmps16
  go_wp2
  go_ret
  exact ⟨rfl, rfl⟩
theorem until_w {w : World} {g : Nat} {base f u : Int} (h : BAt w g base f u) :
    Calls Try.prog 17 #[.pointer (some ⟨g, 0, none⟩)] w fun e w' => e = .returned (.int .i64 u) ∧ w' = w := by
  obtain ⟨c0, c1, c2, hl⟩ := blk3 h
  clear h
  go_enter Try.func17, Try.ntmps17
  go_wp2
  go_ret
  exact ⟨rfl, rfl⟩
theorem may_w {w : World} {g : Nat} {base f u : Int} (h : BAt w g base f u) (now : Int) :
    Calls Try.prog 18 #[.pointer (some ⟨g, 0, none⟩), .int .i64 now] w fun e w' => e = .returned (.bool (past now u)) ∧ w' = w := by
  obtain ⟨c0, c1, c2, hl⟩ := blk3 h
  clear h
  go_enter Try.func18, Try.ntmps18
  go_wp2_with (go_at_call 25; refine (past_any _ _ _).mono ?_; rintro e w' ⟨rfl, rfl⟩)
  go_ret
  exact ⟨rfl, rfl⟩

theorem fails_nil (w : World) : Calls Try.prog 16 #[.pointer none] w fun e w' => e = .returned (.int .i64 0) ∧ w' = w := by
  go_enter Try.func16, Try.ntmps16
  go_wp2
  go_ret
  exact ⟨rfl, rfl⟩
theorem until_nil (w : World) : Calls Try.prog 17 #[.pointer none] w fun e w' => e = .returned (.int .i64 0) ∧ w' = w := by
  go_enter Try.func17, Try.ntmps17
  go_wp2
  go_ret
  exact ⟨rfl, rfl⟩
theorem may_nil (now : Int) (w : World) : Calls Try.prog 18 #[.pointer none, .int .i64 now] w fun e w' => e = .returned (.bool false) ∧ w' = w := by
  go_enter Try.func18, Try.ntmps18
  go_wp2
  go_ret
  exact ⟨rfl, rfl⟩
theorem fail_nil (now d : Int) (w : World) : Calls Try.prog 14 #[.pointer none, .int .i64 now, .int .i64 d] w fun e w' => e = .returned (.int .i64 0) ∧ w' = w := by
  go_enter Try.func14, Try.ntmps14
  go_wp2
  go_ret
  exact ⟨rfl, rfl⟩
theorem ok_nil (w : World) : Calls Try.prog 15 #[.pointer none] w fun e w' => e = .returned (.tuple #[]) ∧ w' = w := by
  go_enter Try.func15, Try.ntmps15
  go_wp2
  refine bodyPost_ret (results_none rfl _ _ _) rfl ?_
  exact ⟨rfl, rfl⟩

theorem ok_w {w : World} {g : Nat} {base f u : Int} (h : BAt w g base f u) :
    Calls Try.prog 15 #[.pointer (some ⟨g, 0, none⟩)] w fun e w' => e = .returned (.tuple #[]) ∧ BAt w' g base 0 0 ∧ Keep (fun k => k ≠ g) w w' := by
  obtain ⟨c0, c1, c2, hl⟩ := blk3 h
  have f1 := fz3 h 1
  have f2 := fz3 h 2
  have HE : Hid (BAt ((w.setCell ⟨g, 1, none⟩ (.int .i64 0)).setCell ⟨g, 2, none⟩ (.int .i64 0)) g base 0 0 ∧ Keep (fun k => k ≠ g) w ((w.setCell ⟨g, 1, none⟩ (.int .i64 0)).setCell ⟨g, 2, none⟩ (.int .i64 0))) :=
    ⟨(heap_set3 (heap_set3 h).2.1).2.2, ((Keep.refl _ w).setCell (fun hn => hn rfl) _).setCell (fun hn => hn rfl) _⟩
  clear h
  go_enter Try.func15, Try.ntmps15
  go_wp2
  go_end0
  exact ⟨rfl, HE.out.1, HE.out.2⟩

set_option maxRecDepth 100000 in
theorem fail_w {w : World} {g : Nat} {base f u : Int} (h : BAt w g base f u) (h0 : 0 ≤ f) (h1 : f ≤ 1000) (now d : Int) (hd : In d) :
    Calls Try.prog 14 #[.pointer (some ⟨g, 0, none⟩), .int .i64 now, .int .i64 d] w fun e w' => e = .returned (.int .i64 (nextU base (f + 1) now d)) ∧ BAt w' g base (f + 1) (nextU base (f + 1) now d) ∧ Keep (fun k => k ≠ g) w w' := by
  obtain ⟨c0, c1, c2, hl⟩ := blk3 h
  have f1 := fz3 h 1
  obtain ⟨w1, hw1⟩ : ∃ w1, w.setCell ⟨g, 1, none⟩ (.int .i64 (f + 1)) = w1 := ⟨_, rfl⟩
  have hb1 : BAt w1 g base (f + 1) u := hw1 ▸ (heap_set3 h).2.1
  have hk1 : Keep (fun k => k ≠ g) w w1 := hw1 ▸ (Keep.refl _ w).setCell (fun hn => hn rfl) _
  obtain ⟨d0, d1, d2, hl1⟩ := blk3 hb1
  have HB : Hid (BAt w1 g base (f + 1) u ∧ Keep (fun k => k ≠ g) w w1) := ⟨hb1, hk1⟩
  have f2 := fz3 hb1 2
  have hwt := wait_any base (f + 1) (by omega)
  obtain ⟨wb1, wb2⟩ := wait_bd base (f + 1)
  have hlf := life_any d now (waitI base (f + 1)) (waitI base (f + 1) / 4) hd
  have HU : Hid (nextU base (f + 1) now d = life d now (waitI base (f + 1)) (waitI base (f + 1) / 4)) := rfl
  generalize nextU base (f + 1) now d = U at *
  generalize waitI base (f + 1) = W at *
  rw [← HU.out] at hlf
  clear HU h hb1 hk1
  go_enter Try.func14, Try.ntmps14
  go_wp2
  go_quiet (first | (go_at_call 20; exact Calls.quiet_of_same (hwt _)))
  go_wp2_with (go_at_call 24; refine (hlf _).mono ?_; rintro e w' ⟨rfl, rfl⟩)
  go_ret
  exact ⟨rfl, (heap_set3 (HB.out.1.drewN _)).2.2, (HB.out.2.drewN _).setCell (fun hn => hn rfl) _⟩

set_option maxRecDepth 100000 in
theorem rwait_any (base f : Int) (hf : f ≤ 9223372036854775807) (w : World) :
    Calls Try.prog 21 #[.int .i64 base, .int .i64 f] w fun e w' => e = .returned (.int .i64 (waitI base f)) ∧ Below w.heap.size w w' := by
  by_cases h0 : f < 1
  · go_enter Try.func21, Try.ntmps21
    go_wp2
    go_ret
    exact ⟨ret_int (wait_none h0).symm, Below.refl _ _⟩
  · obtain ⟨k, rfl, hw⟩ := wait_nth (base := base) (show 1 ≤ f by omega)
    have s1 := span_lo base
    have s2 := span_hi base
    have hnw := rnew_any base w
    have HW : Hid (waitI base (k + 1) = dbl (spanI base) k) := hw
    clear hw
    generalize spanI base = S at *
    go_enter Try.func21, Try.ntmps21
    go_wp2_with fail
    refine hnw.mono ?_
    rintro e w1 ⟨rfl, hb1⟩
    have HB : Hid (Below w.heap.size w w1) := hb1
    clear hnw hb1
    have hfd : ∀ w : World, (Instr.field 27 (.agg #[.int .i64 S, .int .i64 0, .int .i64 0]) 0).run Try.prog w = .ok (.int .i64 S) w := fun _ => by kernel_rfl
    go_wp2
    clear hfd
    go_loopw [5, 6] (fun vw vn wr => ∃ (j : Nat), vn = .int .i64 (j + 1) ∧ vw = .int .i64 (dbl S j) ∧ j ≤ k ∧ wr = w1) (fun _ vn _ => k + 1 - (intOf vn).toNat)
    case atStart => exact ⟨0, rfl, rfl, Nat.zero_le _, rfl⟩
    case round =>
      obtain ⟨j, rfl, rfl, hj, rfl⟩ := hrel
      have hs := dbl_succ S j
      obtain ⟨hd1, hd2⟩ := dbl_bd s1 s2 j
      by_cases hc : j < k ∧ dbl S j < 1048576
      · obtain ⟨hc1, hc2⟩ := hc
        replace hs := hs.symm
        obtain ⟨hb1, hb2⟩ := dbl_bd s1 s2 (j + 1)
        generalize hD' : dbl S (j + 1) = D' at *
        generalize dbl S j = D at *
        have HD : Hid (dbl S (j + 1) = D') := hD'
        clear hD'
        go_wp2
        refine ⟨⟨j + 1, by simp, by rw [HD.out], by omega, by trivial⟩, by simp [intOf]; omega⟩
      · have hx : j = k ∨ (j < k ∧ dbl S j = 1048576) := by omega
        rcases hx with rfl | ⟨hx1, hx2⟩
        · have HD : Hid (waitI base (j + 1) = dbl S j) := HW.out
          generalize dbl S j = D at *
          clear hs hc
          go_wp2
          go_ret
          exact ⟨ret_int HD.out.symm, HB.out⟩
        · have HD : Hid (waitI base (k + 1) = 1048576) := by
            have := dbl_top hx2 (k - j)
            rw [show j + (k - j) = k by omega] at this
            exact HW.out.trans this
          rw [hx2]
          clear hs hc
          go_wp2
          go_ret
          exact ⟨ret_int HD.out.symm, HB.out⟩

theorem rmay_any (base f u now : Int) (w : World) :
    Calls Try.prog 19 #[.agg #[.int .i64 base, .int .i64 f, .int .i64 u], .int .i64 now] w fun e w' => e = .returned (.bool (past now u)) ∧ Below w.heap.size w w' := by
  have hb : Below w.heap.size w (w.alloc (.cells #[.int .i64 base, .int .i64 f, .int .i64 u] 27)) := (Below.refl _ w).alloc (Nat.le_refl _) _
  go_enter Try.func19, Try.ntmps19
  go_wp2_with (go_at_call 26; refine (rpast_any _ _ _).mono ?_; rintro e w' ⟨rfl, rfl⟩)
  go_ret
  exact ⟨rfl, hb⟩

set_option maxRecDepth 100000 in
theorem rfail_any (base f u now d : Int) (h0 : 0 ≤ f) (h1 : f ≤ 1000) (hd : In d) (w : World) :
    Calls Try.prog 13 #[.agg #[.int .i64 base, .int .i64 f, .int .i64 u], .int .i64 now, .int .i64 d] w fun e w' => e = .returned (.agg #[.int .i64 base, .int .i64 (f + 1), .int .i64 (nextU base (f + 1) now d)]) ∧ Below w.heap.size w w' := by
  have hwt := rwait_any base (f + 1) (by omega)
  obtain ⟨wb1, wb2⟩ := wait_bd base (f + 1)
  have hlf := rlife_any d now (waitI base (f + 1)) (waitI base (f + 1) / 4) hd
  have HU : Hid (nextU base (f + 1) now d = life d now (waitI base (f + 1)) (waitI base (f + 1) / 4)) := rfl
  generalize nextU base (f + 1) now d = U at *
  generalize waitI base (f + 1) = W at *
  rw [← HU.out] at hlf
  clear HU
  go_enter Try.func13, Try.ntmps13
  go_wp2_with fail
  refine (hwt _).mono ?_
  rintro e w3 ⟨rfl, hb3⟩
  have hb2 : Below w.heap.size w ((w.alloc (.cells #[.int .i64 base, .int .i64 (f + 1), .int .i64 u] 27)).alloc (.cells #[.int .i64 0, .int .i64 0, .int .i64 0] 27)) := ((Below.refl _ w).alloc (Nat.le_refl _) _).alloc (by simp) _
  have q1 : w3.heap[w.heap.size]? = some (.cells #[.int .i64 base, .int .i64 (f + 1), .int .i64 u] 27 (0, 0)) := by
    rw [hb3.block _ (by simp; omega), Below.heap_alloc _ _ _ (by simp)]
    exact heap_alloc_new _ _
  have q2 : w3.heap[w.heap.size + 1]? = some (.cells #[.int .i64 0, .int .i64 0, .int .i64 0] 27 (0, 0)) := by
    rw [hb3.block _ (by simp)]
    have := heap_alloc_new (w.alloc (.cells #[.int .i64 base, .int .i64 (f + 1), .int .i64 u] 27)) (.cells #[.int .i64 0, .int .i64 0, .int .i64 0] 27)
    simpa using this
  have HB : Hid (Below w.heap.size w w3) := hb2.trans (hb3.mono (by simp; omega))
  clear hwt hb2 hb3
  obtain ⟨c0, c1, c2, hl1⟩ := blk3 q1
  obtain ⟨d0, d1, d2, hl2⟩ := blk3 q2
  have f2 := fz3 q1 2
  have e0 := fz3 q2 0
  have e1 := fz3 q2 1
  have e2 := fz3 q2 2
  have HK : Hid (Keep (fun k => k < w.heap.size) w3 ((((w3.setCell ⟨w.heap.size, 2, none⟩ (.int .i64 U)).setCell ⟨w.heap.size + 1, 0, none⟩ (.int .i64 base)).setCell ⟨w.heap.size + 1, 1, none⟩ (.int .i64 (f + 1))).setCell ⟨w.heap.size + 1, 2, none⟩ (.int .i64 U))) :=
    (((((Keep.refl (fun k => k < w.heap.size) w3).setCell (x := ⟨w.heap.size, 2, none⟩) (Nat.lt_irrefl _) _).setCell (x := ⟨w.heap.size + 1, 0, none⟩) (by show ¬ (w.heap.size + 1 < w.heap.size); omega) _).setCell (x := ⟨w.heap.size + 1, 1, none⟩) (by show ¬ (w.heap.size + 1 < w.heap.size); omega) _).setCell (x := ⟨w.heap.size + 1, 2, none⟩) (by show ¬ (w.heap.size + 1 < w.heap.size); omega) _ : Keep (fun k => k < w.heap.size) w3 _)
  have HZ : Hid (((((w3.setCell ⟨w.heap.size, 2, none⟩ (.int .i64 U)).setCell ⟨w.heap.size + 1, 0, none⟩ (.int .i64 base)).setCell ⟨w.heap.size + 1, 1, none⟩ (.int .i64 (f + 1))).setCell ⟨w.heap.size + 1, 2, none⟩ (.int .i64 U)).heap[w.heap.size + 1]? = some (.cells #[.int .i64 base, .int .i64 (f + 1), .int .i64 U] 27 (0, 0))) :=
    (heap_set3 (heap_set3 (heap_set3 ((heap_setCell_other w3 ⟨w.heap.size, 2, none⟩ (w.heap.size + 1) (.int .i64 U) (by show w.heap.size + 1 ≠ w.heap.size; omega)).trans q2)).1).2.1).2.2
  clear q1 q2
  go_wp2_with (go_at_call 23; refine (hlf _).mono ?_; rintro e w' ⟨rfl, hw'⟩; obtain rfl : w3 = w' := hw'.symm)
  generalize (((w3.setCell ⟨w.heap.size, 2, none⟩ (.int .i64 U)).setCell ⟨w.heap.size + 1, 0, none⟩ (.int .i64 base)).setCell ⟨w.heap.size + 1, 1, none⟩ (.int .i64 (f + 1))).setCell ⟨w.heap.size + 1, 2, none⟩ (.int .i64 U) = w9 at *
  obtain ⟨z0, z1, z2, -⟩ := blk3 HZ.out
  refine bodyPost_ret (v := .agg #[.int .i64 base, .int .i64 (f + 1), .int .i64 U]) (by simp [results, Try.results13, go_sem, z0, z1, z2]) rfl ?_
  exact ⟨rfl, HB.out.trans (HK.out.below HB.out.size (fun _ h => h))⟩

end Go.Proofs.Ytcofkaackpecjaa
