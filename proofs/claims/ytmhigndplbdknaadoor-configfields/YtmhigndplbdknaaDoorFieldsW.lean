/-
  The walk of ConfigFields: it returns true and turns nothing that was there. Conditions: a config of 15 numbers; what the program's text lays reads as it is laid.
-/
import Derived.Test.YtmhigndplbdknaaDoorEdgesW
import Derived.Deep.RegionHeld3
namespace Go.Proofs.YtmhigndplbdknaaDoor
open Go.ChangeShapes Go.WideShapes Go.ChangeAt Go.RowKit

theorem nm_inj : ∀ a : Fin 15, ∀ b : Fin 15, ((nms.getD a.val ⟨#[]⟩).data.toList == (nms.getD b.val ⟨#[]⟩).data.toList) = (a.val == b.val) := by decide +kernel
theorem nm_full : ∀ a : Fin 15, (nms.getD a.val ⟨#[]⟩).data.toList.isEmpty = false := by decide +kernel
theorem nm_nat {j : Nat} (h : j < 15) : nm j = nms.getD j ⟨#[]⟩ := by unfold nm; rw [if_pos (inR_nat h)]; rfl

theorem nm_some {j : Nat} (h : j < 15) : (nm j).toList.isEmpty = false := by rw [nm_nat h, Lib.toList_data]; exact nm_full ⟨j, h⟩
theorem nm_ne {i j : Nat} (hi : i < 15) (hj : j < 15) (h : i ≠ j) : ((nm i).toList == (nm j).toList) = false := by
  rw [nm_nat hi, nm_nat hj, Lib.toList_data, Lib.toList_data]
  exact (nm_inj ⟨i, hi⟩ ⟨j, hj⟩).trans (beq_eq_false_iff_ne.2 h)

set_option maxRecDepth 100000 in
theorem fieldOf_any (l : List Int) (hl : l.length = 15) (j : Nat) (hj : j < 15) (w : World) :
    Calls Tryd.prog 22 #[.agg (cc l), .int .i64 j] w fun e w' => e = .returned (.int .i64 (l.getD j 0)) ∧ Below w.heap.size w w' := by
  have HA : Hid ((w.alloc (.cells (cc l) 23)).heap[w.heap.size]? = some (.cells (cc l) 23 (0, 0))) := heap_alloc_new _ _
  have hf := field_in l hl j hj (w.alloc (.cells (cc l) 23))
  generalize l.getD j 0 = X at *
  go_enter Tryd.func22, Tryd.ntmps22
  go_wp2_with (first
    | (refine wl_load hl rfl _ rfl rfl HA.out ?_))
  refine hf.mono ?_
  rintro e w2 ⟨rfl, hb⟩
  clear hf HA
  go_wp2
  go_ret
  exact ⟨rfl, ((Below.refl _ _).alloc (Nat.le_refl _) _).trans (hb.mono (by simp))⟩

/-- What is asked behind a region whose orders meet again: one state for each block's number, and what is known of the world there. -/
def Meet (A : Nat → Act) (R : Nat → World → Prop) : Exit → Act → World → Prop
  | .normal, a, w => ∃ g, R g w ∧ a = A g
  | _, _, _ => False
theorem wp_region_meet {P : Program} {id : Nat} {ops : Array Oper} {b : Bool} {Q : Exit → Act → World → Prop} {a : Act} {w : World} {A : Nat → Act} {R : Nat → World → Prop}
    (h2 : (Code.region id ops b).wp P (Meet A R) a w) (h1 : ∀ g W, R g W → Q .normal (A g) W) : (Code.region id ops b).wp P Q a w := by
  refine Code.wp_mono (fun e a w h => ?_) h2
  cases e with
  | normal =>
    obtain ⟨g, hR, rfl⟩ := h
    exact h1 g w hR
  | _ => exact (h : False).elim

/-- What stays while the two configs are asked. -/
def FS (w : World) (l D : List Int) (gd : Nat) (w' : World) : Prop := w'.heap[w.heap.size]? = some (.cells (cc l) 23 (0, 0)) ∧ w'.heap[gd]? = some (.cells (cc D) 23 (0, 0)) ∧ Below w.heap.size w w'
theorem FS.drew {w : World} {l D : List Int} {gd : Nat} {w' : World} (h : FS w l D gd w') : FS w l D gd w'.drew := ⟨h.1, h.2.1, h.2.2.drew⟩
theorem FS.keep {w : World} {l D : List Int} {gd : Nat} {w' w'' : World} (h : FS w l D gd w') (hb : Below w'.heap.size w' w'') : FS w l D gd w'' :=
  ⟨keep_blk hb h.1, keep_blk hb h.2.1, h.2.2.trans (hb.mono h.2.2.size)⟩
theorem FS.alloc {w : World} {l D : List Int} {gd : Nat} {w' : World} (h : FS w l D gd w') (o : Obj) : FS w l D gd (w'.alloc o) := h.keep ((Below.refl _ _).alloc (Nat.le_refl _) _)
theorem FS.setRow {w : World} {l D : List Int} {gd : Nat} {w' : World} (h : FS w l D gd w') {g : Nat} (h1 : g ≠ w.heap.size) (h2 : g ≠ gd) (h3 : w.heap.size ≤ g) (cs : Array Value) : FS w l D gd (w'.setRow g cs) :=
  ⟨(setRow_other _ _ _ _ h1.symm).trans h.1, (setRow_other _ _ _ _ h2.symm).trans h.2.1, below_setRow h.2.2 h3 _⟩
theorem FS.lt {w : World} {l D : List Int} {gd : Nat} {w' : World} (h : FS w l D gd w') : w.heap.size < w'.heap.size ∧ gd < w'.heap.size := ⟨lt_of_some h.1, lt_of_some h.2.1⟩
/-- A whole config is loaded, in whatever world holds it. -/
theorem run_ld {l : List Int} (hl : l.length = 15) {o : Oper} {a : Act} {w : World} (x : Operand) (ho : o.op = .load 23 x) {g : Nat} (hx : a.eval x = .pointer (some ⟨g, 0, none⟩)) {t : TypeId} {fr : Nat × Nat} (hg : w.heap[g]? = some (.cells (cc l) t fr)) :
    (execOp a.eval o).run Tryd.prog w = .ok (.value (.agg (cc l))) w := by
  unfold execOp
  simp only [ho, hx, Instr.loadAt, Instr.sureAddr, Sem.run_bind, Sem.run_pure, Result.andThen_ok, run_loadVar_row w g t 23 (cc l) fr _ hg Tryd.underlying23 rfl (cc_info hl)]
/-- A whole config is stored into its block, as a step of a region that draws; what stays, stays. -/
theorem st_putW {w0 : World} {l D : List Int} {gd : Nat} (hl : l.length = 15) {o : Oper} {a : Act} {w : World} {K : Act → World → Prop} {Q : Exit → Act → World → Prop} (x y : Operand) (ho : o.op = .store 23 x y)
    {g : Nat} (hx : a.eval x = .pointer (some ⟨g, 0, none⟩)) (hy : a.eval y = .agg (cc l)) {t : TypeId} {old : Array Value} (hg : w.heap[g]? = some (.cells old t (0, 0))) (ho15 : old.size = 15) (hf : FS w0 l D gd w) (hne : w0.heap.size < g ∧ gd < g)
    (h : ∀ W : World, FS w0 l D gd W → W.heap[g]? = some (.cells (cc l) t (0, 0)) → K (a.put o.dst undef) W) : o.wp Tryd.prog a w K Q :=
  wp_store_row 23 x y ho g (cc l) hx hy t old hg (cc_info hl) (by rw [ho15, cc_size, hl]) (cc_one l) (h _ (hf.setRow (by omega) (by omega) (by omega) _) (setRow_heap _ _ _ _ _ _ hg))

set_option maxRecDepth 100000 in
set_option maxHeartbeats 2000000 in
theorem fields_law (l : List Int) (hl : l.length = 15) (x y v : Int) (w : World) (hE : Env w) :
    Calls Tryd.prog 7 #[.agg (cc l), .agg #[.int .i64 x, .int .i64 y], .int .i64 v] w fun e w' => e = .returned (.bool true) ∧ Below w.heap.size w w' := by
  obtain ⟨n, hn, hn15⟩ := mod15 x
  obtain ⟨k, hk, hk15⟩ := mod15 y
  have HA : Hid (((w.alloc (.cells (cc l) 23)).alloc (.cells #[.int .i64 x, .int .i64 y] 44)).heap[w.heap.size]? = some (.cells (cc l) 23 (0, 0)) ∧ ((w.alloc (.cells (cc l) 23)).alloc (.cells #[.int .i64 x, .int .i64 y] 44)).heap[w.heap.size + 1]? = some (.cells #[.int .i64 x, .int .i64 y] 44 (0, 0))) := ⟨heap_alloc2_old _ _ _, heap_alloc2_new _ _ _⟩
  have HE := Hid.mk' hE
  clear hE
  have hD : (l.set n v).length = 15 := by simpa using hl
  have hDn : (l.set n v).getD n 0 = v := by simp [List.getD, hl, hn15]
  have hBack : (l.set n v).set n (l.getD n 0) = l := by
    apply List.ext_getElem?
    intro i
    by_cases hi : n = i
    · subst hi
      simp [hl, hn15, List.getD]
    · simp [hi]
  have hDk : n ≠ k → (l.set n v).getD k 0 = l.getD k 0 := fun h => by simp [List.getD, h]
  have HO : Hid (∀ w', Calls Tryd.prog 22 #[.agg (cc l), .int .i64 n] w' fun e w'' => e = .returned (.int .i64 (l.getD n 0)) ∧ Below w'.heap.size w' w'') := fun w' => fieldOf_any l hl n hn15 w'
  have HF1 : Hid (∀ w', Calls Tryd.prog 11 #[.agg (cc l), .int .i64 k] w' fun e w'' => e = .returned (.tuple #[.int .i64 (l.getD k 0), .bool true]) ∧ Below w'.heap.size w' w'') := fun w' => field_in l hl k hk15 w'
  go_enter Tryd.func7, Tryd.ntmps7
  go_wp2_with fail
  refine (lives_any _ (HE.out.below (((Below.refl _ _).alloc (Nat.le_refl _) _).alloc (by simp) _))).mono ?_
  rintro e w1 ⟨rfl, hb1⟩
  have H1 : Hid (w1.heap[w.heap.size]? = some (.cells (cc l) 23 (0, 0)) ∧ Below w.heap.size w w1) := ⟨keep_blk hb1 HA.out.1, (((Below.refl _ _).alloc (Nat.le_refl _) _).alloc (by simp) _).trans (hb1.mono (by simp; omega))⟩
  have y0 : w1.cell? ⟨w.heap.size + 1, 0, none⟩ = some (.int .i64 x) := by rw [cell_of_row _ _ _ _ _ _ (keep_blk hb1 HA.out.2)]; rfl
  have y1 : w1.cell? ⟨w.heap.size + 1, 1, none⟩ = some (.int .i64 y) := by rw [cell_of_row _ _ _ _ _ _ (keep_blk hb1 HA.out.2)]; rfl
  have HD := Hid.mk' (And.intro hDn (And.intro hBack hDk))
  clear hb1 HA hDn hBack hDk
  go_wp2_with fail
  go_quiet (fail)
  rw [hn, hk]
  clear hn hk y0 y1
  have H1q : Hid ((w1.drewN nq).heap[w.heap.size]? = some (.cells (cc l) 23 (0, 0)) ∧ Below w.heap.size w (w1.drewN nq)) := ⟨H1.out.1, below_drewN H1.out.2 _⟩
  generalize w1.drewN nq = w2 at *
  clear H1
  go_wp2_with (first
    | (refine wl_load hl rfl _ rfl rfl H1q.out.1 ?_))
  refine (set_in l hl n hn15 v _).mono ?_
  rintro e w3 ⟨rfl, hb3⟩
  have H3 : Hid ((w3.alloc (.cells (cc (l.set n v)) 23)).heap[w.heap.size]? = some (.cells (cc l) 23 (0, 0)) ∧ (w3.alloc (.cells (cc (l.set n v)) 23)).heap[w3.heap.size]? = some (.cells (cc (l.set n v)) 23 (0, 0)) ∧ Below w.heap.size w (w3.alloc (.cells (cc (l.set n v)) 23))) := by
    have h1 := keep_blk hb3 H1q.out.1
    have h2 := H1q.out.2.trans (hb3.mono H1q.out.2.size)
    exact ⟨(Below.heap_alloc _ _ _ (lt_of_some h1)).trans h1, heap_alloc_new _ _, h2.alloc h2.size _⟩
  have HF : Hid (FS w l (l.set n v) w3.heap.size (w3.alloc (.cells (cc (l.set n v)) 23))) := H3.out
  clear hb3 H1q H3
  generalize l.set n v = D at *
  have HF2 : Hid (∀ w', Calls Tryd.prog 11 #[.agg (cc D), .int .i64 k] w' fun e w'' => e = .returned (.tuple #[.int .i64 (D.getD k 0), .bool true]) ∧ Below w'.heap.size w' w'') := fun w' => field_in D hD k hk15 w'
  generalize l.getD n 0 = Z at *
  generalize l.getD k 0 = Y1 at *
  generalize D.getD k 0 = Y2 at *
  have HS : Hid (∀ w', Calls Tryd.prog 12 #[.agg (cc D), .int .i64 n, .int .i64 Z] w' fun e w'' => e = .returned (.tuple #[.agg (cc l), .bool true]) ∧ Below w'.heap.size w' w'') := fun w' => by
    have := set_in D hD n hn15 Z w'
    rw [HD.out.2.1] at this
    exact this
  go_wp2_with (first
    | (refine wl_new hD rfl _ _ rfl rfl rfl rfl ?_)
    | (refine wl_load hD rfl _ rfl rfl HF.out.2.1 ?_))
  refine (field_in D hD n hn15 _).mono ?_
  rintro e w4 ⟨rfl, hb4⟩
  rw [HD.out.1]
  have HF4 := Hid.mk' (HF.out.keep hb4)
  clear hb4 HF
  generalize w3.heap.size = gd at *
  go_wp2_with (first
    | (refine wl_load hD rfl _ rfl rfl HF4.out.2.1 ?_))
  refine (HF2.out _).mono ?_
  rintro e w5 ⟨rfl, hb5⟩
  have HF5 := Hid.mk' (HF4.out.keep hb5)
  clear hb5 HF4
  go_wp2_with (first
    | (refine wl_load hl rfl _ rfl rfl HF5.out.1 ?_))
  refine (HF1.out _).mono ?_
  rintro e w6 ⟨rfl, hb6⟩
  have HF6 := Hid.mk' (HF5.out.keep hb6)
  clear hb6 HF5 HF1 HF2
  go_wp2_with fail
  apply wp_region_meet (R := fun g W => FS w l D gd W ∧ W.heap[g]? = some (.cells (cc l) 23 (0, 0)))
  · refine wp_region_held_drew (S := FS w l D gd) (by kernel_rfl) HF6.out.drew (fun hHeld => ?_)
    refine wpAnyH_take (i := 0) (oi := ({ dst := some 57, op := Op.load 23 (Operand.tmp 9), type := 23, pos := "law.go:93", after := #[], guard := none } : Oper)) (v := .agg (cc D)) rfl (by kernel_rfl) (by kernel_rfl) (by kernel_rfl) (fun _ _ _ h => h) (Or.inl ⟨by rfl, fun W hW => run_ld hD _ rfl rfl hW.2.1⟩) hHeld ?_
    try simp only [Act.put, List.setIfInBounds_toArray, List.set_cons_zero, List.set_cons_succ]
    refine wpAnyH_take (i := 1) (oi := ({ dst := some 58, op := Op.move (Operand.tmp 7), type := 3, pos := "law.go:93", after := #[], guard := none } : Oper)) (v := .int .i64 n) rfl (by kernel_rfl) (by kernel_rfl) (by kernel_rfl) (fun _ _ _ h => h) (Or.inl ⟨by rfl, fun W _ => rfl⟩) hHeld ?_
    try simp only [Act.put, List.setIfInBounds_toArray, List.set_cons_zero, List.set_cons_succ]
    refine wpAnyH_take (i := 2) (oi := ({ dst := some 59, op := Op.load 23 (Operand.tmp 3), type := 23, pos := "law.go:93", after := #[], guard := none } : Oper)) (v := .agg (cc l)) rfl (by kernel_rfl) (by kernel_rfl) (by kernel_rfl) (fun _ _ _ h => h) (Or.inl ⟨by rfl, fun W hW => run_ld hl _ rfl rfl hW.1⟩) hHeld ?_
    try simp only [Act.put, List.setIfInBounds_toArray, List.set_cons_zero, List.set_cons_succ]
    refine wpAnyH_take (i := 3) (oi := ({ dst := some 60, op := Op.move (Operand.tmp 7), type := 3, pos := "law.go:93", after := #[], guard := none } : Oper)) (v := .int .i64 n) rfl (by kernel_rfl) (by kernel_rfl) (by kernel_rfl) (fun _ _ _ h => h) (Or.inl ⟨by rfl, fun W _ => rfl⟩) hHeld ?_
    try simp only [Act.put, List.setIfInBounds_toArray, List.set_cons_zero, List.set_cons_succ]
    refine wpAnyH_ready (rs := [4, 9]) (by kernel_rfl) (by simp) ?_
    refine (AllReadyH.cons (o := ({ dst := some 61, op := Op.call { callee := Callee.value (Operand.func 22), args := #[Operand.tmp 59, Operand.tmp 60], argTypes := #[23, 3] }, type := 3, pos := "law.go:93", after := #[{ on := 2, ground := Ground.data }, { on := 3, ground := Ground.data }], guard := none } : Oper)) rfl (fun K hK => ?_) (AllReadyH.cons (o := ({ dst := some 17, op := Op.alloc 23, type := 0, pos := "law.go:93", after := #[], guard := none } : Oper)) rfl (fun K hK => ?_) AllReadyH.nil))
    · go_simp
      refine (HO.out _).mono ?_
      rintro e w7 ⟨rfl, hb7⟩
      try go_wp2_with fail
      refine hK.out _ _ (hHeld.keep hb7) (fun hH7 => ?_)
      clear hK K
      try simp only [Act.put, List.setIfInBounds_toArray, List.set_cons_zero, List.set_cons_succ]
      have hlt := hH7.lt
      clear hHeld hb7
      refine wpAnyH_ready (rs := [5, 9]) (by kernel_rfl) (by simp) ?_
      refine (AllReadyH.cons (o := ({ dst := some 62, op := Op.call { callee := Callee.value (Operand.func 12), args := #[Operand.tmp 57, Operand.tmp 58, Operand.tmp 61], argTypes := #[23, 3, 3] }, type := 30, pos := "law.go:93", after := #[{ on := 0, ground := Ground.data }, { on := 1, ground := Ground.data }, { on := 4, ground := Ground.data }, { on := 4, ground := Ground.chain }], guard := none } : Oper)) rfl (fun K hK => ?_) (AllReadyH.cons (o := ({ dst := some 17, op := Op.alloc 23, type := 0, pos := "law.go:93", after := #[], guard := none } : Oper)) rfl (fun K hK => ?_) AllReadyH.nil))
      · go_simp
        refine (HS.out _).mono ?_
        rintro e w8 ⟨rfl, hb8⟩
        try go_wp2_with fail
        refine hK.out _ _ (hH7.keep hb8) (fun hH8 => ?_)
        clear hK K
        try simp only [Act.put, List.setIfInBounds_toArray, List.set_cons_zero, List.set_cons_succ]
        have hlt8 := hH8.lt
        refine wpAnyH_take (i := 6) (oi := ({ dst := some 56, op := Op.move (Operand.tmp 62), type := 30, pos := "law.go:93", after := #[{ on := 5, ground := Ground.data }], guard := none } : Oper)) (v := .tuple #[.agg (cc l), .bool true]) rfl (by kernel_rfl) (by kernel_rfl) (by kernel_rfl) (fun _ _ _ h => h) (Or.inl ⟨by rfl, fun W _ => rfl⟩) hH8 ?_
        try simp only [Act.put, List.setIfInBounds_toArray, List.set_cons_zero, List.set_cons_succ]
        refine wpAnyH_take (i := 7) (oi := ({ dst := some 63, op := Op.extract (Operand.tmp 56) 0, type := 23, pos := "law.go:93", after := #[{ on := 6, ground := Ground.data }], guard := none } : Oper)) (v := .agg (cc l)) rfl (by kernel_rfl) (by kernel_rfl) (by kernel_rfl) (fun _ _ _ h => h) (Or.inl ⟨by rfl, fun W _ => rfl⟩) hH8 ?_
        try simp only [Act.put, List.setIfInBounds_toArray, List.set_cons_zero, List.set_cons_succ]
        refine wpAnyH_take (i := 8) (oi := ({ dst := some 64, op := Op.extract (Operand.tmp 56) 1, type := 4, pos := "law.go:93", after := #[{ on := 6, ground := Ground.data }, { on := 10, ground := Ground.gcOnly Departure.lateStores }], guard := none } : Oper)) (v := .bool true) rfl (by kernel_rfl) (by kernel_rfl) (by kernel_rfl) (fun _ _ _ h => h) (Or.inl ⟨by rfl, fun W _ => rfl⟩) hH8 ?_
        try simp only [Act.put, List.setIfInBounds_toArray, List.set_cons_zero, List.set_cons_succ]
        refine wpAnyH_ready (rs := [9]) (by kernel_rfl) (by simp) ?_
        refine (AllReadyH.cons (o := ({ dst := some 17, op := Op.alloc 23, type := 0, pos := "law.go:93", after := #[], guard := none } : Oper)) rfl (fun K hK => ?_) AllReadyH.nil)
        go_simp
        refine hK.out _ _ (hH8.alloc _) (fun hHa => ?_)
        clear hK K
        try simp only [Act.put, List.setIfInBounds_toArray, List.set_cons_zero, List.set_cons_succ]
        refine wpAnyH_ready (rs := [10]) (by kernel_rfl) (by simp) ?_
        refine (AllReadyH.cons (o := ({ dst := none, op := Op.store 23 (Operand.tmp 17) (Operand.tmp 63), type := 0, pos := "law.go:93", after := #[{ on := 9, ground := Ground.data }, { on := 7, ground := Ground.data }, { on := 5, ground := Ground.chain }, { on := 0, ground := Ground.phase }, { on := 1, ground := Ground.phase }, { on := 2, ground := Ground.phase }, { on := 3, ground := Ground.phase }, { on := 4, ground := Ground.phase }, { on := 5, ground := Ground.phase }, { on := 6, ground := Ground.phase }, { on := 7, ground := Ground.phase }, { on := 8, ground := Ground.textOnly Departure.lateStores }, { on := 9, ground := Ground.phase }], guard := none } : Oper)) rfl (fun K hK => ?_) AllReadyH.nil)
        rw [if_pos (by rfl)]
        refine st_putW hl _ _ rfl rfl rfl (heap_alloc_new w8 (.cells #[.int .i64 0, .int .i64 0, .int .i64 0, .int .i64 0, .int .i64 0, .int .i64 0, .int .i64 0, .int .i64 0, .int .i64 0, .int .i64 0, .int .i64 0, .int .i64 0, .int .i64 0, .int .i64 0, .int .i64 0] 23)) rfl hHa ⟨by omega, by omega⟩ ?_
        intro W hW hWg
        refine hK.out _ _ hW (fun _ => ?_)
        clear hK K
        simp only [Act.put]
        refine wpAnyH_take (i := 11) (oi := ({ dst := some 18, op := Op.assign (Operand.tmp 64), type := 4, pos := "law.go:93", after := #[{ on := 8, ground := Ground.data }, { on := 10, ground := Ground.chain }, { on := 0, ground := Ground.phase }, { on := 1, ground := Ground.phase }, { on := 2, ground := Ground.phase }, { on := 3, ground := Ground.phase }, { on := 4, ground := Ground.phase }, { on := 5, ground := Ground.phase }, { on := 6, ground := Ground.phase }, { on := 7, ground := Ground.phase }, { on := 8, ground := Ground.phase }, { on := 9, ground := Ground.phase }, { on := 10, ground := Ground.phase }], guard := none } : Oper)) (v := .bool true) rfl (by kernel_rfl) (by kernel_rfl) (by kernel_rfl) (fun _ _ _ h => h) (Or.inl ⟨by rfl, fun W _ => rfl⟩) hW ?_
        try simp only [Act.put, List.setIfInBounds_toArray, List.set_cons_zero, List.set_cons_succ]
        refine wpAnyH_done (by kernel_rfl) ?_ _
        have HW : Hid (FS w l D gd W ∧ W.heap[w8.heap.size]? = some (.cells (cc l) 23 (0, 0))) := ⟨hW, hWg⟩
        clear hW hWg
        generalize w8.heap.size = g at *
        exact ⟨g, HW.out, rfl⟩
      · go_simp
        refine hK.out _ _ (hH7.alloc _) (fun hHa => ?_)
        clear hK K
        try simp only [Act.put, List.setIfInBounds_toArray, List.set_cons_zero, List.set_cons_succ]
        refine wpAnyH_ready (rs := [5]) (by kernel_rfl) (by simp) ?_
        refine (AllReadyH.cons (o := ({ dst := some 62, op := Op.call { callee := Callee.value (Operand.func 12), args := #[Operand.tmp 57, Operand.tmp 58, Operand.tmp 61], argTypes := #[23, 3, 3] }, type := 30, pos := "law.go:93", after := #[{ on := 0, ground := Ground.data }, { on := 1, ground := Ground.data }, { on := 4, ground := Ground.data }, { on := 4, ground := Ground.chain }], guard := none } : Oper)) rfl (fun K hK => ?_) AllReadyH.nil)
        go_simp
        refine (HS.out _).mono ?_
        rintro e w8 ⟨rfl, hb8⟩
        try go_wp2_with fail
        refine hK.out _ _ (hHa.keep hb8) (fun hH8 => ?_)
        clear hK K
        try simp only [Act.put, List.setIfInBounds_toArray, List.set_cons_zero, List.set_cons_succ]
        refine wpAnyH_take (i := 6) (oi := ({ dst := some 56, op := Op.move (Operand.tmp 62), type := 30, pos := "law.go:93", after := #[{ on := 5, ground := Ground.data }], guard := none } : Oper)) (v := .tuple #[.agg (cc l), .bool true]) rfl (by kernel_rfl) (by kernel_rfl) (by kernel_rfl) (fun _ _ _ h => h) (Or.inl ⟨by rfl, fun W _ => rfl⟩) hH8 ?_
        try simp only [Act.put, List.setIfInBounds_toArray, List.set_cons_zero, List.set_cons_succ]
        refine wpAnyH_take (i := 7) (oi := ({ dst := some 63, op := Op.extract (Operand.tmp 56) 0, type := 23, pos := "law.go:93", after := #[{ on := 6, ground := Ground.data }], guard := none } : Oper)) (v := .agg (cc l)) rfl (by kernel_rfl) (by kernel_rfl) (by kernel_rfl) (fun _ _ _ h => h) (Or.inl ⟨by rfl, fun W _ => rfl⟩) hH8 ?_
        try simp only [Act.put, List.setIfInBounds_toArray, List.set_cons_zero, List.set_cons_succ]
        refine wpAnyH_take (i := 8) (oi := ({ dst := some 64, op := Op.extract (Operand.tmp 56) 1, type := 4, pos := "law.go:93", after := #[{ on := 6, ground := Ground.data }, { on := 10, ground := Ground.gcOnly Departure.lateStores }], guard := none } : Oper)) (v := .bool true) rfl (by kernel_rfl) (by kernel_rfl) (by kernel_rfl) (fun _ _ _ h => h) (Or.inl ⟨by rfl, fun W _ => rfl⟩) hH8 ?_
        try simp only [Act.put, List.setIfInBounds_toArray, List.set_cons_zero, List.set_cons_succ]
        refine wpAnyH_ready (rs := [10]) (by kernel_rfl) (by simp) ?_
        refine (AllReadyH.cons (o := ({ dst := none, op := Op.store 23 (Operand.tmp 17) (Operand.tmp 63), type := 0, pos := "law.go:93", after := #[{ on := 9, ground := Ground.data }, { on := 7, ground := Ground.data }, { on := 5, ground := Ground.chain }, { on := 0, ground := Ground.phase }, { on := 1, ground := Ground.phase }, { on := 2, ground := Ground.phase }, { on := 3, ground := Ground.phase }, { on := 4, ground := Ground.phase }, { on := 5, ground := Ground.phase }, { on := 6, ground := Ground.phase }, { on := 7, ground := Ground.phase }, { on := 8, ground := Ground.textOnly Departure.lateStores }, { on := 9, ground := Ground.phase }], guard := none } : Oper)) rfl (fun K hK => ?_) AllReadyH.nil)
        rw [if_pos (by rfl)]
        refine st_putW hl _ _ rfl rfl rfl (keep_blk hb8 (heap_alloc_new w7 (.cells #[.int .i64 0, .int .i64 0, .int .i64 0, .int .i64 0, .int .i64 0, .int .i64 0, .int .i64 0, .int .i64 0, .int .i64 0, .int .i64 0, .int .i64 0, .int .i64 0, .int .i64 0, .int .i64 0, .int .i64 0] 23))) rfl hH8 ⟨by omega, by omega⟩ ?_
        intro W hW hWg
        refine hK.out _ _ hW (fun _ => ?_)
        clear hK K
        simp only [Act.put]
        refine wpAnyH_take (i := 11) (oi := ({ dst := some 18, op := Op.assign (Operand.tmp 64), type := 4, pos := "law.go:93", after := #[{ on := 8, ground := Ground.data }, { on := 10, ground := Ground.chain }, { on := 0, ground := Ground.phase }, { on := 1, ground := Ground.phase }, { on := 2, ground := Ground.phase }, { on := 3, ground := Ground.phase }, { on := 4, ground := Ground.phase }, { on := 5, ground := Ground.phase }, { on := 6, ground := Ground.phase }, { on := 7, ground := Ground.phase }, { on := 8, ground := Ground.phase }, { on := 9, ground := Ground.phase }, { on := 10, ground := Ground.phase }], guard := none } : Oper)) (v := .bool true) rfl (by kernel_rfl) (by kernel_rfl) (by kernel_rfl) (fun _ _ _ h => h) (Or.inl ⟨by rfl, fun W _ => rfl⟩) hW ?_
        try simp only [Act.put, List.setIfInBounds_toArray, List.set_cons_zero, List.set_cons_succ]
        refine wpAnyH_done (by kernel_rfl) ?_ _
        have HW : Hid (FS w l D gd W ∧ W.heap[w7.heap.size]? = some (.cells (cc l) 23 (0, 0))) := ⟨hW, hWg⟩
        clear hW hWg
        generalize w7.heap.size = g at *
        exact ⟨g, HW.out, rfl⟩
    · have hlt := hHeld.lt
      go_simp
      refine hK.out _ _ (hHeld.alloc _) (fun hHa => ?_)
      clear hK K
      try simp only [Act.put, List.setIfInBounds_toArray, List.set_cons_zero, List.set_cons_succ]
      refine wpAnyH_ready (rs := [4]) (by kernel_rfl) (by simp) ?_
      refine (AllReadyH.cons (o := ({ dst := some 61, op := Op.call { callee := Callee.value (Operand.func 22), args := #[Operand.tmp 59, Operand.tmp 60], argTypes := #[23, 3] }, type := 3, pos := "law.go:93", after := #[{ on := 2, ground := Ground.data }, { on := 3, ground := Ground.data }], guard := none } : Oper)) rfl (fun K hK => ?_) AllReadyH.nil)
      have hz : Hid _ := heap_alloc_new w6 (.cells #[.int .i64 0, .int .i64 0, .int .i64 0, .int .i64 0, .int .i64 0, .int .i64 0, .int .i64 0, .int .i64 0, .int .i64 0, .int .i64 0, .int .i64 0, .int .i64 0, .int .i64 0, .int .i64 0, .int .i64 0] 23)
      go_simp
      refine (HO.out _).mono ?_
      rintro e w7 ⟨rfl, hb7⟩
      try go_wp2_with fail
      refine hK.out _ _ (hHa.keep hb7) (fun hH7 => ?_)
      clear hK K
      try simp only [Act.put, List.setIfInBounds_toArray, List.set_cons_zero, List.set_cons_succ]
      refine wpAnyH_ready (rs := [5]) (by kernel_rfl) (by simp) ?_
      refine (AllReadyH.cons (o := ({ dst := some 62, op := Op.call { callee := Callee.value (Operand.func 12), args := #[Operand.tmp 57, Operand.tmp 58, Operand.tmp 61], argTypes := #[23, 3, 3] }, type := 30, pos := "law.go:93", after := #[{ on := 0, ground := Ground.data }, { on := 1, ground := Ground.data }, { on := 4, ground := Ground.data }, { on := 4, ground := Ground.chain }], guard := none } : Oper)) rfl (fun K hK => ?_) AllReadyH.nil)
      go_simp
      refine (HS.out _).mono ?_
      rintro e w8 ⟨rfl, hb8⟩
      try go_wp2_with fail
      refine hK.out _ _ (hH7.keep hb8) (fun hH8 => ?_)
      clear hK K
      try simp only [Act.put, List.setIfInBounds_toArray, List.set_cons_zero, List.set_cons_succ]
      refine wpAnyH_take (i := 6) (oi := ({ dst := some 56, op := Op.move (Operand.tmp 62), type := 30, pos := "law.go:93", after := #[{ on := 5, ground := Ground.data }], guard := none } : Oper)) (v := .tuple #[.agg (cc l), .bool true]) rfl (by kernel_rfl) (by kernel_rfl) (by kernel_rfl) (fun _ _ _ h => h) (Or.inl ⟨by rfl, fun W _ => rfl⟩) hH8 ?_
      try simp only [Act.put, List.setIfInBounds_toArray, List.set_cons_zero, List.set_cons_succ]
      refine wpAnyH_take (i := 7) (oi := ({ dst := some 63, op := Op.extract (Operand.tmp 56) 0, type := 23, pos := "law.go:93", after := #[{ on := 6, ground := Ground.data }], guard := none } : Oper)) (v := .agg (cc l)) rfl (by kernel_rfl) (by kernel_rfl) (by kernel_rfl) (fun _ _ _ h => h) (Or.inl ⟨by rfl, fun W _ => rfl⟩) hH8 ?_
      try simp only [Act.put, List.setIfInBounds_toArray, List.set_cons_zero, List.set_cons_succ]
      refine wpAnyH_take (i := 8) (oi := ({ dst := some 64, op := Op.extract (Operand.tmp 56) 1, type := 4, pos := "law.go:93", after := #[{ on := 6, ground := Ground.data }, { on := 10, ground := Ground.gcOnly Departure.lateStores }], guard := none } : Oper)) (v := .bool true) rfl (by kernel_rfl) (by kernel_rfl) (by kernel_rfl) (fun _ _ _ h => h) (Or.inl ⟨by rfl, fun W _ => rfl⟩) hH8 ?_
      try simp only [Act.put, List.setIfInBounds_toArray, List.set_cons_zero, List.set_cons_succ]
      refine wpAnyH_ready (rs := [10]) (by kernel_rfl) (by simp) ?_
      refine (AllReadyH.cons (o := ({ dst := none, op := Op.store 23 (Operand.tmp 17) (Operand.tmp 63), type := 0, pos := "law.go:93", after := #[{ on := 9, ground := Ground.data }, { on := 7, ground := Ground.data }, { on := 5, ground := Ground.chain }, { on := 0, ground := Ground.phase }, { on := 1, ground := Ground.phase }, { on := 2, ground := Ground.phase }, { on := 3, ground := Ground.phase }, { on := 4, ground := Ground.phase }, { on := 5, ground := Ground.phase }, { on := 6, ground := Ground.phase }, { on := 7, ground := Ground.phase }, { on := 8, ground := Ground.textOnly Departure.lateStores }, { on := 9, ground := Ground.phase }], guard := none } : Oper)) rfl (fun K hK => ?_) AllReadyH.nil)
      rw [if_pos (by rfl)]
      refine st_putW hl _ _ rfl rfl rfl (keep_blk hb8 (keep_blk hb7 hz.out)) rfl hH8 ⟨by have := hlt.1; simp at this; omega, by have := hlt.2; simp at this; omega⟩ ?_
      intro W hW hWg
      refine hK.out _ _ hW (fun _ => ?_)
      clear hK K
      simp only [Act.put]
      refine wpAnyH_take (i := 11) (oi := ({ dst := some 18, op := Op.assign (Operand.tmp 64), type := 4, pos := "law.go:93", after := #[{ on := 8, ground := Ground.data }, { on := 10, ground := Ground.chain }, { on := 0, ground := Ground.phase }, { on := 1, ground := Ground.phase }, { on := 2, ground := Ground.phase }, { on := 3, ground := Ground.phase }, { on := 4, ground := Ground.phase }, { on := 5, ground := Ground.phase }, { on := 6, ground := Ground.phase }, { on := 7, ground := Ground.phase }, { on := 8, ground := Ground.phase }, { on := 9, ground := Ground.phase }, { on := 10, ground := Ground.phase }], guard := none } : Oper)) (v := .bool true) rfl (by kernel_rfl) (by kernel_rfl) (by kernel_rfl) (fun _ _ _ h => h) (Or.inl ⟨by rfl, fun W _ => rfl⟩) hW ?_
      try simp only [Act.put, List.setIfInBounds_toArray, List.set_cons_zero, List.set_cons_succ]
      refine wpAnyH_done (by kernel_rfl) ?_ _
      have HW : Hid (FS w l D gd W ∧ W.heap[w6.heap.size]? = some (.cells (cc l) 23 (0, 0))) := ⟨hW, hWg⟩
      clear hW hWg
      generalize w6.heap.size = g at *
      exact ⟨g, HW.out, rfl⟩
  · intro g W HW0
    have HW := Hid.mk' HW0
    clear HW0 HF6
    have HN1 : Hid (∀ w', w' = W → Calls Tryd.prog 16 #[.int .i64 n] w' fun e w'' => e = .returned (.string (nm n)) ∧ w'' = w') := fun w' h => name_any n w' (HE.out.below (h ▸ HW.out.1.2.2))
    have HN2 : Hid (∀ w', w' = W → Calls Tryd.prog 16 #[.int .i64 k] w' fun e w'' => e = .returned (.string (nm k)) ∧ w'' = w') := fun w' h => name_any k w' (HE.out.below (h ▸ HW.out.1.2.2))
    have HB : Hid (Below w.heap.size w W) := HW.out.1.2.2
    have y := cells_of hl HW.out.1.1
    have z := cells_of hl HW.out.2
    have y0 := y 0 (by omega)
    have y1 := y 1 (by omega)
    have y2 := y 2 (by omega)
    have y3 := y 3 (by omega)
    have y4 := y 4 (by omega)
    have y5 := y 5 (by omega)
    have y6 := y 6 (by omega)
    have y7 := y 7 (by omega)
    have y8 := y 8 (by omega)
    have y9 := y 9 (by omega)
    have y10 := y 10 (by omega)
    have y11 := y 11 (by omega)
    have y12 := y 12 (by omega)
    have y13 := y 13 (by omega)
    have y14 := y 14 (by omega)
    have z0 := z 0 (by omega)
    have z1 := z 1 (by omega)
    have z2 := z 2 (by omega)
    have z3 := z 3 (by omega)
    have z4 := z 4 (by omega)
    have z5 := z 5 (by omega)
    have z6 := z 6 (by omega)
    have z7 := z 7 (by omega)
    have z8 := z 8 (by omega)
    have z9 := z 9 (by omega)
    have z10 := z 10 (by omega)
    have z11 := z 11 (by omega)
    have z12 := z 12 (by omega)
    have z13 := z 13 (by omega)
    have z14 := z 14 (by omega)
    clear y z HW HE HS HO hD
    obtain ⟨c0, c1, c2, c3, c4, c5, c6, c7, c8, c9, c10, c11, c12, c13, c14, hc⟩ := fifteen hl
    rw [hc] at y0 y1 y2 y3 y4 y5 y6 y7 y8 y9 y10 y11 y12 y13 y14 z0 z1 z2 z3 z4 z5 z6 z7 z8 z9 z10 z11 z12 z13 z14
    simp only [List.getD_cons_succ, List.getD_cons_zero] at y0 y1 y2 y3 y4 y5 y6 y7 y8 y9 y10 y11 y12 y13 y14 z0 z1 z2 z3 z4 z5 z6 z7 z8 z9 z10 z11 z12 z13 z14
    clear hc hl
    have hnf := nm_some hn15
    by_cases hnk : n = k
    · subst hnk
      go_wp2_with (first
        | (go_at_call 16; refine (HN1.out _ rfl).mono ?_; rintro e w' ⟨rfl, rfl⟩))
      go_ret
      exact ⟨rfl, HB.out⟩
    · have hY := HD.out.2.2 hnk
      subst hY
      have hq := nm_ne hn15 hk15 hnk
      have h1 : ((n : Int) == (k : Int)) = false := beq_eq_false_iff_ne.2 (by omega)
      have h2 : ((k : Int) == (n : Int)) = false := beq_eq_false_iff_ne.2 (by omega)
      have h3 : ¬ (n : Int) = (k : Int) := by omega
      have h4 : ¬ (k : Int) = (n : Int) := by omega
      clear hnk HD hn15 hk15
      go_wp2_with (first
        | (go_at_call 16; refine (HN1.out _ rfl).mono ?_; rintro e w' ⟨rfl, rfl⟩)
        | (go_at_call 16; refine (HN2.out _ rfl).mono ?_; rintro e w' ⟨rfl, rfl⟩))
      go_ret
      exact ⟨rfl, HB.out⟩

end Go.Proofs.YtmhigndplbdknaaDoor
