/-
  The closures that tell whether a host may be dialled, and whether it is to be warmed, each as a contract. Conditions: what they captured lies where it is said to lie.
-/
import Derived.Test.YtdiifnakmemadaaSum
import Derived.Deep.RegionWith
import Derived.Deep.RegionHeld3
namespace Go.Proofs.Ytdiifnakmemadaa
open Go.ChangeShapes Go.WideShapes Go.ChangeAt Go.RowKit

theorem quiet1_same {P : Program} {f : FuncId} {args : Array Value} {w : World} {m : Nat} {v : Value}
    (h : Calls P f args (w.drewN m) fun e w' => e = .returned v ∧ w' = w.drewN m) : Calls P f args (w.drewN m) fun e w'' => e = .returned v ∧ ∃ k, w'' = w.drewN k :=
  h.mono fun _ _ ⟨he, hm⟩ => ⟨he, m, hm⟩

theorem inAll5 (s m d b : Int) (y : Bool) (w : World) : Calls Try.prog 26 #[.agg #[.int .i64 s, .int .i64 m, .int .i64 d, .int .i64 b, .bool y]] w fun e w' => e = .returned (.int .i64 (allH ⟨s, m, d, b, y⟩)) ∧ Below w.heap.size w w' := inAll_any ⟨s, m, d, b, y⟩ w

/-- What a closure's call finds: an int of the captured ones, and the host in a block of its own. -/
def O6 (w0 : World) (p g : Nat) (c : Value) (s m d b : Int) (y : Bool) (w' : World) : Prop :=
  w'.cell? ⟨p, 0, none⟩ = some c ∧ w'.cell? ⟨g, 0, none⟩ = some (.int .i64 s) ∧ w'.cell? ⟨g, 1, none⟩ = some (.int .i64 m) ∧ w'.cell? ⟨g, 2, none⟩ = some (.int .i64 d) ∧ w'.cell? ⟨g, 3, none⟩ = some (.int .i64 b) ∧ w'.cell? ⟨g, 4, none⟩ = some (.bool y) ∧ Below w0.heap.size w0 w'
theorem O6.below {w0 w w' : World} {p g : Nat} {c : Value} {s m d b : Int} {y : Bool} (h : O6 w0 p g c s m d b y w) (hb : Below w.heap.size w w') : O6 w0 p g c s m d b y w' := by
  obtain ⟨h0, h1, h2, h3, h4, h5, h6⟩ := h
  have l0 := World.block_lt_of_cell? w _ h0
  have l1 := World.block_lt_of_cell? w _ h1
  exact ⟨(hb.cell (p := ⟨p, 0, none⟩) l0).trans h0, (hb.cell (p := ⟨g, 0, none⟩) l1).trans h1, (hb.cell (p := ⟨g, 1, none⟩) l1).trans h2, (hb.cell (p := ⟨g, 2, none⟩) l1).trans h3, (hb.cell (p := ⟨g, 3, none⟩) l1).trans h4, (hb.cell (p := ⟨g, 4, none⟩) l1).trans h5, below_trans h6 hb⟩
theorem o6_new (w : World) (p : Nat) (c : Value) (s m d b : Int) (y : Bool) (hp : w.cell? ⟨p, 0, none⟩ = some c) : O6 w p w.heap.size c s m d b y (w.alloc (.cells #[.int .i64 s, .int .i64 m, .int .i64 d, .int .i64 b, .bool y] 38)) := by
  have hplt := World.block_lt_of_cell? w _ hp
  have hb : Below w.heap.size w (w.alloc (.cells #[.int .i64 s, .int .i64 m, .int .i64 d, .int .i64 b, .bool y] 38)) := (Below.refl _ w).alloc (Nat.le_refl _) _
  exact ⟨(hb.cell (p := ⟨p, 0, none⟩) hplt).trans hp, by simp [go_sem], by simp [go_sem], by simp [go_sem], by simp [go_sem], by simp [go_sem], hb⟩

set_option maxHeartbeats 1000000 in
set_option maxRecDepth 100000 in
theorem open_any (s m d b : Int) (y : Bool) (p : Nat) (each : Int) (w : World) (hp : w.cell? ⟨p, 0, none⟩ = some (.int .i64 each)) :
    Calls Try.prog 30 #[.agg #[.int .i64 s, .int .i64 m, .int .i64 d, .int .i64 b, .bool y], .pointer (some ⟨p, 0, none⟩)] w fun e w' => e = .returned (.bool (opensH each ⟨s, m, d, b, y⟩)) ∧ Below w.heap.size w w' := by
  have hO := o6_new w p _ s m d b y hp
  obtain ⟨W, hW⟩ : ∃ W, W = w.alloc (.cells #[.int .i64 s, .int .i64 m, .int .i64 d, .int .i64 b, .bool y] 38) := ⟨_, rfl⟩
  rw [← hW] at hO
  obtain ⟨g, hg⟩ : ∃ g, w.heap.size = g := ⟨_, rfl⟩
  have HO : Hid (O6 w p g (.int .i64 each) s m d b y W) := by rw [← hg]; exact hO
  obtain ⟨r, hr⟩ : ∃ r, opensH each ⟨s, m, d, b, y⟩ = r := ⟨_, rfl⟩
  rw [hr]
  unfold opensH at hr
  simp only [] at hr
  clear hp hO
  cases hs : (s == 0) with
  | false =>
    rw [hs] at hr
    have HR : Hid (r = false) := by rw [← hr]; rfl
    clear hr
    go_enter Try.func30, Try.ntmps30
    go_wp2_with fail
    rw [← hW]
    clear hW
    obtain ⟨c0, c1, c2, c3, c4, c5, hb⟩ := HO.out
    have HB := Hid.mk' hb
    clear hb
    go_quiet (first | (go_at_call 31; exact quiet1_same (opens_any _ _)))
    go_wp2
    go_ret
    exact ⟨ret_bool HR.out.symm, below_trans HB.out (below_drewN _ _)⟩
  | true =>
    rw [hs] at hr
    cases y with
    | false =>
      have HR : Hid (r = false) := by rw [← hr]; rfl
      clear hr
      go_enter Try.func30, Try.ntmps30
      go_wp2_with fail
      rw [← hW]
      clear hW
      obtain ⟨c0, c1, c2, c3, c4, c5, hb⟩ := HO.out
      have HB := Hid.mk' hb
      clear hb
      go_quiet (first | (go_at_call 31; exact quiet1_same (opens_any _ _)))
      go_wp2
      go_ret
      exact ⟨ret_bool HR.out.symm, below_trans HB.out (below_drewN _ _)⟩
    | true =>
      have HR : Hid (r = decide (allH ⟨s, m, d, b, true⟩ < each)) := by show _ = _; rw [← hr]; simp
      have hin := inAll5 s m d b true
      generalize allH ⟨s, m, d, b, true⟩ = A at *
      clear hr
      go_enter Try.func30, Try.ntmps30
      go_wp2_with fail
      rw [← hW]
      clear hW
      have hS : O6 w p g (.int .i64 each) s m d b true W.drew := HO.out.below (Below.refl _ _).drew
      unfold O6 at hS
      go_region_held3 (fun w' => w'.cell? ⟨p, 0, none⟩ = some (.int .i64 each) ∧ w'.cell? ⟨g, 0, none⟩ = some (.int .i64 s) ∧ w'.cell? ⟨g, 1, none⟩ = some (.int .i64 m) ∧ w'.cell? ⟨g, 2, none⟩ = some (.int .i64 d) ∧ w'.cell? ⟨g, 3, none⟩ = some (.int .i64 b) ∧ w'.cell? ⟨g, 4, none⟩ = some (.bool true) ∧ Below w.heap.size w w')
        (first | assumption | exact O6.below (by assumption) hbx | go_keep)
        (first
          | (go_at_call 31; refine (opens_any _ _).mono ?_; rintro e w' ⟨rfl, rfl⟩)
          | (go_at_call 26; refine (hin _).mono ?_; rintro e w5 ⟨rfl, hbx⟩))
      have hE : O6 w p g (.int .i64 each) s m d b true w5 := by assumption
      have HE := Hid.mk' hE.2.2.2.2.2.2
      clear hE hS hbx hin HO
      go_wp2
      go_ret
      exact ⟨ret_bool HR.out.symm, HE.out⟩

/-- What the call of the warm one's closure finds besides: what it captured, and what that one captured. -/
def O8 (w0 : World) (q u p g : Nat) (each warm : Int) (s m d b : Int) (y : Bool) (w' : World) : Prop :=
  w'.cell? ⟨q, 0, none⟩ = some (.func (.func 30) #[] #[.pointer (some ⟨p, 0, none⟩)]) ∧ w'.cell? ⟨u, 0, none⟩ = some (.int .i64 warm) ∧ O6 w0 p g (.int .i64 each) s m d b y w'
theorem O8.below {w0 w w' : World} {q u p g : Nat} {each warm s m d b : Int} {y : Bool} (h : O8 w0 q u p g each warm s m d b y w) (hb : Below w.heap.size w w') : O8 w0 q u p g each warm s m d b y w' := by
  obtain ⟨h0, h1, h2⟩ := h
  have l0 := World.block_lt_of_cell? w _ h0
  have l1 := World.block_lt_of_cell? w _ h1
  exact ⟨(hb.cell (p := ⟨q, 0, none⟩) l0).trans h0, (hb.cell (p := ⟨u, 0, none⟩) l1).trans h1, h2.below hb⟩

set_option maxHeartbeats 1000000 in
set_option maxRecDepth 100000 in
theorem warm_any (s m d b : Int) (y : Bool) (q u p : Nat) (each warm : Int) (w : World) (hq : w.cell? ⟨q, 0, none⟩ = some (.func (.func 30) #[] #[.pointer (some ⟨p, 0, none⟩)])) (hu : w.cell? ⟨u, 0, none⟩ = some (.int .i64 warm)) (hp : w.cell? ⟨p, 0, none⟩ = some (.int .i64 each)) :
    Calls Try.prog 29 #[.agg #[.int .i64 s, .int .i64 m, .int .i64 d, .int .i64 b, .bool y], .pointer (some ⟨q, 0, none⟩), .pointer (some ⟨u, 0, none⟩)] w fun e w' => e = .returned (.bool (warmH each warm ⟨s, m, d, b, y⟩)) ∧ Below w.heap.size w w' := by
  have hO6 := o6_new w p _ s m d b y hp
  have hb6 := hO6.2.2.2.2.2.2
  have hO : O8 w q u p w.heap.size each warm s m d b y _ := ⟨(hb6.cell (p := ⟨q, 0, none⟩) (World.block_lt_of_cell? w _ hq)).trans hq, (hb6.cell (p := ⟨u, 0, none⟩) (World.block_lt_of_cell? w _ hu)).trans hu, hO6⟩
  obtain ⟨W, hW⟩ : ∃ W, W = w.alloc (.cells #[.int .i64 s, .int .i64 m, .int .i64 d, .int .i64 b, .bool y] 38) := ⟨_, rfl⟩
  rw [← hW] at hO
  obtain ⟨g, hg⟩ : ∃ g, w.heap.size = g := ⟨_, rfl⟩
  have HO : Hid (O8 w q u p g each warm s m d b y W) := by rw [← hg]; exact hO
  obtain ⟨r, hr⟩ : ∃ r, warmH each warm ⟨s, m, d, b, y⟩ = r := ⟨_, rfl⟩
  rw [hr]
  have hop := open_any s m d b y p each
  unfold warmH at hr
  clear hp hq hu hO hO6 hb6
  cases hs : opensH each ⟨s, m, d, b, y⟩ with
  | false =>
    rw [hs] at hr hop
    have HR : Hid (r = false) := by rw [← hr]; rfl
    clear hr hs
    go_enter Try.func29, Try.ntmps29
    go_wp2_with fail
    rw [← hW]
    clear hW
    have HP : Hid (W.drew.cell? ⟨p, 0, none⟩ = some (.int .i64 each)) := (HO.out.below (Below.refl _ _).drew).2.2.1
    refine wp_region_held_drew (S := fun w' => w'.cell? ⟨q, 0, none⟩ = some (.func (.func 30) #[] #[.pointer (some ⟨p, 0, none⟩)]) ∧ w'.cell? ⟨u, 0, none⟩ = some (.int .i64 warm) ∧ w'.cell? ⟨p, 0, none⟩ = some (.int .i64 each) ∧ w'.cell? ⟨g, 0, none⟩ = some (.int .i64 s) ∧ w'.cell? ⟨g, 1, none⟩ = some (.int .i64 m) ∧ w'.cell? ⟨g, 2, none⟩ = some (.int .i64 d) ∧ w'.cell? ⟨g, 3, none⟩ = some (.int .i64 b) ∧ w'.cell? ⟨g, 4, none⟩ = some (.bool y) ∧ Below w.heap.size w w') (by kernel_rfl) ?_ (fun hHeld => ?_)
    · exact HO.out.below (Below.refl _ _).drew
    refine wpAnyH_take (i := 0) (oi := { dst := some 5, op := Op.load 46 (Operand.tmp 1), type := 46, pos := "choose.go:34", after := #[], guard := none }) (v := ?_) rfl (by kernel_rfl) (by kernel_rfl) (by kernel_rfl) (fun _ _ _ h => h) (Or.inl ⟨by rfl, ?_⟩) (by assumption) ?_
    rotate_left
    · intro w hSw
      try dsimp only at hSw
      go_simp
      first | done | with_reducible rfl
    try simp only [Act.put, List.setIfInBounds_toArray, List.set_cons_zero, List.set_cons_succ]
    refine wpAnyH_take (i := 1) (oi := { dst := some 6, op := Op.load 38 (Operand.tmp 3), type := 38, pos := "choose.go:34", after := #[], guard := none }) (v := ?_) rfl (by kernel_rfl) (by kernel_rfl) (by kernel_rfl) (fun _ _ _ h => h) (Or.inl ⟨by rfl, ?_⟩) (by assumption) ?_
    rotate_left
    · intro w hSw
      try dsimp only at hSw
      go_simp
      first | done | with_reducible rfl
    try simp only [Act.put, List.setIfInBounds_toArray, List.set_cons_zero, List.set_cons_succ]
    refine wpAnyH_ready (rs := [2]) (by kernel_rfl) (by simp) ?_
    refine AllReadyH.cons (o := { dst := some 7, op := Op.call { callee := Callee.value (Operand.tmp 5), args := #[Operand.tmp 6], argTypes := #[38] }, type := 4, pos := "choose.go:34", after := #[{ on := 0, ground := Ground.data }, { on := 1, ground := Ground.data }], guard := none }) rfl (fun K hK => ?_) AllReadyH.nil
    go_simp
    (go_at_call 30; refine (hop _ HP.out).mono ?_; rintro e w5 ⟨rfl, hbx⟩)
    try go_wp2_with fail
    refine hK.out _ _ ?_ (fun hHeld => ?_)
    · exact O8.below (by assumption) hbx
    clear hK K
    try simp only [Act.put, List.setIfInBounds_toArray, List.set_cons_zero, List.set_cons_succ]
    refine wpAnyH_take (i := 3) (oi := { dst := some 8, op := Op.move (Operand.tmp 7), type := 4, pos := "choose.go:34", after := #[{ on := 2, ground := Ground.data }, { on := 2, ground := Ground.chain }], guard := none }) (v := ?_) rfl (by kernel_rfl) (by kernel_rfl) (by kernel_rfl) (fun _ _ _ h => h) (Or.inl ⟨by rfl, ?_⟩) (by assumption) ?_
    rotate_left
    · intro w hSw
      try dsimp only at hSw
      go_simp
      first | done | with_reducible rfl
    try simp only [Act.put, List.setIfInBounds_toArray, List.set_cons_zero, List.set_cons_succ]
    refine wpAnyH_take (i := 4) (oi := { dst := some 9, op := Op.fieldAddr 38 (Operand.tmp 3) 1, type := 0, pos := "choose.go:34", after := #[{ on := 3, ground := Ground.guard }], guard := some (3, true) }) (v := undef) rfl (by kernel_rfl) (by kernel_rfl) (by kernel_rfl) (fun _ _ _ h => h) (Or.inr ⟨by rfl, rfl⟩) (by assumption) ?_
    try simp only [Act.put, List.setIfInBounds_toArray, List.set_cons_zero, List.set_cons_succ]
    refine wpAnyH_take (i := 5) (oi := { dst := some 10, op := Op.load 3 (Operand.tmp 9), type := 3, pos := "choose.go:34", after := #[{ on := 4, ground := Ground.data }, { on := 3, ground := Ground.guard }], guard := some (3, true) }) (v := undef) rfl (by kernel_rfl) (by kernel_rfl) (by kernel_rfl) (fun _ _ _ h => h) (Or.inr ⟨by rfl, rfl⟩) (by assumption) ?_
    try simp only [Act.put, List.setIfInBounds_toArray, List.set_cons_zero, List.set_cons_succ]
    refine wpAnyH_take (i := 6) (oi := { dst := some 11, op := Op.fieldAddr 38 (Operand.tmp 3) 2, type := 0, pos := "choose.go:34", after := #[{ on := 3, ground := Ground.guard }], guard := some (3, true) }) (v := undef) rfl (by kernel_rfl) (by kernel_rfl) (by kernel_rfl) (fun _ _ _ h => h) (Or.inr ⟨by rfl, rfl⟩) (by assumption) ?_
    try simp only [Act.put, List.setIfInBounds_toArray, List.set_cons_zero, List.set_cons_succ]
    refine wpAnyH_take (i := 7) (oi := { dst := some 12, op := Op.load 3 (Operand.tmp 11), type := 3, pos := "choose.go:34", after := #[{ on := 6, ground := Ground.data }, { on := 3, ground := Ground.guard }], guard := some (3, true) }) (v := undef) rfl (by kernel_rfl) (by kernel_rfl) (by kernel_rfl) (fun _ _ _ h => h) (Or.inr ⟨by rfl, rfl⟩) (by assumption) ?_
    try simp only [Act.put, List.setIfInBounds_toArray, List.set_cons_zero, List.set_cons_succ]
    refine wpAnyH_take (i := 8) (oi := { dst := some 13, op := Op.buildSlice 41 2 #[(0, Operand.tmp 10), (1, Operand.tmp 12)], type := 41, pos := "choose.go:34", after := #[{ on := 5, ground := Ground.data }, { on := 7, ground := Ground.data }, { on := 3, ground := Ground.guard }], guard := some (3, true) }) (v := undef) rfl (by kernel_rfl) (by kernel_rfl) (by kernel_rfl) (fun _ _ _ h => h) (Or.inr ⟨by rfl, rfl⟩) (by assumption) ?_
    try simp only [Act.put, List.setIfInBounds_toArray, List.set_cons_zero, List.set_cons_succ]
    refine wpAnyH_take (i := 9) (oi := { dst := some 14, op := Op.call { callee := Callee.value (Operand.func 23), args := #[Operand.tmp 13], argTypes := #[41] }, type := 3, pos := "choose.go:34", after := #[{ on := 8, ground := Ground.data }, { on := 3, ground := Ground.chain }, { on := 3, ground := Ground.guard }], guard := some (3, true) }) (v := undef) rfl (by kernel_rfl) (by kernel_rfl) (by kernel_rfl) (fun _ _ _ h => h) (Or.inr ⟨by rfl, rfl⟩) (by assumption) ?_
    try simp only [Act.put, List.setIfInBounds_toArray, List.set_cons_zero, List.set_cons_succ]
    refine wpAnyH_take (i := 10) (oi := { dst := some 15, op := Op.load 3 (Operand.tmp 2), type := 3, pos := "choose.go:34", after := #[{ on := 3, ground := Ground.guard }], guard := some (3, true) }) (v := undef) rfl (by kernel_rfl) (by kernel_rfl) (by kernel_rfl) (fun _ _ _ h => h) (Or.inr ⟨by rfl, rfl⟩) (by assumption) ?_
    try simp only [Act.put, List.setIfInBounds_toArray, List.set_cons_zero, List.set_cons_succ]
    refine wpAnyH_take (i := 11) (oi := { dst := some 16, op := Op.binOp BinOp.lss 3 (Operand.tmp 14) (Operand.tmp 15) 3, type := 4, pos := "choose.go:34", after := #[{ on := 9, ground := Ground.data }, { on := 10, ground := Ground.data }, { on := 3, ground := Ground.guard }], guard := some (3, true) }) (v := undef) rfl (by kernel_rfl) (by kernel_rfl) (by kernel_rfl) (fun _ _ _ h => h) (Or.inr ⟨by rfl, rfl⟩) (by assumption) ?_
    try simp only [Act.put, List.setIfInBounds_toArray, List.set_cons_zero, List.set_cons_succ]
    refine wpAnyH_take (i := 12) (oi := { dst := some 17, op := Op.pick (Operand.tmp 8) (Operand.tmp 16) (Operand.const (Value.bool false)), type := 4, pos := "choose.go:34", after := #[{ on := 3, ground := Ground.data }, { on := 11, ground := Ground.data }], guard := none }) (v := ?_) rfl (by kernel_rfl) (by kernel_rfl) (by kernel_rfl) (fun _ _ _ h => h) (Or.inl ⟨by rfl, ?_⟩) (by assumption) ?_
    rotate_left
    · intro w hSw
      try dsimp only at hSw
      go_simp
      first | done | with_reducible rfl
    try simp only [Act.put, List.setIfInBounds_toArray, List.set_cons_zero, List.set_cons_succ]
    refine wpAnyH_take (i := 13) (oi := { dst := some 4, op := Op.assign (Operand.tmp 17), type := 4, pos := "choose.go:34", after := #[{ on := 12, ground := Ground.data }, { on := 9, ground := Ground.chain }, { on := 0, ground := Ground.phase }, { on := 1, ground := Ground.phase }, { on := 2, ground := Ground.phase }, { on := 3, ground := Ground.phase }, { on := 4, ground := Ground.phase }, { on := 5, ground := Ground.phase }, { on := 6, ground := Ground.phase }, { on := 7, ground := Ground.phase }, { on := 8, ground := Ground.phase }, { on := 9, ground := Ground.phase }, { on := 10, ground := Ground.phase }, { on := 11, ground := Ground.phase }, { on := 12, ground := Ground.phase }], guard := none }) (v := ?_) rfl (by kernel_rfl) (by kernel_rfl) (by kernel_rfl) (fun _ _ _ h => h) (Or.inl ⟨by rfl, ?_⟩) (by assumption) ?_
    rotate_left
    · intro w hSw
      try dsimp only at hSw
      go_simp
      first | done | with_reducible rfl
    try simp only [Act.put, List.setIfInBounds_toArray, List.set_cons_zero, List.set_cons_succ]
    refine wpAnyH_done (by kernel_rfl) ?_ _
    have hE : O8 w q u p g each warm s m d b y w5 := by assumption
    have HE := Hid.mk' hE.2.2.2.2.2.2.2.2
    clear hE
    go_wp2
    go_ret
    exact ⟨ret_bool HR.out.symm, HE.out⟩
  | true =>
    rw [hs] at hr hop
    have HR : Hid (r = decide (ownH ⟨s, m, d, b, y⟩ < warm)) := by show _ = _; rw [← hr]; simp
    have HE5 : Hid (ownH ⟨s, m, d, b, y⟩ = sumS [m, d]) := rfl
    generalize ownH ⟨s, m, d, b, y⟩ = A at *
    clear hr hs
    go_enter Try.func29, Try.ntmps29
    go_wp2_with fail
    rw [← hW]
    clear hW
    have HP : Hid (W.drew.cell? ⟨p, 0, none⟩ = some (.int .i64 each)) := (HO.out.below (Below.refl _ _).drew).2.2.1
    have hS : O8 w q u p g each warm s m d b y W.drew := HO.out.below (Below.refl _ _).drew
    unfold O8 O6 at hS
    go_region_held3 (fun w' => w'.cell? ⟨q, 0, none⟩ = some (.func (.func 30) #[] #[.pointer (some ⟨p, 0, none⟩)]) ∧ w'.cell? ⟨u, 0, none⟩ = some (.int .i64 warm) ∧ w'.cell? ⟨p, 0, none⟩ = some (.int .i64 each) ∧ w'.cell? ⟨g, 0, none⟩ = some (.int .i64 s) ∧ w'.cell? ⟨g, 1, none⟩ = some (.int .i64 m) ∧ w'.cell? ⟨g, 2, none⟩ = some (.int .i64 d) ∧ w'.cell? ⟨g, 3, none⟩ = some (.int .i64 b) ∧ w'.cell? ⟨g, 4, none⟩ = some (.bool y) ∧ Below w.heap.size w w')
      (first | assumption | exact O8.below (by assumption) hbx | exact O8.below (w := w5) (by assumption) ((Below.refl _ w5).alloc (Nat.le_refl _) _) | go_keep)
      (first
        | (go_at_call 30; refine (hop _ HP.out).mono ?_; rintro e w5 ⟨rfl, hbx⟩)
        | (go_at_call 23; refine (sum_any _ _ _ _ [m, d] ?_).mono ?_; exact two_at _ _ _; rintro e w6 ⟨rfl, hw6⟩; subst w6))
    have hE : O8 w q u p g each warm s m d b y (w5.alloc (.cells #[.int .i64 m, .int .i64 d] 3)) := by assumption
    have HE := Hid.mk' hE.2.2.2.2.2.2.2.2
    clear hE hS hop HO
    go_wp2
    go_ret
    exact ⟨ret_bool (by rw [HR.out, HE5.out]), HE.out⟩

end Go.Proofs.Ytdiifnakmemadaa
