/-
  What rest (Ready, Give) does, as contracts, of nil too. Conditions: the pool lies where it is said to lie; ids are ints; fewer than a million were laid to rest.
-/
import Derived.Test.YtedbiaopbfejfaaMeth
namespace Go.Proofs.Ytedbiaopbfejfaa
open Go.ChangeShapes Go.WideShapes Go.ChangeAt Go.RowKit Go.Maps

/-- A store into a map as one step of a region that draws. -/
theorem step_put {P : Program} {ops : Array Oper} {o : Oper} {a : Act} {w : World} {K : Act → World → Prop} {Q : Exit → Act → World → Prop} {E : Prop}
    (hg : o.guard = none) (m x v : Operand) (t : TypeId) (hop : o.op = Op.mapUpdate t m x v) (mv key val : Value) (hm : a.eval m = mv) (hx : a.eval x = key) (hv : a.eval v = val) (w' : World) (hrun : (Instr.mapUpdate t mv key val).run P w = .ok () w')
    (hK : K (a.put o.dst undef) w') : if Region.wanted o (yielded ops a.tmps) = true then Oper.wp P o a w K Q else E := by
  have hw : Region.wanted o (yielded ops a.tmps) = true := by simp [Region.wanted, hg]
  rw [if_pos hw]
  unfold Oper.wp
  simp [execOp, hop, hm, hx, hv, hrun, Result.andThen]
  exact hK

theorem wrap_ok {z : Int} (h0 : -9223372036854775808 ≤ z) (h1 : z ≤ 9223372036854775807) : IntKind.i64.wrap z = z := by
  simp [IntKind.wrap, IntKind.signed, IntKind.bits]
  omega

theorem field0 (a b : Int) (w : World) : (Instr.field 63 (.agg #[.int .i64 a, .int .i64 b]) 0).run Try.prog w = .ok (.int .i64 a) w := by kernel_rfl
theorem field1 (a b : Int) (w : World) : (Instr.field 63 (.agg #[.int .i64 a, .int .i64 b]) 1).run Try.prog w = .ok (.int .i64 b) w := by kernel_rfl

theorem rest_nil (x f : Int) (w : World) : Calls Try.prog 39 #[.pointer none, .int .i64 x, .int .i64 f] w fun e w' => e = .returned (.bool false) ∧ w' = w := by
  go_enter Try.func39, Try.ntmps39
  go_wp2_with (first | (go_at_call 26; refine (is_nil _ _).mono ?_; rintro e w' ⟨rfl, hw'⟩; subst w'))
  go_ret
  exact ⟨rfl, rfl⟩

section
variable {w : World} {A : Nat → Prop} {g R K : Nat} {s s' : St} {x : Int}
set_option maxRecDepth 100000 in
theorem rest_no (h : PAt w A g R s K) (hx : Wf x) (f : Int) (hn : ∀ cn, Inv s cn K → x ∈ s.ids → (cn x).1 ≠ f) :
    Calls Try.prog 39 #[.pointer (some ⟨g, 0, none⟩), .int .i64 x, .int .i64 f] w fun e w' => e = .returned (.bool false) ∧ PAt w' A g R s K ∧ Keep A w w' := by
  have HH : Hid (∀ w2, Below w.heap.size w w2 → PAt w2 A g R s K ∧ Keep A w w2) := fun w2 hb => ⟨h.belowS hb, keep_below hb⟩
  by_cases h0 : x ∈ s.ids
  · have hi := is_w h x hx true (decide_eq_true h0)
    have HL : Hid (∀ w2, Below w.heap.size w w2 → ∃ gm gc a b, w2.cell? ⟨g, 0, none⟩ = some (.map (some gm)) ∧ gc = gm ∧ (Instr.lookup 56 (.map (some gm)) (.int .i64 x) false).run Try.prog w2 = .ok (.agg #[.int .i64 a, .int .i64 b]) w2 ∧ (a != f) = true) := fun w2 hb2 => by
      obtain ⟨gm, gc, sn, rn, D, cn, hb, hc, hm, ht, _⟩ := (h.belowS hb2).q.ex
      exact ⟨gm, gm, _, _, (blk2 hb).1, rfl, map_at hm ht h0, by rw [bne_iff_ne]; exact hn cn ht.inv h0⟩
    have hf0 := field0
    clear h h0 hx hn
    go_enter Try.func39, Try.ntmps39
    go_wp2_with (first | (go_at_call 26; refine hi.mono ?_; rintro e w2 ⟨rfl, hb2⟩; obtain ⟨gm, gc, a, b, c0, -, hlook, hne⟩ := HL.out w2 hb2))
    go_ret
    exact ⟨rfl, HH.out _ hb2⟩
  · have hi := is_w h x hx false (decide_eq_false h0)
    clear h h0 hx hn
    go_enter Try.func39, Try.ntmps39
    go_wp2_with (first | (go_at_call 26; refine hi.mono ?_; rintro e w2 ⟨rfl, hb2⟩))
    go_ret
    exact ⟨rfl, HH.out _ hb2⟩

set_option maxRecDepth 100000 in
theorem rest_yes (h : PAt w A g R s K) (f : Int) (hK : K ≤ 1000000) (h0 : x ∈ s.ids) (hf : ∀ cn, Inv s cn K → (cn x).1 = f) (hl : s'.ids.length = s.ids.length) (hmem : ∀ y, y ∈ s'.ids ↔ y ∈ s.ids ∨ y = x)
    (hinv : ∀ cn (t : Int), Inv s cn K → 0 ≤ t → t ≤ K → (∀ y ∈ s.I, (cn y).2 ≤ t) → Inv s' (upd cn x (1, t + 1)) (K + 1)) :
    Calls Try.prog 39 #[.pointer (some ⟨g, 0, none⟩), .int .i64 x, .int .i64 f] w fun e w' => e = .returned (.bool true) ∧ PAt w' A g R s' (K + 1) ∧ Keep A w w' := by
  have hx : Wf x := h.q.inv.choose_spec.wf x h0
  have hi := is_w h x hx true (decide_eq_true h0)
  have HL : Hid (∀ w2, Below w.heap.size w w2 → ∃ gm b, w2.cell? ⟨g, 0, none⟩ = some (.map (some gm)) ∧ (Instr.lookup 56 (.map (some gm)) (.int .i64 x) false).run Try.prog w2 = .ok (.agg #[.int .i64 f, .int .i64 b]) w2 ∧
      Calls Try.prog 44 #[.pointer (some ⟨g, 0, none⟩)] w2.drew fun e w5 => ∃ t T : Int, e = .returned (.int .i64 t) ∧ IntKind.i64.wrap (t + 1) = T ∧ w5.cell? ⟨g, 0, none⟩ = some (.map (some gm)) ∧
        ∃ w6, (Instr.mapUpdate 56 (.map (some gm)) (.int .i64 x) (.agg #[.int .i64 1, .int .i64 T])).run Try.prog w5 = .ok () w6 ∧ PAt w6 A g R s' (K + 1) ∧ Keep A w w6) := fun w2 hb2 => by
    have h2 := h.belowS hb2
    obtain ⟨gm, gc, sn, rn, D, cn, hb, hc, hm, ht, hA1, hA2⟩ := h2.q.ex
    have hlk := map_at hm ht h0
    rw [hf cn ht.inv] at hlk
    refine ⟨gm, _, (blk2 hb).1, hlk, (top_any w2.drew g gm s.ids.length _ D s cn K hb (map_block hm rfl) ht hK).mono ?_⟩
    rintro e w5 ⟨t, rfl, t0, t1, t2, hb5⟩
    have hb25 : Below w2.heap.size w2 w5 := ⟨hb5.os, hb5.tape, hb5.output, hb5.size, hb5.block⟩
    have h5 := (h2.belowS hb25).q
    have hb' := (hb25.block g (lt_of_heap hb)).trans hb
    have hc' := (hb25.block gc (lt_of_heap hc)).trans hc
    have hm' := map_block hm (hb25.block gm hm.lt)
    have hle := h.le
    have hmax := h.max
    obtain ⟨w6, hrun, hown, htu⟩ := hm'.store keyed3 Try.underlying56 (by unfold maxLen; omega) (keyOf3 hx) (connElem_mk (1, t + 1))
    have hp := h5.put hb' hc' hm' ht hA1 hA2 hmem (by rw [if_pos h0]; exact hl) (hinv cn t ht.inv t0 t1 t2) hown htu.grown
    refine ⟨t, t + 1, rfl, wrap_ok (by omega) (by omega), (blk2 hb').1, w6, hrun, ⟨?_, by omega, hmax⟩, ((keep_below hb2).trans (keep_below hb25)).trans hp.2⟩
    rw [hl]
    exact hp.1
  have hf0 := field0
  clear h h0 hx hf hl hmem hinv
  go_enter Try.func39, Try.ntmps39
  go_upto_region 3 with (first | (go_at_call 26; refine hi.mono ?_; rintro e w2 ⟨rfl, hb2⟩; obtain ⟨gm, b, c0, hlook, htop⟩ := HL.out w2 hb2))
  go_region_law (first
    | ((refine step_put rfl _ _ _ _ rfl _ _ _ rfl rfl rfl w6 hrun6 ?_))
    | ((go_simp; go_at_call 44; refine htop.mono ?_; rintro e w5 ⟨t, T, rfl, hT, c05, w6, hrun6, hp6, hk6⟩)))
  all_goals (
    go_wp2
    go_ret
    exact ⟨rfl, hp6, hk6⟩)

theorem ready_nil (x : Int) (w : World) : Calls Try.prog 16 #[.pointer none, .int .i64 x] w fun e w' => e = .returned (.bool false) ∧ w' = w := by
  go_enter Try.func16, Try.ntmps16
  go_wp2_with (first | (go_at_call 39; refine (rest_nil _ _ _).mono ?_; rintro e w' ⟨rfl, hw'⟩; subst w'))
  go_ret
  exact ⟨rfl, rfl⟩
theorem give_nil (x : Int) (w : World) : Calls Try.prog 20 #[.pointer none, .int .i64 x] w fun e w' => e = .returned (.bool false) ∧ w' = w := by
  go_enter Try.func20, Try.ntmps20
  go_wp2_with (first | (go_at_call 39; refine (rest_nil _ _ _).mono ?_; rintro e w' ⟨rfl, hw'⟩; subst w'))
  go_ret
  exact ⟨rfl, rfl⟩

/-- Who is there behind a Ready, or a Give. -/
def readyS (s : St) (x : Int) : St := if x ∈ s.M then rdy s x else s
def giveS (s : St) (x : Int) : St := if x ∈ s.B then gv s x else s

theorem PAt.more (h : PAt w A g R s K) : PAt w A g R s (K + 1) := by
  obtain ⟨gm, gc, sn, rn, D, cn, hb, hc, hm, ht, r⟩ := h.q.ex
  exact ⟨⟨⟨gm, gc, sn, rn, D, cn, hb, hc, hm, ⟨ht.has, ht.none, ht.size, ⟨ht.inv.mkg, fun y hy => by have := ht.inv.idl y hy; omega, ht.inv.bsy, ht.inv.nM, ht.inv.nB, ht.inv.row, ht.inv.wf⟩⟩, r⟩, h.q.gout, h.q.guard⟩, h.le, h.max⟩

theorem ready_w (h : PAt w A g R s K) (hK : K ≤ 1000000) (hx : Wf x) : Calls Try.prog 16 #[.pointer (some ⟨g, 0, none⟩), .int .i64 x] w fun e w' => e = .returned (.bool (decide (x ∈ s.M))) ∧ PAt w' A g R (readyS s x) (K + 1) ∧ Keep A w w' := by
  unfold readyS
  by_cases h0 : x ∈ s.M
  · obtain ⟨cn0, hi0⟩ := h.q.inv
    have hr := rest_yes (s' := rdy s x) h 0 hK (mem_ids.2 (.inl h0)) (fun cn hi => by rw [hi.mkg x h0]) (ids_ready hi0 h0).1 (ids_ready hi0 h0).2 (fun cn t hi t0 t1 t2 => hi.ready h0 t0 t1 t2)
    rw [decide_eq_true h0, if_pos h0]
    clear h h0 hx hi0
    go_enter Try.func16, Try.ntmps16
    go_wp2_with (first | (go_at_call 39; refine hr.mono ?_; rintro e w2 ⟨rfl, hp, hk⟩))
    go_ret
    exact ⟨rfl, hp, hk⟩
  · have hr := rest_no h hx 0 (fun cn hi hm e => h0 ((hi.what hm).1.1 e))
    rw [decide_eq_false h0, if_neg h0]
    clear h h0 hx
    go_enter Try.func16, Try.ntmps16
    go_wp2_with (first | (go_at_call 39; refine hr.mono ?_; rintro e w2 ⟨rfl, hp, hk⟩))
    go_ret
    exact ⟨rfl, hp.more, hk⟩
theorem give_w (h : PAt w A g R s K) (hK : K ≤ 1000000) (hx : Wf x) : Calls Try.prog 20 #[.pointer (some ⟨g, 0, none⟩), .int .i64 x] w fun e w' => e = .returned (.bool (decide (x ∈ s.B))) ∧ PAt w' A g R (giveS s x) (K + 1) ∧ Keep A w w' := by
  unfold giveS
  by_cases h0 : x ∈ s.B
  · obtain ⟨cn0, hi0⟩ := h.q.inv
    have hr := rest_yes (s' := gv s x) h 2 hK (mem_ids.2 (.inr (.inr h0))) (fun cn hi => by rw [hi.bsy x h0]) (ids_given hi0 h0).1 (ids_given hi0 h0).2 (fun cn t hi t0 t1 t2 => hi.given h0 t0 t1 t2)
    rw [decide_eq_true h0, if_pos h0]
    clear h h0 hx hi0
    go_enter Try.func20, Try.ntmps20
    go_wp2_with (first | (go_at_call 39; refine hr.mono ?_; rintro e w2 ⟨rfl, hp, hk⟩))
    go_ret
    exact ⟨rfl, hp, hk⟩
  · have hr := rest_no h hx 2 (fun cn hi hm e => h0 ((hi.what hm).2.2.1 e))
    rw [decide_eq_false h0, if_neg h0]
    clear h h0 hx
    go_enter Try.func20, Try.ntmps20
    go_wp2_with (first | (go_at_call 39; refine hr.mono ?_; rintro e w2 ⟨rfl, hp, hk⟩))
    go_ret
    exact ⟨rfl, hp.more, hk⟩
end

end Go.Proofs.Ytedbiaopbfejfaa
