/-
  What config's parse and Read answer, each as a contract: the config of a text, if it is one's, and its error; they turn nothing that was there. Conditions: the text is shorter than 4294967281 bytes; the library's table and error read as they are laid.
-/
import Derived.Test.YtmhigndplbdknaaDoorCut
import Derived.Test.YtmhigndplbdknaaDoorCheck
namespace Go.Proofs.YtmhigndplbdknaaDoor
open Go.ChangeShapes Go.WideShapes Go.ChangeAt Go.RowKit

theorem lt_of_some {w : World} {g : Nat} {o : Obj} (h : w.heap[g]? = some o) : g < w.heap.size := (Array.getElem?_eq_some_iff.1 h).1
theorem keep_blk {w w' : World} (hb : Below w.heap.size w w') {g : Nat} {o : Obj} (h : w.heap[g]? = some o) : w'.heap[g]? = some o := (hb.block g (lt_of_some h)).trans h

/-- What parse has come to: i numbers read, of s the rest s' is left. -/
structure PR (w : World) (s : List UInt8) (i : Nat) (s' : List UInt8) (m : Bool) (wr : World) : Prop where
  vs : ∃ vs : List Int, vs.length = i ∧ rdB s = (rd (15 - i) s' m).map (vs ++ ·) ∧ wr.heap[w.heap.size + 1]? = some (.cells (cc (vs ++ zeros.drop i)) 23 (0, 0))
  z : wr.heap[w.heap.size]? = some (.cells (cc zeros) 23 (0, 0))
  len : s'.length < 4294967281
  env : Env w
  bel : Below w.heap.size w wr
theorem PR.keep {w : World} {s : List UInt8} {i : Nat} {s' : List UInt8} {m : Bool} {wr w' : World} (h : PR w s i s' m wr) (hb : Below wr.heap.size wr w') : PR w s i s' m w' := by
  obtain ⟨vs, h1, h2, h3⟩ := h.vs
  exact ⟨⟨vs, h1, h2, keep_blk hb h3⟩, keep_blk hb h.z, h.len, h.env, h.bel.trans (hb.mono h.bel.size)⟩
theorem zeros_len : zeros.length = 15 := rfl
theorem set_next (vs : List Int) (i : Nat) (hi : i < 15) (h : vs.length = i) (v : Int) : (vs ++ zeros.drop i).set i v = (vs ++ [v]) ++ zeros.drop (i + 1) := by
  subst h
  rw [List.set_append_right _ _ (Nat.le_refl _), Nat.sub_self]
  have : zeros.drop vs.length = 0 :: zeros.drop (vs.length + 1) := by
    match vs.length, hi with
    | 0, _ | 1, _ | 2, _ | 3, _ | 4, _ | 5, _ | 6, _ | 7, _ | 8, _ | 9, _ | 10, _ | 11, _ | 12, _ | 13, _ | 14, _ => rfl
  rw [this]
  simp
/-- One number more. -/
theorem PR.next {w : World} {s : List UInt8} {i : Nat} {s' : List UInt8} {m : Bool} {wr : World} (h : PR w s i s' m wr) (hi : i < 15) {v : Int} (hv : numB (cutA s').1 = some v) :
    PR w s (i + 1) (cutA s').2.1 (cutA s').2.2 (wr.setCell ⟨w.heap.size + 1, i, none⟩ (.int .i64 v)) := by
  obtain ⟨vs, h1, h2, h3⟩ := h.vs
  have hb' : Below w.heap.size w (wr.setCell ⟨w.heap.size + 1, i, none⟩ (.int .i64 v)) := h.bel.setCell (by simp) _
  refine ⟨⟨vs ++ [v], by simp [h1], ?_, ?_⟩, ?_, ?_, ?_, hb'⟩
  · rw [h2]
    have e : 15 - i = (15 - (i + 1)) + 1 := by omega
    rw [e, rd, hv]
    simp only [Option.map_map]
    congr 1
    funext x
    simp
  · rw [heap_setCell_same _ _ _ _ _ _ h3, cc_set, set_next vs i hi h1]
  · rw [heap_setCell_other _ _ _ _ (by simp)]
    exact h.z
  · have := (cutA_len s').2
    have := h.len
    omega
  · exact h.env
theorem PR.none_ {w : World} {s : List UInt8} {i : Nat} {s' : List UInt8} {m : Bool} {wr : World} (h : PR w s i s' m wr) (hi : i < 15) (hv : numB (cutA s').1 = none) : rdB s = none := by
  obtain ⟨vs, h1, h2, h3⟩ := h.vs
  have e : 15 - i = (15 - (i + 1)) + 1 := by omega
  rw [h2, e, rd, hv]
  rfl


def prL (s : List UInt8) : List Int := (rdB s).getD zeros
def prO (s : List UInt8) : Bool := (rdB s).isSome
theorem prL_len (s : List UInt8) : (prL s).length = 15 := by
  unfold prL
  cases h : rdB s with
  | none => rfl
  | some l => exact rdB_len h
theorem pr_none {s : List UInt8} (h : rdB s = none) : prL s = zeros ∧ prO s = false := by simp [prL, prO, h]
theorem pr_some {s : List UInt8} {l : List Int} (h : rdB s = some l) : prL s = l ∧ prO s = true := by simp [prL, prO, h]
theorem tupc {l l' : List Int} {b b' : Bool} (h1 : l = l') (h2 : b = b') : Ending.returned (.tuple #[.agg (cc l), .bool b]) = .returned (.tuple #[.agg (cc l'), .bool b']) := by rw [h1, h2]

set_option maxRecDepth 100000 in
set_option maxHeartbeats 2000000 in
theorem parse_any (S : List UInt8) (hs : S.length < 4294967281) (w : World) (hE : Env w) :
    Calls Tryd.prog 29 #[.string (mk S)] w fun e w' => e = .returned (.tuple #[.agg (cc (prL S)), .bool (prO S)]) ∧ Below w.heap.size w w' := by
  go_enter Tryd.func29, Tryd.ntmps29
  go_wp2_with fail
  refine (fields_any _ _).mono ?_
  rintro e w2 ⟨rfl, hb2⟩
  have HP : Hid (PR w S 0 S false w2) := by
    refine ⟨⟨[], rfl, ?_, ?_⟩, ?_, ?_, hE, ?_⟩
    · rw [rdB_rd]
      simp
    · rw [hb2.block _ (by simp)]
      exact heap_alloc2_new _ _ _
    · rw [hb2.block _ (by simp; omega)]
      exact heap_alloc2_old _ _ _
    · exact hs
    · exact (((Below.refl _ _).alloc (Nat.le_refl _) _).alloc (by simp) _).trans (hb2.mono (by simp; omega))
  clear hb2 hE hs
  go_wp2
  go_loopw [12, 0, 5] (fun v12 v0 v5 wr => ∃ (i : Nat) (s' : List UInt8) (m : Bool), v12 = .int .i64 i ∧ v0 = .string (mk s') ∧ v5 = .bool m ∧ i ≤ 15 ∧ PR w S i s' m wr) (fun v12 _ _ _ => 15 - (intOf v12).toNat)
  case atStart => exact ⟨0, S, false, rfl, rfl, rfl, by omega, HP.out⟩
  case round =>
    clear HP
    obtain ⟨i, s', m, rfl, rfl, rfl, hi, hP⟩ := hrel
    have HP := Hid.mk' hP
    clear hP
    by_cases hc : i < 15
    · have hidx := run_idx (w.heap.size + 1) i hc wr
      have hlen : (mk s').size < 4294967281 := by rw [mk_size]; exact HP.out.len
      have hcut := cut_any (mk s') hlen wr
      rw [mk_list] at hcut
      obtain ⟨x, hx⟩ : ∃ x, (cutA s').1 = x := ⟨_, rfl⟩
      obtain ⟨y, hy⟩ : ∃ y, (cutA s').2.1 = y := ⟨_, rfl⟩
      obtain ⟨b, hb⟩ : ∃ b, (cutA s').2.2 = b := ⟨_, rfl⟩
      have hxl : x.length < 4294967281 := by
        have := (cutA_len s').1
        have := HP.out.len
        rw [← hx]
        omega
      rw [hx, hy, hb] at hcut
      have HN : Hid ((∀ wr, PR w S i s' m wr → numB x = none → rdB S = none) ∧ ∀ wr v, PR w S i s' m wr → numB x = some v → PR w S (i + 1) y b (wr.setCell ⟨w.heap.size + 1, i, none⟩ (.int .i64 v))) :=
        ⟨fun wr h hv => h.none_ hc (by rw [hx]; exact hv), fun wr v h hv => by have := h.next hc (v := v) (by rw [hx]; exact hv); rwa [hy, hb] at this⟩
      clear hx hy hb hlen
      go_wp2_with fail
      refine hcut.mono ?_
      rintro e w3 ⟨rfl, hb3⟩
      have HP3 := Hid.mk' (HP.out.keep hb3)
      have hnum := number_any (mk x) (by rw [mk_size]; omega) w3 (HP3.out.env.below HP3.out.bel)
      rw [mk_list] at hnum
      clear hcut hb3 HP
      cases hv : numB x with
      | none =>
        have e1 : numV x = 0 := by unfold numV; rw [hv]; rfl
        have e2 : numO x = false := by unfold numO; rw [hv]; rfl
        rw [e1, e2] at hnum
        have hr := HN.out.1 _ HP3.out hv
        obtain ⟨k1, k2⟩ := pr_none hr
        have HK := Hid.mk' (And.intro k1 k2)
        clear e1 e2 hr k1 k2 hv HN hxl
        go_wp2_with fail
        refine hnum.mono ?_
        rintro e w4 ⟨rfl, hb4⟩
        have HP4 := Hid.mk' (HP3.out.keep hb4)
        clear hnum hb4 HP3
        go_wp2_with (first
          | (refine wl_put (l := zeros) rfl rfl _ _ rfl rfl rfl HP4.out.z rfl ?_))
        refine bodyPost_ret (v := .tuple #[.agg (cc zeros), .bool false]) ?_ rfl ⟨tupc HK.out.1.symm HK.out.2.symm, below_setRow HP4.out.bel (Nat.le_refl _) _⟩
        rw [results_cell_tmp Tryd.results29]
        have hend := run_cfg zeros_len (setRow_heap _ _ _ (cc zeros) _ _ HP4.out.z)
        simp [asAddr, hend]
      | some v =>
        have e1 : numV x = v := by unfold numV; rw [hv]; rfl
        have e2 : numO x = true := by unfold numO; rw [hv]; rfl
        rw [e1, e2] at hnum
        clear e1 e2 hxl
        go_wp2_with fail
        refine hnum.mono ?_
        rintro e w4 ⟨rfl, hb4⟩
        have HP4 := Hid.mk' (HP3.out.keep hb4)
        have HQ := Hid.mk' (HN.out.2 w4 v HP4.out hv)
        obtain ⟨vs, q1, q2, q3⟩ := HP4.out.vs
        have x1 : w4.cell? ⟨w.heap.size + 1, i, none⟩ = some (.int .i64 ((vs ++ zeros.drop i).getD i 0)) := by
          rw [cell_of_row _ _ _ _ _ _ q3, cc_get _ _ (by simp [zeros_len]; omega)]
        have x2 : w4.frozen? ⟨w.heap.size + 1, i, none⟩ = false := frozen_of_row _ _ _ _ _ q3
        generalize (vs ++ zeros.drop i).getD i 0 = old at *
        clear hnum hb4 HP3 hv HN q1 q2 q3 HP4
        go_wp2
        exact ⟨⟨i + 1, y, b, by simp, rfl, rfl, by omega, HQ.out⟩, by simp [intOf]; omega⟩
    · obtain rfl : i = 15 := by omega
      obtain ⟨vs, q1, q2, q3⟩ := HP.out.vs
      have q3' : wr.heap[w.heap.size + 1]? = some (.cells (cc vs) 23 (0, 0)) := by
        rw [q3]
        have : zeros.drop 15 = [] := rfl
        rw [this, List.append_nil]
      cases m with
      | true =>
        have hr : rdB S = none := by rw [q2]; rfl
        obtain ⟨k1, k2⟩ := pr_none hr
        have HK := Hid.mk' (And.intro k1 k2)
        clear k1 k2 hr q1 q2 q3 q3'
        go_wp2_with (first
          | (refine wl_put (l := zeros) rfl rfl _ _ rfl rfl rfl HP.out.z rfl ?_))
        refine bodyPost_ret (v := .tuple #[.agg (cc zeros), .bool false]) ?_ rfl ⟨tupc HK.out.1.symm HK.out.2.symm, below_setRow HP.out.bel (Nat.le_refl _) _⟩
        rw [results_cell_tmp Tryd.results29]
        have hend := run_cfg zeros_len (setRow_heap _ _ _ (cc zeros) _ _ HP.out.z)
        simp [asAddr, hend]
      | false =>
        have hr : rdB S = some vs := by rw [q2]; simp [rd]
        obtain ⟨k1, k2⟩ := pr_some hr
        have HK := Hid.mk' (And.intro k1 k2)
        have HV := Hid.mk' q3'
        clear k1 k2 hr q2 q3 q3'
        go_wp2_with (first
          | (refine wl_load q1 rfl _ rfl rfl HV.out ?_)
          | (refine wl_put q1 rfl _ _ rfl rfl rfl HP.out.z rfl ?_))
        refine bodyPost_ret (v := .tuple #[.agg (cc vs), .bool true]) ?_ rfl ⟨tupc HK.out.1.symm HK.out.2.symm, below_setRow HP.out.bel (Nat.le_refl _) _⟩
        rw [results_cell_tmp Tryd.results29]
        have hend := run_cfg q1 (setRow_heap _ _ _ (cc vs) _ _ HP.out.z)
        simp [asAddr, hend]

theorem setRow_alloc (w : World) (old cs : Array Value) (t : TypeId) : (w.alloc (.cells old t)).setRow w.heap.size cs = w.alloc (.cells cs t) := by
  unfold World.setRow World.alloc
  congr 1
  apply Array.ext_getElem?
  intro k
  rw [Array.getElem?_modify, Array.getElem?_push, Array.getElem?_push]
  by_cases hk : k = w.heap.size
  · simp [hk]
  · simp [hk, Ne.symm hk]
/-- A whole config is stored into a block that was made just now. -/
theorem wl_new {l : List Int} (hl : l.length = 15) {ops : Array Oper} {rest : List Oper} {o : Oper} {a : Act} {w : World} {Q : Exit → Act → World → Prop} {old : Array Value} (hgd : o.guard = none) (x y : Operand) (ho : o.op = .store 23 x y)
    (hx : a.eval x = .pointer (some ⟨w.heap.size, 0, none⟩)) (hy : a.eval y = .agg (cc l)) (ho15 : old.size = 15)
    (h : wpList Tryd.prog ops Q rest (a.put o.dst undef) (w.alloc (.cells (cc l) 23))) : wpList Tryd.prog ops Q (o :: rest) a (w.alloc (.cells old 23)) :=
  wl_put hl hgd x y ho hx hy (heap_alloc_new w _) ho15 (by rw [setRow_alloc]; exact h)
theorem tupe {l l' : List Int} {b b' : Int} (h1 : l = l') (h2 : b = b') : Ending.returned (.tuple #[.agg (cc l), .int .i64 b]) = .returned (.tuple #[.agg (cc l'), .int .i64 b']) := by rw [h1, h2]

set_option maxRecDepth 100000 in
set_option maxHeartbeats 2000000 in
theorem read_any (S : List UInt8) (hs : S.length < 4294967281) (w : World) (hE : Env w) :
    Calls Tryd.prog 19 #[.string (mk S)] w fun e w' => e = .returned (.tuple #[.agg (cc (rdL S)), .int .i64 (rdE S)]) ∧ Below w.heap.size w w' := by
  go_enter Tryd.func19, Tryd.ntmps19
  go_wp2_with fail
  refine (parse_any S hs _ (hE.below ((Below.refl _ _).alloc (Nat.le_refl _) _))).mono ?_
  rintro e w2 ⟨rfl, hb2⟩
  have HZ : Hid (w2.heap[w.heap.size]? = some (.cells (cc zeros) 23 (0, 0)) ∧ Below w.heap.size w w2) := by
    refine ⟨?_, ((Below.refl _ _).alloc (Nat.le_refl _) _).trans (hb2.mono (by simp))⟩
    rw [hb2.block _ (by simp)]
    exact heap_alloc_new _ _
  have hpl := prL_len S
  clear hb2 hE hs
  cases hr : rdB S with
  | none =>
    obtain ⟨k1, k2⟩ := pr_none hr
    have e1 : rdL S = zeros := by unfold rdL; rw [hr]
    have e2 : rdE S = 2 := by unfold rdE; rw [hr]
    rw [k2]
    have HK := Hid.mk' (And.intro e1 e2)
    have HZ2 : Hid ((w2.alloc (.cells (cc (prL S)) 23)).heap[w.heap.size]? = some (.cells (cc zeros) 23 (0, 0))) := (Below.heap_alloc _ _ _ (lt_of_some HZ.out.1)).trans HZ.out.1
    clear e1 e2 k1 k2 hr
    go_wp2_with (first
      | (refine wl_new hpl rfl _ _ rfl rfl rfl rfl ?_)
      | (refine wl_put (l := zeros) rfl rfl _ _ rfl rfl rfl HZ2.out rfl ?_))
    refine bodyPost_ret (v := .tuple #[.agg (cc zeros), .int .i64 2]) ?_ rfl ⟨tupe HK.out.1.symm HK.out.2.symm, below_setRow (HZ.out.2.alloc HZ.out.2.size _) (Nat.le_refl _) _⟩
    rw [results_cell_tmp Tryd.results19]
    have hend := run_cfg zeros_len (setRow_heap _ _ _ (cc zeros) _ _ HZ2.out)
    simp [asAddr, hend]
  | some l =>
    obtain ⟨k1, k2⟩ := pr_some hr
    rw [k1] at hpl
    rw [k1, k2]
    have HN : Hid ((w2.alloc (.cells (cc l) 23)).heap[w2.heap.size]? = some (.cells (cc l) 23 (0, 0))) := heap_alloc_new _ _
    have HR := Hid.mk' hr
    clear k1 k2 hr
    go_wp2_with (first
      | (refine wl_new hpl rfl _ _ rfl rfl rfl rfl ?_)
      | (refine wl_load hpl rfl _ rfl rfl HN.out ?_))
    refine (check_any l hpl _).mono ?_
    rintro e w3 ⟨rfl, hb3⟩
    have H3 : Hid (w3.heap[w.heap.size]? = some (.cells (cc zeros) 23 (0, 0)) ∧ w3.heap[w2.heap.size]? = some (.cells (cc l) 23 (0, 0)) ∧ Below w.heap.size w w3) := by
      refine ⟨keep_blk hb3 ((Below.heap_alloc _ _ _ (lt_of_some HZ.out.1)).trans HZ.out.1), keep_blk hb3 HN.out, ?_⟩
      exact (HZ.out.2.alloc HZ.out.2.size _).trans (hb3.mono (by have := HZ.out.2.size; simp; omega))
    clear hb3
    rcases ckE_two l with h0 | h0
    · have e1 : rdL S = l := by unfold rdL; rw [HR.out]; simp [h0]
      have e2 : rdE S = 0 := by unfold rdE; rw [HR.out]; exact h0
      have HK := Hid.mk' (And.intro e1 e2)
      rw [h0]
      clear e1 e2 h0 HZ HN HR
      go_wp2_with (first
        | (refine wl_load hpl rfl _ rfl rfl H3.out.2.1 ?_)
        | (refine wl_put hpl rfl _ _ rfl rfl rfl H3.out.1 rfl ?_))
      refine bodyPost_ret (v := .tuple #[.agg (cc l), .int .i64 0]) ?_ rfl ⟨tupe HK.out.1.symm HK.out.2.symm, below_setRow H3.out.2.2 (Nat.le_refl _) _⟩
      rw [results_cell_tmp Tryd.results19]
      have hend := run_cfg hpl (setRow_heap _ _ _ (cc l) _ _ H3.out.1)
      simp [asAddr, hend]
    · have e1 : rdL S = zeros := by unfold rdL; rw [HR.out]; simp [h0]
      have e2 : rdE S = 10 := by unfold rdE; rw [HR.out]; exact h0
      have HK := Hid.mk' (And.intro e1 e2)
      rw [h0]
      clear e1 e2 h0 HZ HN HR
      go_wp2_with (first
        | (refine wl_put (l := zeros) rfl rfl _ _ rfl rfl rfl H3.out.1 rfl ?_))
      refine bodyPost_ret (v := .tuple #[.agg (cc zeros), .int .i64 10]) ?_ rfl ⟨tupe HK.out.1.symm HK.out.2.symm, below_setRow H3.out.2.2 (Nat.le_refl _) _⟩
      rw [results_cell_tmp Tryd.results19]
      have hend := run_cfg zeros_len (setRow_heap _ _ _ (cc zeros) _ _ H3.out.1)
      simp [asAddr, hend]

end Go.Proofs.YtmhigndplbdknaaDoor
