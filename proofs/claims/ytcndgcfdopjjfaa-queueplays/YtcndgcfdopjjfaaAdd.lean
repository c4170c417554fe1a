/-
  One waiter appended to a row, whether there is room or not, as a step of a region that draws. Conditions: the row lies where it is said to lie; it has at most 1000 waiters.
-/
import Derived.Test.YtcndgcfdopjjfaaOut
import Derived.Deep.RegionLaw
namespace Go.Proofs.Ytcndgcfdopjjfaa
open Go.ChangeShapes Go.WideShapes Go.ChangeAt Go.RowKit

theorem zeroCells2 (k : Nat) : (Builtin.zeroCells (Value.agg #[.int .i64 0, .int .i64 0]).cells k).toList = flat (List.replicate k (0, 0)) := by
  have e1 : (Value.agg #[.int .i64 0, .int .i64 0]).cells = #[.int .i64 0, .int .i64 0] := rfl
  rw [e1]
  apply List.ext_getElem?
  intro j
  by_cases hj : j < k * 2
  · have h1 : (flat (List.replicate k (0, 0)))[j]? = some (.int .i64 0) := by
      have hq : j / 2 < (List.replicate k ((0, 0) : Wt)).length := by simp; omega
      have := flat_get (List.replicate k (0, 0)) (j / 2) hq
      have hz : nthW (List.replicate k ((0, 0) : Wt)) (j / 2) = (0, 0) := by
        rw [nthW_eq hq]; simp
      rw [hz] at this
      rcases Nat.mod_two_eq_zero_or_one j with h | h
      · have e2 : j = j / 2 * 2 := by omega
        rw [e2]; exact this.1
      · have e2 : j = j / 2 * 2 + 1 := by omega
        rw [e2]; exact this.2
    rw [h1]
    simp only [Builtin.zeroCells, Array.toList_map, List.getElem?_map]
    have h2 : (Array.range (k * (#[Value.int .i64 0, .int .i64 0]).size)).toList[j]? = some j := by
      simp
      exact List.getElem?_range hj
    rw [h2]
    rcases Nat.mod_two_eq_zero_or_one j with h | h
    · simp [h]
    · simp [h]
  · rw [List.getElem?_eq_none (by simp [Builtin.zeroCells]; omega), List.getElem?_eq_none (by rw [flat_length]; simp; omega)]

/-- One waiter more. -/
theorem run_one (w : World) (B : Nat → Prop) (ty : TypeId) (a : Option Addr) (n cap : Nat) (l L : List Wt) (p : Wt) (ad : Addr) (c : Nat) (h : RIn w B a cap l) (hL : L.length = n) (hcap : n ≤ cap) (ht : l.take n = L) (hn : n ≤ 1000)
    (hx : w.cell? ad = some (.int .i64 p.1)) (hy : w.cell? (ad.add 1) = some (.int .i64 p.2)) (hB : ∀ k, B k → k < w.heap.size) :
    ∃ a' cap' l' w', (Builtin.append_ #[60, 60] ty #[.slice a n cap, .slice (some ad) 1 c]).run Try.prog w = .ok (.slice a' (n + 1) cap') w' ∧ RIn w' B a' cap' l' ∧ n + 1 ≤ cap' ∧ l'.take (n + 1) = L ++ [p] ∧ Keep B w w' := by
  obtain ⟨h1, h2, h3⟩ := h
  by_cases hr : n < cap
  · obtain ⟨_, h3⟩ | ⟨b, rfl, hBb, hg⟩ := h3
    · omega
    · refine ⟨_, _, l.set n p, _, run_put w ty b n cap l p ad c hg h1 hr hx hy, ⟨by simpa using h1, h2, .inr ⟨b, rfl, hBb, row_set hg _ _⟩⟩, hr, ?_, (Keep.refl B w).set2 hBb _ _ _⟩
      rw [List.take_add_one, List.take_set_of_le (Nat.le_refl _), ht, List.getElem?_set_self (by omega)]
      rfl
  · obtain ⟨i, hi, hz0, hz1, hz2⟩ := info_parts info66
    have hcn : n = cap := by omega
    have hlL : l = L := by rw [← ht, hcn, ← h1, List.take_length]
    have hs : Src Try.prog i.size 60 (.slice (some ad) 1 c) 1 [.int .i64 p.1, .int .i64 p.2] w := by
      rw [hz1]
      refine Src.ofSlice (P := Try.prog) (e' := 66) w Try.underlying60 ad 1 c _ rfl (fun j u hj => ?_) (by simp [Value.oneCell'])
      match j, hj with
      | 0, hj => simp at hj; subst hj; simpa [Addr.add] using hx
      | 1, hj => simp at hj; subst hj; exact hy
    have hold : (Builtin.firstCells i.size n (.slice a n cap)).run Try.prog w.drew = .ok (flat L).toArray w.drew := by
      rw [hz1]
      obtain ⟨rfl, h3⟩ | ⟨b, rfl, hBb, hg⟩ := h3
      · obtain rfl : L = [] := List.length_eq_zero_iff.1 (by omega)
        have hn0 : n = 0 := by omega
        rw [hn0]
        exact run_firstCells_none (P := Try.prog) w.drew 2 0 0 cap
      · refine run_firstCells_some (P := Try.prog) w.drew 2 n ⟨b, 0, none⟩ n cap (flat L) (by rw [flat_length, hL]) (fun j v hj => ?_)
        have e0 : ((⟨b, 0, none⟩ : Addr).add j) = ⟨b, j, none⟩ := by unfold Addr.add; split <;> simp_all
        rw [e0]
        have hg2 : w.drew.heap[b]? = some (.cells (flat l).toArray 66 (0, 0)) := hg
        simp only [World.cell?, hg2]
        rw [hlL]
        simpa using hj
    have hrun := run_append_grow_src (P := Try.prog) w 60 60 ty 66 i (.agg #[.int .i64 0, .int .i64 0]) Try.underlying60 hi hz0 a n cap _ hold _ 1 _ hs (by omega) (by omega) (growslice_fits (by omega) (by rw [hz2]; omega))
    have hge := grownCap_ge w (n + 1) cap 66
    have hcm := grownCap_le_maxLen w (n + 1) cap 66 (by unfold maxLen; omega)
    generalize grownCap w (n + 1) cap 66 = C at hrun hge hcm
    have hblk : ((flat L ++ [Value.int .i64 p.1, Value.int .i64 p.2]).toArray ++ Builtin.zeroCells (Value.agg #[.int .i64 0, .int .i64 0]).cells (C - (n + 1))) = (flat (L ++ [p] ++ List.replicate (C - (n + 1)) (0, 0))).toArray := by
      apply Array.toList_inj.1
      rw [Array.toList_append, zeroCells2, flat_append, flat_append]
      rfl
    refine ⟨_, _, L ++ [p] ++ List.replicate (C - (n + 1)) (0, 0), _, hrun, ⟨by simp [hL]; omega, hcm, .inr ⟨w.heap.size, rfl, fun hk => Nat.lt_irrefl _ (hB _ hk), ?_⟩⟩, hge, ?_, (Keep.refl B w).drew.alloc _⟩
    · rw [hblk]
      exact heap_alloc_new w.drew _
    · rw [List.take_append_of_le_length (by simp [hL])]
      rw [List.take_of_length_le (by simp [hL])]

theorem step_one {ops : Array Oper} {o : Oper} {act : Act} {w : World} {K : Act → World → Prop} {Q : Exit → Act → World → Prop} {E : Prop} (hgd : o.guard = none) (s y : Operand)
    (ho : o.op = .call { callee := .builtin .append, args := #[s, y], argTypes := #[60, 60] }) (B : Nat → Prop) (a : Option Addr) (n cap : Nat) (l L : List Wt) (p : Wt) (ad : Addr) (c : Nat) (hs : act.eval s = .slice a n cap) (hy : act.eval y = .slice (some ad) 1 c)
    (h : RIn w B a cap l) (hL : L.length = n) (hcap : n ≤ cap) (ht : l.take n = L) (hn : n ≤ 1000) (hx : w.cell? ad = some (.int .i64 p.1)) (hx' : w.cell? (ad.add 1) = some (.int .i64 p.2)) (hB : ∀ k, B k → k < w.heap.size)
    (hK : ∀ a' cap' l' w', RIn w' B a' cap' l' → n + 1 ≤ cap' → l'.take (n + 1) = L ++ [p] → Keep B w w' → K (act.put o.dst (.slice a' (n + 1) cap')) w') :
    if Region.wanted o (yielded ops act.tmps) = true then Oper.wp Try.prog o act w K Q else E := by
  have hw : Region.wanted o (yielded ops act.tmps) = true := by simp [Region.wanted, hgd]
  rw [if_pos hw]
  obtain ⟨a', cap', l', w', hrun, q1, q2, q3, q4⟩ := run_one w B o.type a n cap l L p ad c h hL hcap ht hn hx hx' hB
  unfold Oper.wp
  simp [execOp, ho, resolve, invoke, builtin, hs, hy, hrun, Result.andThen]
  exact hK _ _ _ _ q1 q2 q3 q4

end Go.Proofs.Ytcndgcfdopjjfaa
