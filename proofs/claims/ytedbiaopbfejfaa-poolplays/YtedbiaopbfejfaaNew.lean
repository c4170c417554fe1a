/-
  What New does: a pool with room for so many, in new memory. No conditions.
-/
import Derived.Test.YtedbiaopbfejfaaPool
namespace Go.Proofs.Ytedbiaopbfejfaa
open Go.ChangeShapes Go.WideShapes Go.ChangeAt Go.RowKit Go.Maps

/-- The room that a pool has that is asked for so much. -/
def roomN (n : Int) : Nat := (min (max n 1) 8).toNat
theorem roomN_le (n : Int) : roomN n ≤ 8 := by unfold roomN; omega
theorem roomN_pos (n : Int) : 1 ≤ roomN n := by unfold roomN; omega
theorem roomN_eq (n : Int) : ((roomN n : Nat) : Int) = min (max n 1) 8 := by unfold roomN; omega
theorem roomN_nat {n : Nat} (h1 : 1 ≤ n) (h8 : n ≤ 8) : roomN (n : Int) = n := by unfold roomN; omega

theorem info61 : (Try.prog.info? 61).map (fun i => (i.zero, i.size, i.bytes)) = some (some tok, 0, 0) := by kernel_rfl
theorem mk_chan (w : World) (R : Nat) (hR : R ≤ 8) : (Instr.makeChan 57 (.int .i64 R)).run Try.prog w = .ok (.chan (some w.heap.size)) (w.alloc (.chan R #[] false 0 0 false)) := by
  obtain ⟨i, hi, _, _, hz⟩ := info_parts info61
  exact Conc.run_makeChan Try.underlying57 hi .i64 R (by omega) (by rw [hz]; omega)
theorem mk_map (w : World) (n : Int) : (Instr.makeMap 56 (some (.int .i64 n))).run Try.prog w = .ok (.map (some w.heap.size)) (w.alloc (.map #[] 0)) := by
  simp [Instr.makeMap, run_underlying Try.underlying56, asInt, asIntOf, Result.andThen]

/-- What lies there ahead of the tokens, and while they come. -/
structure Made (w wr : World) (R i : Nat) : Prop where
  ex : ∃ gm gc sn, wr.heap[w.heap.size + 2]? = some (.cells #[.map (some gm), .chan (some gc)] 59 (0, 0)) ∧ wr.heap[gc]? = some (.chan R (Array.replicate i tok) false sn 0 false) ∧
    wr.ownsMap (H := Unit) Try.prog 3 connElem gm 0 (.map []) ∧ w.heap.size ≤ gm ∧ w.heap.size ≤ gc
  bel : Below w.heap.size w wr
  sz : w.heap.size + 2 < wr.heap.size

theorem tells_none : Tells (.map []) St.none (fun _ => (0, 0)) 0 := by
  refine ⟨fun x hx => ?_, fun x _ => rfl, rfl, Inv.none⟩
  simp [St.none, St.ids] at hx

theorem Made.pool {w wr : World} {R : Nat} (h : Made w wr R R) (hR : R ≤ 8) : PAt wr (fun k => k < w.heap.size) (w.heap.size + 2) R St.none 0 := by
  obtain ⟨gm, gc, sn, hb, hc, hm, h1, h2⟩ := h.ex
  have hsz := h.bel.size
  refine ⟨⟨⟨gm, gc, sn, 0, _, _, hb, by simpa [St.none, St.ids] using hc, hm, tells_none, by omega, by omega⟩, by omega, fun k hk => by omega⟩, Nat.zero_le _, hR⟩

theorem Made.push {w wr : World} {R i gc sn : Nat} (h : Made w wr R i) {gm : Nat} (hb : wr.heap[w.heap.size + 2]? = some (.cells #[.map (some gm), .chan (some gc)] 59 (0, 0))) (hc : wr.heap[gc]? = some (.chan R (Array.replicate i tok) false sn 0 false)) (hm : wr.ownsMap (H := Unit) Try.prog 3 connElem gm 0 (.map [])) (h1 : w.heap.size ≤ gm) (h2 : w.heap.size ≤ gc) :
    Made w (wr.setChan gc R (Array.replicate (i + 1) tok) false (sn + 1) 0 false) R (i + 1) := by
  have hne : gc ≠ w.heap.size + 2 := fun e => by rw [e, hb] at hc; simp at hc
  have hnm : gc ≠ gm := fun e => map_ne_chan hm hc e.symm
  refine ⟨⟨gm, gc, sn + 1, by rw [setChan_other _ _ _ _ _ _ _ _ _ hne]; exact hb, Conc.heap_setChan _ _ _ _ _ _ _ _ (lt_of_heap hc), map_block hm (setChan_other _ _ _ _ _ _ _ _ _ hnm), h1, h2⟩, Conc.below_setChan h.bel h2 _ _ _ _ _ _, by rw [Conc.size_setChan]; exact h.sz⟩

theorem Made.drew {w wr : World} {R i : Nat} (h : Made w wr R i) : Made w wr.drew R i := by
  obtain ⟨gm, gc, sn, hb, hc, hm, h1, h2⟩ := h.ex
  exact ⟨⟨gm, gc, sn, hb, hc, map_block hm rfl, h1, h2⟩, h.bel.drew, h.sz⟩

theorem made_one (w wq : World) (R : Nat) (hq : wq.heap = w.heap) (hb : Below w.heap.size w wq) : Made w (((wq.alloc (.map #[] 0)).alloc (.chan R #[] false 0 0 false)).alloc (.cells #[.map (some w.heap.size), .chan (some (w.heap.size + 1))] 59)) R 0 := by
  have hs : wq.heap.size = w.heap.size := by rw [hq]
  refine ⟨⟨w.heap.size, w.heap.size + 1, 0, ?_, ?_, ?_, Nat.le_refl _, by omega⟩, ((hb.alloc (by omega) _).alloc (by simp; omega) _).alloc (by simp; omega) _, by simp; omega⟩
  · have := heap_alloc_new ((wq.alloc (.map #[] 0)).alloc (.chan R #[] false 0 0 false)) (.cells #[.map (some w.heap.size), .chan (some (w.heap.size + 1))] 59)
    simpa [hs] using this
  · rw [Below.heap_alloc _ _ _ (by simp; omega)]
    have := heap_alloc_new (wq.alloc (.map #[] 0)) (.chan R #[] false 0 0 false)
    simpa [hs] using this
  · have := World.ownsMap_made (H := Unit) wq Try.prog 3 connElem
    rw [hs] at this
    exact map_block this (by rw [Below.heap_alloc _ _ _ (by simp; omega), Below.heap_alloc _ _ _ (by simp; omega)])
theorem made_two (w wq : World) (R : Nat) (hq : wq.heap = w.heap) (hb : Below w.heap.size w wq) : Made w (((wq.alloc (.chan R #[] false 0 0 false)).alloc (.map #[] 0)).alloc (.cells #[.map (some (w.heap.size + 1)), .chan (some w.heap.size)] 59)) R 0 := by
  have hs : wq.heap.size = w.heap.size := by rw [hq]
  refine ⟨⟨w.heap.size + 1, w.heap.size, 0, ?_, ?_, ?_, by omega, Nat.le_refl _⟩, ((hb.alloc (by omega) _).alloc (by simp; omega) _).alloc (by simp; omega) _, by simp; omega⟩
  · have := heap_alloc_new ((wq.alloc (.chan R #[] false 0 0 false)).alloc (.map #[] 0)) (.cells #[.map (some (w.heap.size + 1)), .chan (some w.heap.size)] 59)
    simpa [hs] using this
  · rw [Below.heap_alloc _ _ _ (by simp; omega), Below.heap_alloc _ _ _ (by simp; omega)]
    have := heap_alloc_new wq (.chan R #[] false 0 0 false)
    simpa [hs] using this
  · have := World.ownsMap_made (H := Unit) (wq.alloc (.chan R #[] false 0 0 false)) Try.prog 3 connElem
    rw [World.size_alloc, hs] at this
    exact map_block this (by rw [Below.heap_alloc _ _ _ (by simp; omega)])

set_option maxRecDepth 100000 in
theorem new_any (n : Int) (w : World) :
    Calls Try.prog 9 #[.int .i64 n] w fun e w' => e = .returned (.pointer (some ⟨w.heap.size + 2, 0, none⟩)) ∧ PAt w' (fun k => k < w.heap.size) (w.heap.size + 2) (roomN n) St.none 0 ∧ Below w.heap.size w w' := by
  have hR := roomN_le n
  have hmk := fun w => mk_chan w (roomN n) hR
  have hmm := mk_map
  have he := roomN_eq n
  go_enter Try.func9, Try.ntmps9
  go_upto_region 1 with fail
  go_cut [0] from 4 to 6 (fun v wx => v = .int .i64 (roomN n : Nat) ∧ wx = w)
  case first =>
    by_cases h0 : n < 1
    · have e1 : ((roomN n : Nat) : Int) = 1 := by omega
      go_wp2_with fail
      all_goals (go_meet; exact ⟨by rw [e1], rfl⟩)
    · by_cases h1 : n ≤ 8
      · have e1 : ((roomN n : Nat) : Int) = n := by omega
        by_cases h2 : n = 1
        · subst h2
          go_wp2_with fail
          all_goals (go_meet; exact ⟨by rw [e1], rfl⟩)
        · go_wp2_with fail
          all_goals (go_meet; exact ⟨by rw [e1], rfl⟩)
      · have e1 : ((roomN n : Nat) : Int) = 8 := by omega
        go_wp2_with fail
        all_goals (go_meet; exact ⟨by rw [e1], rfl⟩)
  case rest =>
    obtain ⟨rfl, hwc⟩ := hcut
    replace hwc := hwc.symm
    subst hwc
    clear he
    generalize hRR : roomN n = R at *
    go_upto_region 2 with fail
    go_cut [3] from 7 to 12 (fun v wx => v = .pointer (some ⟨w.heap.size + 2, 0, none⟩) ∧ Made w wx R 0)
    case first =>
      go_region
      · go_wp2
        go_meet
        exact ⟨rfl, (made_one w w R rfl (Below.refl _ _)).drew⟩
      · go_wp2
        go_meet
        exact ⟨rfl, (made_two w w R rfl (Below.refl _ _)).drew⟩
    case rest =>
      obtain ⟨rfl, hM⟩ := hcut
      clear hmk hmm
      go_wp2
      go_loopw [14] (fun vi wr => ∃ i : Nat, vi = .int .i64 i ∧ i ≤ R ∧ Made w wr R i) (fun vi _ => R + 1 - (intOf vi).toNat)
      case atStart => exact ⟨0, rfl, Nat.zero_le _, hM⟩
      case round =>
        clear hM
        obtain ⟨i, rfl, hi, hM⟩ := hrel
        by_cases hir : i < R
        · obtain ⟨gm, gc, sn, hb, hc, hm, h1, h2⟩ := hM.ex
          obtain ⟨c0, c1, hlt⟩ := blk2 hb
          have HN := hM.push hb hc hm h1 h2
          go_upto_region 5 with fail
          refine wp_of_reg (fun b k cs => ?_)
          refine Reg.op rfl rfl (fun K hK => ?_)
          go_simp
          refine hK _ _ ?_
          clear hK K
          refine Reg.op rfl rfl (fun K hK => ?_)
          go_simp
          refine hK _ _ ?_
          clear hK K
          refine Reg.op rfl rfl (fun K hK => ?_)
          go_simp
          refine hK _ _ ?_
          clear hK K
          refine Reg.op rfl rfl (fun K hK => ?_)
          go_simp
          refine hK _ _ ?_
          clear hK K
          refine Reg.op rfl rfl (fun K hK => ?_)
          go_simp
          refine hK _ _ ?_
          clear hK K
          refine Reg.send (c := gc) (v := tok) (z := .tuple #[]) (w₁ := wr) rfl rfl (by simp [go_sem, execOp, Conc.scase, Act.eval, tok]) hc (by simpa using hir) ?_
          rw [rep_push]
          refine Reg.done ?_
          go_wp2
          exact ⟨⟨i + 1, by simp, hir, HN⟩, by simp [intOf]; omega⟩
        · obtain rfl : R = i := by omega
          subst hRR
          go_wp2
          go_ret
          exact ⟨rfl, hM.pool hR, hM.bel⟩

end Go.Proofs.Ytedbiaopbfejfaa
