/-
  What Pop of the document does: the pair without the first one, in new rows. Conditions: the pair lies where it is said to lie, at most 100 wait.
-/
import Derived.Test.YtcndgcfdopjjfaaRRem
namespace Go.Proofs.Ytcndgcfdopjjfaa
open Go.ChangeShapes Go.WideShapes Go.ChangeAt Go.RowKit

/-- The block of an argument, and that of the result. -/
theorem two_blocks (w : World) (S : Int) (kv av : Value) :
    ((w.alloc (.cells #[.int .i64 S, kv, av] 28)).alloc (.cells #[.int .i64 0, .slice none 0 0, .slice none 0 0] 28)).heap[w.heap.size]? = some (.cells #[.int .i64 S, kv, av] 28 (0, 0)) ∧
    ((w.alloc (.cells #[.int .i64 S, kv, av] 28)).alloc (.cells #[.int .i64 0, .slice none 0 0, .slice none 0 0] 28)).heap[w.heap.size + 1]? = some (.cells #[.int .i64 0, .slice none 0 0, .slice none 0 0] 28 (0, 0)) ∧
    ((w.alloc (.cells #[.int .i64 S, kv, av] 28)).alloc (.cells #[.int .i64 0, .slice none 0 0, .slice none 0 0] 28)).heap.size = w.heap.size + 2 ∧
    Below w.heap.size w ((w.alloc (.cells #[.int .i64 S, kv, av] 28)).alloc (.cells #[.int .i64 0, .slice none 0 0, .slice none 0 0] 28)) := by
  refine ⟨?_, ?_, by simp, ((Below.refl _ w).alloc (Nat.le_refl _) _).alloc (by simp) _⟩
  · rw [Below.heap_alloc _ _ _ (by simp)]; exact heap_alloc_new w _
  · have := heap_alloc_new (w.alloc (.cells #[.int .i64 S, kv, av] 28)) (.cells #[.int .i64 0, .slice none 0 0, .slice none 0 0] 28)
    simpa using this

set_option maxHeartbeats 4000000 in
set_option maxRecDepth 100000 in
theorem rpop_any (w : World) (S : Int) (kv av : Value) (L : List Wt) (h : QvAt w kv av L) (hl : L.length ≤ 100) :
    Calls Try.prog 15 #[.agg #[.int .i64 S, kv, av]] w fun e w' => ∃ kv' av', e = .returned (.tuple #[.agg #[.int .i64 S, kv', av'], .int .i64 (nthW L 0).1, .bool (decide (0 < L.length))]) ∧ QvAt w' kv' av' (without [(nthW L 0).1] L) ∧ From w w' kv av kv' av' ∧ Below w.heap.size w w' := by
  obtain ⟨g2, g4, hsz, hb⟩ := two_blocks w S kv av
  have hv := h.below hb
  obtain ⟨z0, z1, z2, _⟩ := blk3 g2
  obtain ⟨c40, c41, c42, _⟩ := blk3 g4
  have f40 := fz3 g4 0
  have f41 := fz3 g4 1
  have f42 := fz3 g4 2
  by_cases h0 : 0 < L.length
  · have hrm := fun w' (hv' : QvAt w' kv av L) => rremove_any w' S kv av L (nthW L 0).1 hv' hl
    rw [decide_eq_true h0]
    obtain ⟨⟨a1, c1, rfl, hk1, _⟩, ⟨a2, c2, rfl, ha1, _⟩⟩ := id hv
    obtain ⟨b1, o1, rfl, hlt1, e1⟩ := hk1.at_ 0 h0
    rw [fs_getD, Nat.add_zero] at e1
    have l1 := hk1.hle
    have l2 := ha1.hle
    have m1 := hk1.hcap
    have m2 := ha1.hcap
    unfold maxLen at m1 m2
    obtain ⟨n, hn⟩ : ∃ n, L.length = n + 1 := ⟨L.length - 1, by omega⟩
    have hne : (((n + 1 : Nat) : Int) == 0) = false := by rw [beq_eq_false_iff_ne]; omega
    have hrm1 := hrm _ hv
    rw [hn] at z1 z2 l1 l2 hrm1 g4 f40 f41 f42 c40 c41 c42 e1 g2 hsz hb ⊢
    generalize (nthW L 0).1 = x at *
    clear h hk1 ha1 hrm hv
    go_enter Try.func15, Try.ntmps15
    go_wp2_with fail
    refine hrm1.mono ?_
    rintro e w5 ⟨kv', av', rfl, hv5, hfr5, hb5⟩
    have hz5 := hb5.size
    rw [hsz] at hz5 hb5
    have g45 := (hb5.block (w.heap.size + 1) (by omega)).trans g4
    obtain ⟨⟨a3, c3, rfl, _⟩, ⟨a4, c4, rfl, _⟩⟩ := id hv5
    have g46 : (w5.alloc (.cells #[.int .i64 S, .slice a3 (without [x] L).length c3, .slice a4 (without [x] L).length c4] 28)).heap[w.heap.size + 1]? = some (.cells #[.int .i64 0, .slice none 0 0, .slice none 0 0] 28 (0, 0)) := (Below.heap_alloc w5 _ _ (by omega)).trans g45
    obtain ⟨d40, d41, d42, _⟩ := blk3 g46
    have f50 := fz3 g46 0
    have f51 := fz3 g46 1
    have f52 := fz3 g46 2
    obtain ⟨d60, d61, d62, _⟩ := blk3 (heap_alloc_new w5 (.cells #[.int .i64 S, .slice a3 (without [x] L).length c3, .slice a4 (without [x] L).length c4] 28))
    obtain ⟨y0, hkf⟩ := res_put g46 (.int .i64 S) (.slice a3 (without [x] L).length c3) (.slice a4 (without [x] L).length c4)
    have hv6 : QvAt (w5.alloc (.cells #[.int .i64 S, .slice a3 (without [x] L).length c3, .slice a4 (without [x] L).length c4] 28)) (.slice a3 (without [x] L).length c3) (.slice a4 (without [x] L).length c4) (without [x] L) := hv5.below ((Below.refl _ _).alloc (Nat.le_refl _) _)
    have hb6 : Below w.heap.size w (w5.alloc (.cells #[.int .i64 S, .slice a3 (without [x] L).length c3, .slice a4 (without [x] L).length c4] 28)) := (hb.trans (hb5.mono (by omega))).alloc (by omega) _
    have hz6 : (w5.alloc (.cells #[.int .i64 S, .slice a3 (without [x] L).length c3, .slice a4 (without [x] L).length c4] 28)).heap.size = w5.heap.size + 1 := by simp
    have hwl := without_len [x] L
    have HX : Hid (∀ k, (Value.slice a3 (without [x] L).length c3).ownBlock = some k ∨ (Value.slice a4 (without [x] L).length c4).ownBlock = some k → w.heap.size + 2 ≤ k ∧ k < w5.heap.size) := fun k hk => by
      have := hfr5 k hk
      rw [hsz] at this
      exact this
    have HV6 : Hid _ := hv6
    have HB6 : Hid _ := hb6
    have HKF : Hid _ := hkf
    have HY : Hid _ := y0
    generalize hm : (without [x] L).length = m at *
    generalize hw6 : w5.alloc (.cells #[.int .i64 S, .slice a3 m c3, .slice a4 m c4] 28) = w6 at *
    clear hv5 hfr5 hb5 g45 g46 y0 hkf hv6 hb6 z0 z1 z2 c40 c41 c42 f40 f41 f42 g2 g4 hb e1 hrm1
    go_wp2
    obtain ⟨x0, x1, x2, _⟩ := blk3 HY.out
    refine bodyPost_ret (v := .tuple #[.agg #[.int .i64 S, .slice a3 m c3, .slice a4 m c4], .int .i64 x, .bool true]) (by simp [results, Try.results15, go_sem, x0, x1, x2]) rfl ?_
    have hzf := HKF.out.size
    have hzb := HB6.out.size
    refine ⟨_, _, rfl, HV6.out.keep HKF.out (fun k e => by have := HX.out k e; omega), fun k e => .inr ?_, ?_⟩
    · have := HX.out k e
      omega
    · exact HB6.out.trans (HKF.out.below hzb (fun k hk => by omega))
  · obtain rfl : L = [] := List.length_eq_zero_iff.1 (by omega)
    obtain ⟨⟨a1, c1, rfl, hk1, _⟩, ⟨a2, c2, rfl, ha1, _⟩⟩ := id hv
    have hb2 : Below w.heap.size w ((w.alloc (.cells #[.int .i64 S, .slice a1 0 c1, .slice a2 0 c2] 28)).alloc (.cells #[.int .i64 S, .slice a1 0 c1, .slice a2 0 c2] 28)) := ((Below.refl _ w).alloc (Nat.le_refl _) _).alloc (by simp) _
    have y0 := heap_alloc_new (w.alloc (.cells #[.int .i64 S, .slice a1 0 c1, .slice a2 0 c2] 28)) (.cells #[.int .i64 S, .slice a1 0 c1, .slice a2 0 c2] 28)
    rw [World.size_alloc] at y0
    have HY : Hid _ := y0
    have HV : Hid (QvAt w (.slice a1 0 c1) (.slice a2 0 c2) []) := h
    have HB : Hid _ := hb2
    clear y0 g2 g4 hb2 h
    go_enter Try.func15, Try.ntmps15
    go_wp2
    obtain ⟨x0, x1, x2, _⟩ := blk3 HY.out
    refine bodyPost_ret (v := .tuple #[.agg #[.int .i64 S, .slice a1 0 c1, .slice a2 0 c2], .int .i64 0, .bool false]) (by simp [results, Try.results15, go_sem]) rfl ?_
    exact ⟨_, _, rfl, HV.out.below HB.out, fun k e => .inl e, HB.out⟩

end Go.Proofs.Ytcndgcfdopjjfaa
