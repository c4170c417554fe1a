/-
  What Push, Since and Ids do, each as a contract, of nil too. Conditions: the queue lies where it is said to lie.
-/
import Derived.Test.YtcndgcfdopjjfaaApi
namespace Go.Proofs.Ytcndgcfdopjjfaa
open Go.ChangeShapes Go.WideShapes Go.ChangeAt Go.RowKit

/-- What Push tells. -/
def pushE (R : Nat) (x : Int) (L : List Wt) : Int := if x ∈ L.map Prod.fst then 6 else if R ≤ L.length then 7 else 0
/-- Who waits then. -/
def pushL (R : Nat) (x t : Int) (L : List Wt) : List Wt := if x ∈ L.map Prod.fst then L else if R ≤ L.length then L else L ++ [(x, cut t)]

theorem push_nil (x t : Int) (w : World) : Calls Try.prog 14 #[.pointer none, .int .i64 x, .int .i64 t] w fun e w' => e = .returned (.int .i64 1) ∧ w' = w := by
  go_enter Try.func14, Try.ntmps14
  go_wp2
  go_ret
  exact ⟨rfl, rfl⟩

theorem push_there (w : World) (A : Nat → Prop) (g R : Nat) (L : List Wt) (x t : Int) (h : QAt w A g R L) (h0 : x ∈ L.map Prod.fst) :
    Calls Try.prog 14 #[.pointer (some ⟨g, 0, none⟩), .int .i64 x, .int .i64 t] w fun e w' => e = .returned (.int .i64 6) ∧ w' = w := by
  have hp := place_w w A g R L x h
  rw [plc_mem h0] at hp
  have hne : (((fidx x (L.map Prod.fst) : Nat) : Int) != -1) = true := by rw [bne_iff_ne]; omega
  generalize fidx x (L.map Prod.fst) = F at *
  clear h h0
  go_enter Try.func14, Try.ntmps14
  go_wp2_with (first | (go_at_call 28; refine hp.mono ?_; rintro e w' ⟨rfl, hw'⟩; subst w'))
  go_ret
  exact ⟨rfl, rfl⟩

theorem push_full (w : World) (A : Nat → Prop) (g R : Nat) (L : List Wt) (x t : Int) (h : QAt w A g R L) (h0 : x ∉ L.map Prod.fst) (h1 : R ≤ L.length) :
    Calls Try.prog 14 #[.pointer (some ⟨g, 0, none⟩), .int .i64 x, .int .i64 t] w fun e w' => e = .returned (.int .i64 7) ∧ w' = w := by
  have hp := place_w w A g R L x h
  rw [plc_not h0] at hp
  have hq := h.q
  rw [show R - L.length = 0 by omega] at hq
  have ht := takePlace_none w A g R L hq
  clear h h0 hq
  go_enter Try.func14, Try.ntmps14
  go_wp2_with (first
    | (go_at_call 28; refine hp.mono ?_; rintro e w' ⟨rfl, hw'⟩; subst w')
    | (go_at_call 30; refine ht.mono ?_; rintro e w' ⟨rfl, hw'⟩; subst w'))
  go_ret
  exact ⟨rfl, rfl⟩

set_option maxHeartbeats 1000000 in
set_option maxRecDepth 100000 in
theorem push_ok (w : World) (A : Nat → Prop) (g R : Nat) (L : List Wt) (x t : Int) (h : QAt w A g R L) (h0 : x ∉ L.map Prod.fst) (h1 : L.length < R) :
    Calls Try.prog 14 #[.pointer (some ⟨g, 0, none⟩), .int .i64 x, .int .i64 t] w fun e w' => e = .returned (.int .i64 0) ∧ QAt w' A g R (L ++ [(x, cut t)]) ∧ Keep A w w' := by
  have hp := place_w w A g R L x h
  rw [plc_not h0] at hp
  have hq := h.q
  obtain ⟨m, hm⟩ : ∃ m, R - L.length = m + 1 := ⟨R - L.length - 1, by omega⟩
  rw [hm] at hq
  have ht := takePlace_some w A g R m L hq
  have hmax := h.max
  have hlen : L.length ≤ 1000 := by omega
  clear h h0 hq
  go_enter Try.func14, Try.ntmps14
  go_wp2_with (first
    | (go_at_call 28; refine hp.mono ?_; rintro e w' ⟨rfl, hw'⟩; subst w')
    | (go_at_call 30; refine ht.mono ?_; rintro e w1 ⟨rfl, hq1, hk1, hz1⟩))
  obtain ⟨a, cap, c, s, r, l, hb, hc, hcA, hr, q1, q2⟩ := hq1.ex
  obtain ⟨c0, c1, hgl⟩ := blk2 hb
  have hcg : c ≠ g := fun e => by rw [e, hb] at hc; simp at hc
  have hBk : ∀ k, (A k ∨ k = g ∨ k = c) → k < w1.heap.size := fun k hk => by
    rcases hk with hk | rfl | rfl
    · exact hq1.guard k hk
    · exact hgl
    · exact lt_of_heap hc
  have hra : RIn ((w1.alloc (.cells #[.int .i64 x, .int .i64 (cut t)] 66)).drew) (fun k => A k ∨ k = g ∨ k = c) a cap l := hr.move (fun b y hA hy => ⟨Below.heap_alloc w1 _ b (lt_of_heap hy), hA⟩)
  have z0 : ((w1.alloc (.cells #[.int .i64 x, .int .i64 (cut t)] 66)).drew).cell? ⟨w1.heap.size, 0, none⟩ = some (.int .i64 x) := (blk2 (heap_alloc_new w1 (.cells #[.int .i64 x, .int .i64 (cut t)] 66))).1
  have z1 : ((w1.alloc (.cells #[.int .i64 x, .int .i64 (cut t)] 66)).drew).cell? ((⟨w1.heap.size, 0, none⟩ : Addr).add 1) = some (.int .i64 (cut t)) := (blk2 (heap_alloc_new w1 (.cells #[.int .i64 x, .int .i64 (cut t)] 66))).2.1
  have HK : Hid (∀ a' cap' l' w3, RIn w3 (fun k => A k ∨ k = g ∨ k = c) a' cap' l' → L.length + 1 ≤ cap' → l'.take (L.length + 1) = L ++ [(x, cut t)] → Keep (fun k => A k ∨ k = g ∨ k = c) ((w1.alloc (.cells #[.int .i64 x, .int .i64 (cut t)] 66)).drew) w3 →
      w3.cell? ⟨g, 0, none⟩ = some (.slice a L.length cap) ∧ w3.frozen? ⟨g, 0, none⟩ = false ∧ QAt (w3.setCell ⟨g, 0, none⟩ (.slice a' (L.length + 1) cap')) A g R (L ++ [(x, cut t)]) ∧ Keep A w (w3.setCell ⟨g, 0, none⟩ (.slice a' (L.length + 1) cap'))) := by
    intro a' cap' l' w3 y1 y2 y3 y4
    have hg3 : w3.heap[g]? = some (.cells #[.slice a L.length cap, .chan (some c)] 62 (0, 0)) := (y4.block g (by simp; omega) (.inr (.inl rfl))).trans ((Below.heap_alloc w1 _ g hgl).trans hb)
    have hc3 : w3.heap[c]? = some (.chan R (Array.replicate m tok) false s r false) := (y4.block c (by have := lt_of_heap hc; simp; omega) (.inr (.inr rfl))).trans ((Below.heap_alloc w1 _ c (lt_of_heap hc)).trans hc)
    have hsz := y4.size
    refine ⟨(blk2 hg3).1, fz2 hg3 0, ⟨?_, by simp; omega, hmax⟩, ?_⟩
    · have hl1 : (L ++ [(x, cut t)]).length = L.length + 1 := by simp
      have := QIn.put (w := w1) (L := L ++ [(x, cut t)]) (A := A) hg3 hc3 hcA hq1.gout y1 (by rw [hl1]; exact y2) (by rw [hl1]; exact y3) hq1.guard (by simp at hsz; omega)
      rw [hl1] at this
      rw [hl1, show R - (L.length + 1) = m by omega]
      exact this
    · exact ((hk1.alloc _).drew.trans (y4.mono (fun k _ hk => .inl hk))).setCell hq1.gout _
  clear hb hc hr hq1 hk1 hcA hcg ht hp hz1
  generalize hn : L.length = n at *
  go_region_law (first
    | ((refine step_one rfl _ _ rfl (fun k => A k ∨ k = g ∨ k = c) a n cap l L (x, cut t) ⟨w1.heap.size, 0, none⟩ 1 rfl rfl hra hn q1 q2 hlen z0 z1 (fun k hk => by have := hBk k hk; simp; omega) ?_; intro a' cap' l' w3 y1 y2 y3 y4; have hkk := HK.out a' cap' l' w3 y1 y2 y3 y4; have d3 := hkk.1; have f3 := hkk.2.1))
    | ((go_simp; go_at_call 31; refine (cut_any _ _).mono ?_; rintro e w' ⟨rfl, hw'⟩; obtain rfl := hw')))
  all_goals (
    go_wp2
    go_ret
    exact ⟨rfl, hkk.2.2.1, hkk.2.2.2⟩)

theorem push_w (w : World) (A : Nat → Prop) (g R : Nat) (L : List Wt) (x t : Int) (h : QAt w A g R L) :
    Calls Try.prog 14 #[.pointer (some ⟨g, 0, none⟩), .int .i64 x, .int .i64 t] w fun e w' => e = .returned (.int .i64 (pushE R x L)) ∧ QAt w' A g R (pushL R x t L) ∧ Keep A w w' := by
  unfold pushE pushL
  by_cases h0 : x ∈ L.map Prod.fst
  · rw [if_pos h0, if_pos h0]
    exact (push_there w A g R L x t h h0).mono fun e w' ⟨he, hw⟩ => ⟨he, by rw [hw]; exact h, by rw [hw]; exact Keep.refl _ _⟩
  · rw [if_neg h0, if_neg h0]
    by_cases h1 : R ≤ L.length
    · rw [if_pos h1, if_pos h1]
      exact (push_full w A g R L x t h h0 h1).mono fun e w' ⟨he, hw⟩ => ⟨he, by rw [hw]; exact h, by rw [hw]; exact Keep.refl _ _⟩
    · rw [if_neg h1, if_neg h1]
      exact push_ok w A g R L x t h h0 (by omega)

theorem since_nil (x : Int) (w : World) : Calls Try.prog 23 #[.pointer none, .int .i64 x] w fun e w' => e = .returned (.tuple #[.int .i64 0, .bool false]) ∧ w' = w := by
  go_enter Try.func23, Try.ntmps23
  go_wp2_with (first | (go_at_call 28; refine (place_nil _ _).mono ?_; rintro e w' ⟨rfl, hw'⟩; subst w'))
  go_ret2
  exact ⟨rfl, rfl⟩

/-- When it came. -/
def sinceI (x : Int) (L : List Wt) : Int := if x ∈ L.map Prod.fst then (nthW L (fidx x (L.map Prod.fst))).2 else 0

theorem since_w (w : World) (A : Nat → Prop) (g R : Nat) (L : List Wt) (x : Int) (h : QAt w A g R L) :
    Calls Try.prog 23 #[.pointer (some ⟨g, 0, none⟩), .int .i64 x] w fun e w' => e = .returned (.tuple #[.int .i64 (sinceI x L), .bool (decide (x ∈ L.map Prod.fst))]) ∧ w' = w := by
  have hp := place_w w A g R L x h
  unfold sinceI
  by_cases h0 : x ∈ L.map Prod.fst
  · rw [plc_mem h0] at hp
    rw [decide_eq_true h0, if_pos h0]
    have hF := (fidx_mem x (L.map Prod.fst)).2 h0
    rw [List.length_map] at hF
    obtain ⟨a, cap, c0⟩ := h.q.c0
    obtain ⟨b, rfl, hle, hcp, hcell⟩ := h.q.row c0 (by omega)
    have hc := (hcell _ hF).2
    have hne : (((fidx x (L.map Prod.fst) : Nat) : Int) == -1) = false := by rw [beq_eq_false_iff_ne]; omega
    unfold maxLen at hcp
    have hle16 := h.le
    have hmx := h.max
    generalize fidx x (L.map Prod.fst) = F at *
    generalize (nthW L F).2 = y at *
    generalize L.length = n at *
    clear hcell h h0
    go_enter Try.func23, Try.ntmps23
    go_wp2_with (first | (go_at_call 28; refine hp.mono ?_; rintro e w' ⟨rfl, hw'⟩; subst w'))
    go_ret2
    exact ⟨rfl, rfl⟩
  · rw [plc_not h0] at hp
    rw [decide_eq_false h0, if_neg h0]
    clear h h0
    go_enter Try.func23, Try.ntmps23
    go_wp2_with (first | (go_at_call 28; refine hp.mono ?_; rintro e w' ⟨rfl, hw'⟩; subst w'))
    go_ret2
    exact ⟨rfl, rfl⟩

end Go.Proofs.Ytcndgcfdopjjfaa
