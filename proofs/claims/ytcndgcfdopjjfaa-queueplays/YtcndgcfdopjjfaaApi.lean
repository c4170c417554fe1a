/-
  What takeOut, Pop, Remove and Push do, each as a contract, of nil too. Conditions: the queue lies where it is said to lie.
-/
import Derived.Test.YtcndgcfdopjjfaaAdd
namespace Go.Proofs.Ytcndgcfdopjjfaa
open Go.ChangeShapes Go.WideShapes Go.ChangeAt Go.RowKit

theorem takeOut_none (w : World) (g : Nat) (v : Value) (ia : Option Addr) (N C : Nat) (hb : w.heap[g]? = some (.cells #[.slice none 0 0, v] 62 (0, 0))) :
    Calls Try.prog 32 #[.pointer (some ⟨g, 0, none⟩), .slice ia N C] w fun e w' => e = .returned (.tuple #[]) ∧ w' = w.setCell ⟨g, 0, none⟩ (.slice none 0 0) := by
  obtain ⟨c0, c1, hgl⟩ := blk2 hb
  have hf := fz2 hb 0
  clear hb
  go_enter Try.func32, Try.ntmps32
  go_wp2
  go_step3
  go_wp2
  go_step3
  go_wp2
  go_loopw [4, 19] (fun v4 v19 wr => v4 = .slice none 0 0 ∧ v19 = .int .i64 0 ∧ wr = w) (fun _ _ _ => 0)
  case atStart => exact ⟨rfl, rfl, rfl⟩
  case round =>
    obtain ⟨rfl, rfl, rfl⟩ := hrel
    go_wp2
    simp only [Exit.noGoto]
    go_end0
    exact ⟨rfl, rfl⟩

/-- With another row behind it. -/
theorem QIn.put {w wr : World} {A : Nat → Prop} {g R m cap c s r : Nat} {L l : List Wt} {v : Value} {a : Option Addr} (hb : wr.heap[g]? = some (.cells #[v, .chan (some c)] 62 (0, 0))) (hc : wr.heap[c]? = some (.chan R (Array.replicate m tok) false s r false)) (hcA : ¬ A c) (hgA : ¬ A g)
    (hr : RIn wr (fun k => A k ∨ k = g ∨ k = c) a cap l) (hle : L.length ≤ cap) (ht : l.take L.length = L) (hguard : ∀ k, A k → k < w.heap.size) (hs : w.heap.size ≤ wr.heap.size) :
    QIn (wr.setCell ⟨g, 0, none⟩ (.slice a L.length cap)) A g R m L := by
  have hcg : c ≠ g := fun e => by rw [e, hb] at hc; simp at hc
  refine ⟨⟨a, cap, c, s, r, l, (heap_set2 hb).1, ?_, hcA, ?_, hle, ht⟩, hgA, fun k hk => by rw [World.size_setCell]; have := hguard k hk; omega⟩
  · rw [heap_setCell_other _ _ c _ hcg]; exact hc
  · exact hr.move (fun b x hA _ => ⟨heap_setCell_other _ _ b _ (fun e => hA (.inr (.inl e))), hA⟩)

theorem takeOut_w (w : World) (A : Nat → Prop) (g R m : Nat) (L : List Wt) (ia : Option Addr) (N C : Nat) (ids : List Int) (h : QIn w A g R m L) (hi : IntsAt w ia N C ids) (hA : ∀ x, ia = some x → A x.block) (hR : m + L.length ≤ R) :
    Calls Try.prog 32 #[.pointer (some ⟨g, 0, none⟩), .slice ia N C] w fun e w' => e = .returned (.tuple #[]) ∧ QIn w' A g R (m + (L.length - (without ids L).length)) (without ids L) ∧ Keep A w w' := by
  obtain ⟨a, cap, c, s, r, l, hb, hc, hcA, hr, h1, h2⟩ := h.ex
  obtain ⟨r1, r2, ⟨rfl, r3⟩ | ⟨b, rfl, r3, r4⟩⟩ := id hr
  · obtain rfl : L = [] := List.length_eq_zero_iff.1 (by omega)
    subst r3
    refine (takeOut_none w g _ ia N C hb).mono fun e w' ⟨he, hw⟩ => ⟨he, ?_, ?_⟩
    · rw [hw]
      exact QIn.put (w := w) (L := []) hb hc hcA h.gout hr h1 h2 h.guard (Nat.le_refl _)
    · rw [hw]
      exact (Keep.refl A w).setCell h.gout _
  · refine (takeOut_row w A g c b R m cap s r L l ia N C ids hi hA hb hc hcA (fun e => r3 (.inl e)) r4 r1 r2 h1 h2 hR).mono fun e w' ⟨he, wr, hw, hT⟩ => ⟨he, ?_, ?_⟩
    · obtain ⟨⟨l', t1, t2, t3, t4⟩, ⟨s', r', t5⟩, t6, t7⟩ := hT
      rw [List.take_length] at t2 t5
      rw [hw]
      exact QIn.put (w := w) (t6.trans hb) t5 hcA h.gout ⟨t1, r2, .inr ⟨b, rfl, r3, t4⟩⟩ (Nat.le_trans (without_len _ _) h1) t2 h.guard t7.size
    · rw [hw]
      exact hT.kp.setCell h.gout _

theorem QAt.taken {w : World} {A : Nat → Prop} {g R : Nat} {L : List Wt} {ids : List Int} (h : QIn w A g R (R - L.length + (L.length - (without ids L).length)) (without ids L)) (hle : L.length ≤ R) (hm : R ≤ 16) : QAt w A g R (without ids L) := by
  have := without_len ids L
  refine ⟨?_, by omega, hm⟩
  rw [show R - (without ids L).length = R - L.length + (L.length - (without ids L).length) by omega]
  exact h

/-- One is taken out, whose id lies in a block of its own. -/
theorem takeOut_one (w : World) (A : Nat → Prop) (g R : Nat) (L : List Wt) (x : Int) (h : QAt w A g R L) :
    Calls Try.prog 32 #[.pointer (some ⟨g, 0, none⟩), .slice (some ⟨w.heap.size, 0, none⟩) 1 1] (w.alloc (.cells #[.int .i64 x] 3)) fun e w' => e = .returned (.tuple #[]) ∧ QAt w' A g R (without [x] L) ∧ Keep A w w' := by
  have hle := h.le
  have hk : Keep (fun k => ¬ A k) w (w.alloc (.cells #[.int .i64 x] 3)) := (Keep.refl _ w).alloc _
  have hq : QIn (w.alloc (.cells #[.int .i64 x] 3)) (fun k => A k ∨ k = w.heap.size) g R (R - L.length) L :=
    h.q.keep hk (fun k hk => hk.imp id (fun e => by omega)) (fun k hk => by
      rcases hk with hk | hk
      · have := h.q.guard k hk
        simp
        omega
      · simp; omega)
  refine (takeOut_w _ _ g R _ L _ 1 1 [x] hq (one_at w x) (fun y hy => by cases hy; exact .inr rfl) (by omega)).mono fun e w' ⟨he, hq', hk'⟩ => ⟨he, ?_, ?_⟩
  · refine QAt.taken ?_ hle h.max
    exact hq'.keep (Keep.refl _ w') (fun k hk => .inl (.inl hk)) (fun k hk => by
      have := h.q.guard k hk
      have := hk'.size
      simp at this
      omega)
  · exact ((Keep.refl A w).alloc _).trans (hk'.mono (fun k _ hk => .inl hk))

theorem pop_nil (w : World) : Calls Try.prog 16 #[.pointer none] w fun e w' => e = .returned (.tuple #[.int .i64 0, .bool false]) ∧ w' = w := by
  go_enter Try.func16, Try.ntmps16
  go_wp2_with (first | (go_at_call 24; refine (peek_nil _).mono ?_; rintro e w' ⟨rfl, hw'⟩; subst w'))
  go_ret2
  exact ⟨rfl, rfl⟩

theorem pop_w (w : World) (A : Nat → Prop) (g R : Nat) (L : List Wt) (h : QAt w A g R L) :
    Calls Try.prog 16 #[.pointer (some ⟨g, 0, none⟩)] w fun e w' => e = .returned (.tuple #[.int .i64 (nthW L 0).1, .bool (decide (0 < L.length))]) ∧ QAt w' A g R (without [(nthW L 0).1] L) ∧ Keep A w w' := by
  have hp := peek_w w A g R L h
  by_cases h0 : 0 < L.length
  · have ho := takeOut_one w A g R L (nthW L 0).1 h
    rw [decide_eq_true h0] at hp ⊢
    generalize (nthW L 0).1 = x at *
    clear h h0
    go_enter Try.func16, Try.ntmps16
    go_wp2_with (first
      | (go_at_call 24; refine hp.mono ?_; rintro e w' ⟨rfl, hw'⟩; subst w')
      | (go_at_call 32; refine ho.mono ?_; rintro e w2 ⟨rfl, hq, hk⟩))
    go_ret2
    exact ⟨rfl, hq, hk⟩
  · obtain rfl : L = [] := List.length_eq_zero_iff.1 (by omega)
    go_enter Try.func16, Try.ntmps16
    go_wp2_with (first | (go_at_call 24; refine hp.mono ?_; rintro e w' ⟨rfl, hw'⟩; subst w'))
    go_ret2
    exact ⟨rfl, h, Keep.refl _ _⟩

theorem remove_nil (x : Int) (w : World) : Calls Try.prog 18 #[.pointer none, .int .i64 x] w fun e w' => e = .returned (.bool false) ∧ w' = w := by
  go_enter Try.func18, Try.ntmps18
  go_wp2_with (first | (go_at_call 28; refine (place_nil _ _).mono ?_; rintro e w' ⟨rfl, hw'⟩; subst w'))
  go_ret
  exact ⟨rfl, rfl⟩

theorem without_not {x : Int} {L : List Wt} (h : x ∉ L.map Prod.fst) : without [x] L = L := by
  unfold without
  rw [List.filter_eq_self]
  intro p hp
  have : p.1 ≠ x := fun e => h (e ▸ List.mem_map_of_mem hp)
  simpa using this

theorem remove_w (w : World) (A : Nat → Prop) (g R : Nat) (L : List Wt) (x : Int) (h : QAt w A g R L) :
    Calls Try.prog 18 #[.pointer (some ⟨g, 0, none⟩), .int .i64 x] w fun e w' => e = .returned (.bool (decide (x ∈ L.map Prod.fst))) ∧ QAt w' A g R (without [x] L) ∧ Keep A w w' := by
  have hp := place_w w A g R L x h
  by_cases h0 : x ∈ L.map Prod.fst
  · have ho := takeOut_one w A g R L x h
    rw [plc_mem h0] at hp
    rw [decide_eq_true h0]
    have hne : (((fidx x (L.map Prod.fst) : Nat) : Int) == -1) = false := by rw [beq_eq_false_iff_ne]; omega
    generalize fidx x (L.map Prod.fst) = F at *
    clear h h0
    go_enter Try.func18, Try.ntmps18
    go_wp2_with (first
      | (go_at_call 28; refine hp.mono ?_; rintro e w' ⟨rfl, hw'⟩; subst w')
      | (go_at_call 32; refine ho.mono ?_; rintro e w2 ⟨rfl, hq, hk⟩))
    go_ret
    exact ⟨rfl, hq, hk⟩
  · rw [plc_not h0] at hp
    rw [decide_eq_false h0, without_not h0]
    have HQ : Hid (QAt w A g R L) := h
    clear h h0
    go_enter Try.func18, Try.ntmps18
    go_wp2_with (first | (go_at_call 28; refine hp.mono ?_; rintro e w' ⟨rfl, hw'⟩; subst w'))
    go_ret
    exact ⟨rfl, HQ.out, Keep.refl _ _⟩

end Go.Proofs.Ytcndgcfdopjjfaa
