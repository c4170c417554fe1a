/-
  A wheel in memory; what New, Len, Next and At do, each as a contract, of nil too. Conditions: the wheel lies where it is said to lie; keys are ints.
-/
import Derived.Test.YtahdeliopmkpmaaMap
namespace Go.Proofs.Ytahdeliopmkpmaa
open Go.ChangeShapes Go.WideShapes Go.ChangeAt Go.RowKit Go.Maps

/-- What is neither the wheel's row's nor its entries'. -/
def Mo (A : Nat → Prop) (mv : Value) (k : Nat) : Prop := A k ∨ mv = .map (some k)

/-- A wheel lies at block g: its map, its order, its entries; none of its blocks is one of A. -/
structure WIn (w : World) (A : Nat → Prop) (g : Nat) (mv ov : Value) (L : List Ent) : Prop where
  blk : Blk w g mv ov
  gout : ¬ A g
  ord : OIn w (fun k => Mo A mv k ∨ k = g) ov L
  map : MIn w A mv L
  wf : ∀ e ∈ L, Wf e.k
  apart : L.Pairwise (fun x y => x.k ≠ y.k)
  guard : ∀ k, A k → k < w.heap.size
  heap : HeapN L.length L
  few : L.length ≤ 999

theorem WIn.moG {w : World} {A : Nat → Prop} {g : Nat} {mv ov : Value} {L : List Ent} (h : WIn w A g mv ov L) : ¬ Mo A mv g := by
  rintro (h1 | h1)
  · exact h.gout h1
  · have hb := h.blk
    rcases h.map with ⟨h2, _⟩ | ⟨gm, D, h2, _, ⟨es, cl, h3, _⟩, _⟩
    · rw [h2] at h1; simp at h1
    · rw [h2] at h1; simp at h1; subst h1
      unfold Blk at hb
      rw [hb] at h3; simp at h3

theorem WIn.moGuard {w : World} {A : Nat → Prop} {g : Nat} {mv ov : Value} {L : List Ent} (h : WIn w A g mv ov L) : ∀ k, Mo A mv k → k < w.heap.size := by
  rintro k (h1 | h1)
  · exact h.guard k h1
  · rcases h.map with ⟨h2, _⟩ | ⟨gm, D, h2, _, h3, _⟩
    · rw [h2] at h1; simp at h1
    · rw [h2] at h1; simp at h1; subst h1
      exact h3.lt

theorem WIn.drewN {w : World} {A : Nat → Prop} {g : Nat} {mv ov : Value} {L : List Ent} (h : WIn w A g mv ov L) (q : Nat) : WIn (w.drewN q) A g mv ov L :=
  ⟨h.blk, h.gout, h.ord.drewN q, h.map.of_block (fun _ _ => rfl), h.wf, h.apart, h.guard, h.heap, h.few⟩

/-- It lasts while what it is not is made, and becomes what it is not. -/
theorem WIn.below {w w' : World} {A : Nat → Prop} {g : Nat} {mv ov : Value} {L : List Ent} (h : WIn w A g mv ov L) (hb : Below w.heap.size w w') : WIn w' (fun k => A k ∨ (w.heap.size ≤ k ∧ k < w'.heap.size)) g mv ov L := by
  have hk : Keep (fun k => k < w.heap.size) w w' := ⟨hb.os, hb.tape, hb.output, hb.size, fun k hk _ => hb.block k hk⟩
  have hl := h.blk.lt
  have hr := h.ord.lt
  have ho := h.ord.last hk hr (fun i hi => (h.ord.ent i hi).lt)
  have hml : ∀ gm, mv = .map (some gm) → gm < w.heap.size := fun gm hg => h.moGuard gm (.inr hg)
  refine ⟨h.blk.keep hk hl, ?_, ho.guard (fun k hk' => ?_) (fun i hi => ?_), ?_, h.wf, h.apart, ?_, h.heap, h.few⟩
  · rintro (h1 | h1)
    · exact h.gout h1
    · omega
  · have h1 := h.ord.out k hk'
    have h2 := hr k hk'
    rintro ((h3 | h3) | h3)
    · rcases h3 with h3 | h3
      · exact h1 (.inl (.inl h3))
      · omega
    · exact h1 (.inl (.inr h3))
    · exact h1 (.inr h3)
  · have h1 := h.ord.eout i hi
    have h2 := (h.ord.ent i hi).lt
    rintro ((h3 | h3) | h3)
    · rcases h3 with h3 | h3
      · exact h1 (.inl (.inl h3))
      · omega
    · exact h1 (.inl (.inr h3))
    · exact h1 (.inr h3)
  · have hm := h.map.keep hk hml
    rcases hm with hm | ⟨gm, D, h1, h2, h3⟩
    · exact .inl hm
    · refine .inr ⟨gm, D, h1, ?_, h3⟩
      have := hml gm h1
      rintro (h4 | h4)
      · exact h2 h4
      · omega
  · rintro k (h1 | h1)
    · exact Nat.lt_of_lt_of_le (h.guard k h1) hb.size
    · exact h1.2

/-- With fewer that are not its own. -/
theorem WIn.fewer {w : World} {A B : Nat → Prop} {g : Nat} {mv ov : Value} {L : List Ent} (h : WIn w A g mv ov L) (hB : ∀ k, B k → A k) : WIn w B g mv ov L := by
  refine ⟨h.blk, fun h1 => h.gout (hB _ h1), h.ord.guard (fun k hk h1 => h.ord.out k hk ?_) (fun i hi h1 => h.ord.eout i hi ?_), ?_, h.wf, h.apart, fun k hk => h.guard k (hB k hk), h.heap, h.few⟩
  · exact h1.imp (fun h2 => h2.imp (hB _) id) id
  · exact h1.imp (fun h2 => h2.imp (hB _) id) id
  · rcases h.map with hm | ⟨gm, D, h1, h2, h3⟩
    · exact .inl hm
    · exact .inr ⟨gm, D, h1, fun h4 => h2 (hB _ h4), h3⟩

theorem new_any (w : World) :
    Calls Try.prog 10 #[] w fun e w' => e = .returned (.pointer (some ⟨w.heap.size, 0, none⟩)) ∧ WIn w' (fun k => k < w.heap.size) w.heap.size (.map none) (.slice none 0 0) [] ∧ Below w.heap.size w w' ∧ w'.heap.size = w.heap.size + 1 := by
  go_enter Try.func10, Try.ntmps10
  go_wp2
  go_ret
  refine ⟨rfl, ⟨?_, by simp, ⟨World.ownsRow_nil _ _ _ _, ?_, ?_, ?_⟩, .inl ⟨rfl, rfl⟩, by simp, List.Pairwise.nil, ?_, ?_, by simp⟩, (Below.refl _ _).alloc (Nat.le_refl _) _, by simp⟩
  · unfold Blk; exact heap_alloc_new w _
  · intro k hk; simp [Value.ownBlock] at hk
  · intro i hi; simp at hi
  · intro i hi; simp at hi
  · intro k hk; simp; omega
  · intro c c0 cn; simp at cn

theorem ov_shape {w : World} {A : Nat → Prop} {ov : Value} {L : List Ent} (h : OIn w A ov L) : ∃ a cap, ov = .slice a L.length cap := by
  rcases h.own.2 with ⟨h1, h2⟩ | ⟨gs, cap, cur, h1, _⟩
  · exact ⟨none, 0, by rw [h1, h2]⟩
  · exact ⟨_, _, h1⟩

theorem wlen_any (w : World) (A : Nat → Prop) (g : Nat) (mv ov : Value) (L : List Ent) (h : WIn w A g mv ov L) :
    Calls Try.prog 24 #[.pointer (some ⟨g, 0, none⟩)] w fun e w' => e = .returned (.int .i64 L.length) ∧ w' = w := by
  have c1 := h.blk.c1
  obtain ⟨a, cap, rfl⟩ := ov_shape h.ord
  go_enter Try.func24, Try.ntmps24
  go_wp2
  go_ret
  exact ⟨rfl, rfl⟩

theorem wlen_nil (w : World) : Calls Try.prog 24 #[.pointer none] w fun e w' => e = .returned (.int .i64 0) ∧ w' = w := by
  go_enter Try.func24, Try.ntmps24
  go_wp2
  go_ret
  exact ⟨rfl, rfl⟩

theorem next_nil (w : World) : Calls Try.prog 23 #[.pointer none] w fun e w' => e = .returned (.tuple #[.int .i64 0, .bool false]) ∧ w' = w := by
  go_enter Try.func23, Try.ntmps23
  go_wp2_with (first | (go_at_call 24; refine (wlen_nil _).mono ?_; rintro e w' ⟨rfl, rfl⟩))
  go_ret2
  exact ⟨rfl, rfl⟩

theorem next_none (w : World) (A : Nat → Prop) (g : Nat) (mv ov : Value) (h : WIn w A g mv ov []) :
    Calls Try.prog 23 #[.pointer (some ⟨g, 0, none⟩)] w fun e w' => e = .returned (.tuple #[.int .i64 0, .bool false]) ∧ w' = w := by
  go_enter Try.func23, Try.ntmps23
  go_wp2_with (first | (go_at_call 24; refine (wlen_any _ A g mv ov [] h).mono ?_; rintro e w' ⟨rfl, rfl⟩))
  go_ret2
  exact ⟨rfl, rfl⟩

theorem next_some (w : World) (A : Nat → Prop) (g : Nat) (mv ov : Value) (L : List Ent) (h : WIn w A g mv ov L) (h0 : 0 < L.length) :
    Calls Try.prog 23 #[.pointer (some ⟨g, 0, none⟩)] w fun e w' => e = .returned (.tuple #[.int .i64 (nth L 0).a, .bool true]) ∧ w' = w := by
  have c1 := h.blk.c1
  obtain ⟨gs, cap, cur, rfl, hg, _, hle, hcap, hcs, ht⟩ := h.ord.row h0
  have cm := row_cell hg ht h0
  have e1 := (h.ord.ent 0 h0).c1
  unfold ptrE at cm
  unfold maxLen at hcap
  have HW : Hid (WIn w A g mv (.slice (some ⟨gs, 0, none⟩) L.length cap) L) := h
  clear h hg ht hcs
  have hb : ((L.length : Int) == 0) = false := by rw [beq_eq_false_iff_ne]; omega
  go_enter Try.func23, Try.ntmps23
  go_wp2_with (first | (go_at_call 24; refine (wlen_any _ A g mv _ L HW.out).mono ?_; rintro e w' ⟨rfl, rfl⟩))
  go_ret2
  exact ⟨rfl, rfl⟩

theorem at_nil (k : Int) (w : World) : Calls Try.prog 20 #[.pointer none, .int .i64 k] w fun e w' => e = .returned (.tuple #[.int .i64 0, .bool false]) ∧ w' = w := by
  go_enter Try.func20, Try.ntmps20
  go_wp2
  go_ret2
  exact ⟨rfl, rfl⟩

theorem at_miss (w : World) (A : Nat → Prop) (g : Nat) (mv ov : Value) (L : List Ent) (k : Int) (hw : Wf k) (h : WIn w A g mv ov L) (hn : ∀ e ∈ L, e.k ≠ k) :
    Calls Try.prog 20 #[.pointer (some ⟨g, 0, none⟩), .int .i64 k] w fun e w' => e = .returned (.tuple #[.int .i64 0, .bool false]) ∧ w' = w := by
  have c0 := h.blk.c0
  have hl := h.map.miss hn hw
  clear h hn
  go_enter Try.func20, Try.ntmps20
  go_wp2
  go_ret2
  exact ⟨rfl, rfl⟩

theorem mem_nth {L : List Ent} {e : Ent} (h : e ∈ L) : ∃ i, i < L.length ∧ nth L i = e := by
  obtain ⟨i, hi, he⟩ := List.getElem_of_mem h
  exact ⟨i, hi, by rw [nth_eq hi]; exact he⟩

theorem at_hit (w : World) (A : Nat → Prop) (g : Nat) (mv ov : Value) (L : List Ent) (e : Ent) (h : WIn w A g mv ov L) (he : e ∈ L) :
    Calls Try.prog 20 #[.pointer (some ⟨g, 0, none⟩), .int .i64 e.k] w fun x w' => x = .returned (.tuple #[.int .i64 e.a, .bool true]) ∧ w' = w := by
  have c0 := h.blk.c0
  have hl := h.map.look he (h.wf e he) true
  obtain ⟨i, hi, hx⟩ := mem_nth he
  have e1 := (h.ord.ent i hi).c1
  rw [hx] at e1
  unfold ptrE at hl
  rw [if_pos rfl] at hl
  clear h he hi hx
  go_enter Try.func20, Try.ntmps20
  go_wp2
  go_ret2
  exact ⟨rfl, rfl⟩

end Go.Proofs.Ytahdeliopmkpmaa
