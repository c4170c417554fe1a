/-
  What Swap of the order does: the two places are swapped, and each entry knows its new place; nothing else is turned. Conditions: the row lies where it is said to lie; places are within it.
-/
import Derived.Test.YtahdeliopmkpmaaMem
namespace Go.Proofs.Ytahdeliopmkpmaa
open Go.ChangeShapes Go.WideShapes Go.ChangeAt Go.RowKit

theorem Keep.congr {A : Nat → Prop} {w a b : World} (h : Keep A w a) (h1 : b.os = a.os) (h2 : b.tape = a.tape) (h3 : b.output = a.output) (h4 : b.heap = a.heap) : Keep A w b :=
  ⟨h1.trans h.os, h2.trans h.tape, h3.trans h.output, by rw [h4]; exact h.size, fun k hk hA => by rw [h4]; exact h.block k hk hA⟩

theorem grown_set1 (w : World) (g i : Nat) (v : Value) : w.grownBy (w.setCell ⟨g, i, none⟩ v) (some g) :=
  ⟨rfl, rfl, rfl, by simp, fun k _ hne => heap_setCell_other w ⟨g, i, none⟩ k v (fun e => hne (by rw [e]))⟩

theorem map_ptr_swp {L : List Ent} {i j : Nat} : ((L.map ptrE).set i (ptrE (nth L j))).set j (ptrE (nth L i)) = (swp L i j).map ptrE := by
  unfold swp
  rw [List.map_set, List.map_set]

theorem EntAt.put {w : World} {e : Ent} {i : Nat} (h : EntAt w e i) (j : Nat) : EntAt (w.setCell ⟨e.b, 2, none⟩ (.int .i64 j)) e j := by
  unfold EntAt at h ⊢
  rw [heap_setCell_same w e.b 2 _ 66 _ h]
  simp

theorem EntAt.put_other {w : World} {e : Ent} {i : Nat} (h : EntAt w e i) (x : Addr) (hx : e.b ≠ x.block) (v : Value) : EntAt (w.setCell x v) e i := by
  unfold EntAt at h ⊢
  rw [heap_setCell_other w x e.b v hx]
  exact h

theorem swap_world {w : World} {A : Nat → Prop} {L : List Ent} {gs cap i j : Nat} (h : OIn w A (.slice (some ⟨gs, 0, none⟩) L.length cap) L) (hi : i < L.length) (hj : j < L.length) :
    OIn ((((w.setCell ⟨gs, i, none⟩ (ptrE (nth L j))).setCell ⟨gs, j, none⟩ (ptrE (nth L i))).setCell ⟨(nth L j).b, 2, none⟩ (.int .i64 i)).setCell ⟨(nth L i).b, 2, none⟩ (.int .i64 j)) A (.slice (some ⟨gs, 0, none⟩) L.length cap) (swp L i j) ∧
    Keep A w ((((w.setCell ⟨gs, i, none⟩ (ptrE (nth L j))).setCell ⟨gs, j, none⟩ (ptrE (nth L i))).setCell ⟨(nth L j).b, 2, none⟩ (.int .i64 i)).setCell ⟨(nth L i).b, 2, none⟩ (.int .i64 j)) := by
  have hA : ¬ A gs := h.out gs rfl
  refine ⟨?_, ((((Keep.refl A w).setCell hA _).setCell hA _).setCell (h.eout j hj) _).setCell (h.eout i hi) _⟩
  obtain ⟨_, _, cur, e, hg, _⟩ := h.row (by omega)
  simp only [Value.slice.injEq, Option.some.injEq, Addr.mk.injEq, and_true, true_and] at e
  obtain ⟨rfl, rfl⟩ := e
  have hne : ∀ k, k < L.length → (nth L k).b ≠ gs := fun k hk e => by
    have := h.ent k hk
    unfold EntAt at this
    rw [e, hg] at this
    simp at this
  have s1 := (h.own.stored i (ptrE (nth L j))).1
  have s2 := (s1.stored j (ptrE (nth L i))).1
  rw [map_ptr_swp] at s2
  refine ⟨?_, h.out, fun k hk => ?_, fun k hk => ?_⟩
  · rw [swp_length]
    have k1 := s2.kept (grown_set1 _ (nth L j).b 2 (.int .i64 i)) (.inr (by simp [Value.ownBlock, Ne.symm (hne j hj)]))
    exact k1.kept (grown_set1 _ (nth L i).b 2 (.int .i64 j)) (.inr (by simp [Value.ownBlock, Ne.symm (hne i hi)]))
  · rw [swp_length] at hk
    rw [nth_swp hi hj]
    have base : ∀ c, c < L.length → EntAt ((w.setCell ⟨gs, i, none⟩ (ptrE (nth L j))).setCell ⟨gs, j, none⟩ (ptrE (nth L i))) (nth L c) c := fun c hc =>
      ((h.ent c hc).put_other _ (hne c hc) _).put_other _ (hne c hc) _
    by_cases e1 : k = j
    · rw [if_pos e1, e1]
      by_cases e2 : i = j
      · subst e2
        exact ((base i hi).put i).put i
      · exact ((base i hi).put_other _ (fun e => e2 (h.inj hi hj e)) _).put j
    · rw [if_neg e1]
      by_cases e2 : k = i
      · rw [if_pos e2, e2]
        exact ((base j hj).put i).put_other _ (fun e => e1 (by rw [e2]; exact (h.inj hj hi e).symm)) _
      · rw [if_neg e2]
        exact ((base k hk).put_other _ (fun e => e1 (h.inj hk hj e)) _).put_other _ (fun e => e2 (h.inj hk hi e)) _
  · rw [swp_length] at hk
    rw [nth_swp hi hj]
    split
    · exact h.eout i hi
    · split
      · exact h.eout j hj
      · exact h.eout k hk

set_option maxHeartbeats 1000000 in
set_option maxRecDepth 100000 in
theorem swap_any (A : Nat → Prop) (ov : Value) (L : List Ent) (i j : Nat) (w : World) (h : OIn w A ov L) (hi : i < L.length) (hj : j < L.length) :
    Calls Try.prog 97 #[ov, .int .i64 i, .int .i64 j] w fun e w' => e = .returned (.tuple #[]) ∧ OIn w' A ov (swp L i j) ∧ Keep A w w' := by
  obtain ⟨gs, cap, cur, rfl, hg, _, hle, hcap, hcs, ht⟩ := h.row (by omega)
  obtain ⟨H1, H2⟩ := swap_world h hi hj
  have c1 := row_cell hg ht hi
  have c2 := row_cell hg ht hj
  have f1 := frozen_of_row w gs i cur 63 hg
  have f2 := frozen_of_row w gs j cur 63 hg
  have e1 := (h.ent i hi).c2
  have e2 := (h.ent j hj).c2
  have z1 := (h.ent i hi).fz 2
  have z2 := (h.ent j hj).fz 2
  unfold maxLen at hcap
  have hne : ∀ k, k < L.length → (nth L k).b ≠ gs := fun k hk e => by
    have := h.ent k hk
    unfold EntAt at this
    rw [e, hg] at this
    simp at this
  have n1 := hne i hi
  have n2 := hne j hj
  have HH : Hid (OIn ((((w.setCell ⟨gs, i, none⟩ (ptrE (nth L j))).setCell ⟨gs, j, none⟩ (ptrE (nth L i))).setCell ⟨(nth L j).b, 2, none⟩ (.int .i64 i)).setCell ⟨(nth L i).b, 2, none⟩ (.int .i64 j)) A (.slice (some ⟨gs, 0, none⟩) L.length cap) (swp L i j) ∧
    Keep A w ((((w.setCell ⟨gs, i, none⟩ (ptrE (nth L j))).setCell ⟨gs, j, none⟩ (ptrE (nth L i))).setCell ⟨(nth L j).b, 2, none⟩ (.int .i64 i)).setCell ⟨(nth L i).b, 2, none⟩ (.int .i64 j))) := ⟨H1, H2⟩
  by_cases hij : i = j
  · subst hij
    unfold ptrE at c1 HH
    clear H1 H2 h hg ht hne hcs c2 e2 z2 n2 f2
    generalize L.length = n at hi hj hle HH ⊢
    generalize hx : nth L i = x at c1 e1 z1 n1 HH
    clear hx
    go_enter Try.func97, Try.ntmps97
    go_wp2
    go_region
    go_wp2
    go_region
    go_wp2
    go_end0
    exact ⟨rfl, HH.out.1.congr rfl, HH.out.2.congr rfl rfl rfl rfl⟩
  · have hb : (nth L i).b ≠ (nth L j).b := fun e => hij (h.inj hi hj e)
    unfold ptrE at c1 c2 HH
    clear H1 H2 h hg ht hne hcs
    generalize L.length = n at hi hj hle HH ⊢
    generalize hx : nth L i = x at c1 e1 z1 n1 hb HH
    generalize hy : nth L j = y at c2 e2 z2 n2 hb HH
    clear hx hy
    go_enter Try.func97, Try.ntmps97
    go_wp2
    go_region
    go_wp2
    go_region
    go_wp2
    go_end0
    exact ⟨rfl, HH.out.1.congr rfl, HH.out.2.congr rfl rfl rfl rfl⟩

end Go.Proofs.Ytahdeliopmkpmaa
