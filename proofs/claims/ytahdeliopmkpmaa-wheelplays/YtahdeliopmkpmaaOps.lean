/-
  What Fix, Push, Remove and Pop of container/heap do over an order: the heap stays one; what was put in is in it, what was taken out is out of it. Conditions: the order lies behind the pointer, and is a heap but where said.
-/
import Derived.Test.YtahdeliopmkpmaaPush
namespace Go.Proofs.Ytahdeliopmkpmaa
open Go.ChangeShapes Go.WideShapes Go.ChangeAt Go.RowKit

theorem kB {B : Nat → Prop} {g : Nat} {w w' : World} (h : Keep (fun k => B k ∨ k = g) w w') : Keep B w w' := h.mono fun _ _ hb => .inl hb

set_option maxHeartbeats 1000000 in
set_option maxRecDepth 100000 in
theorem fix_any (B : Nat → Prop) (g : Nat) (mv ov : Value) (L : List Ent) (i : Nat) (w : World) (hb : Blk w g mv ov) (h : OIn w (fun k => B k ∨ k = g) ov L) (hi : i < L.length) (hl : L.length ≤ 1000) (hd : DownI L.length L i i) :
    Calls Try.prog 32 #[.iface 68 (.pointer (some ⟨g, 1, none⟩)), .int .i64 i] w fun x w' => x = .returned (.tuple #[]) ∧
      ∃ L', Blk w' g mv ov ∧ OIn w' (fun k => B k ∨ k = g) ov L' ∧ L'.Perm L ∧ HeapN L'.length L' ∧ Keep B w w' := by
  have m1 := m_len hb.c1
  go_enter Try.func32, Try.ntmps32
  go_wp2_with fail
  refine (len_any _ ov L w h).mono ?_
  rintro e w1 ⟨rfl, hw⟩
  obtain rfl : w = w1 := hw.symm
  clear m1
  go_wp2_with fail
  refine (down_any _ g ov L L.length i w h (.inr rfl) hb.c1 (Nat.le_refl _) hl (by omega) hd).mono ?_
  rintro e w2 ⟨m, rfl, L', ho, hp, hlen, ht, hf, _, hk⟩
  cases m with
  | true =>
    go_wp2
    go_end0
    exact ⟨rfl, L', hb.keep hk (.inr rfl), ho, hp, by rw [hlen]; exact ht (by trivial), kB hk⟩
  | false =>
    have hb2 := hb.keep hk (.inr rfl)
    go_wp2_with fail
    refine (up_any _ g ov L' L.length i w2 ho (.inr rfl) hb2.c1 (by omega) (by omega) (by omega) (hf (by trivial))).mono ?_
    rintro e w3 ⟨rfl, L2, ho2, hp2, hlen2, hh, _, hk2⟩
    go_wp2
    go_end0
    exact ⟨rfl, L2, hb2.keep hk2 (.inr rfl), ho2, hp2.trans hp, by rw [hlen2, hlen]; exact hh, (kB hk).trans (kB hk2)⟩

set_option maxHeartbeats 1000000 in
set_option maxRecDepth 100000 in
theorem push_any (B : Nat → Prop) (g : Nat) (mv ov : Value) (L : List Ent) (e : Ent) (i0 : Nat) (w : World) (hb : Blk w g mv ov) (h : OIn w (fun k => B k ∨ k = g) ov L) (hgd : ∀ k, B k → k < w.heap.size) (hgB : ¬ B g)
    (he : EntAt w e i0) (heo : ¬ B e.b) (hnew : ∀ i, i < L.length → (nth L i).b ≠ e.b) (hl : L.length < 1000) (hh : HeapN L.length L) :
    Calls Try.prog 33 #[.iface 68 (.pointer (some ⟨g, 1, none⟩)), .iface 63 (ptrE e)] w fun x w' => x = .returned (.tuple #[]) ∧
      ∃ ov' L', Blk w' g mv ov' ∧ OIn w' (fun k => B k ∨ k = g) ov' L' ∧ L'.Perm (L ++ [e]) ∧ HeapN L'.length L' ∧ Keep B w w' := by
  have m1 := m_push w g
  go_enter Try.func33, Try.ntmps33
  go_wp2_with fail
  refine (push_m B g mv ov L e i0 w hb h hgd hgB he heo hnew (by omega)).mono ?_
  rintro x w1 ⟨rfl, ov', hb1, ho1, hk1⟩
  have hlen : (L ++ [e]).length = L.length + 1 := by simp
  have m2 := m_len hb1.c1
  clear m1
  go_wp2_with fail
  refine (len_any _ ov' (L ++ [e]) w1 ho1).mono ?_
  rintro x w2 ⟨rfl, hw⟩
  obtain rfl : w1 = w2 := hw.symm
  rw [hlen]
  have hs : ((L.length + 1 : Nat) : Int) - 1 = (L.length : Int) := by omega
  clear m2
  go_wp2_with fail
  refine (up_any _ g ov' (L ++ [e]) (L.length + 1) L.length w1 ho1 (.inr rfl) hb1.c1 (by omega) (by omega) (by omega) (UpI.added hh (fun c hc => nth_append_left hc))).mono ?_
  rintro x w3 ⟨rfl, L2, ho2, hp2, hlen2, hh2, _, hk2⟩
  go_wp2
  go_end0
  exact ⟨rfl, ov', L2, hb1.keep hk2 (.inr rfl), ho2, hp2, by rw [hlen2, hlen]; exact hh2, hk1.trans (kB hk2)⟩

theorem take_perm {L : List Ent} {m : Nat} (hm : L.length = m + 1) : (nth L m :: L.take m).Perm L := by
  have h1 : L.take m ++ [nth L m] = L := by
    rw [nth_eq (by omega)]
    have h3 : L.drop m = [L[m]] := by rw [List.drop_eq_getElem_cons (by omega), List.drop_of_length_le (by omega)]
    rw [← h3, List.take_append_drop]
  have h2 : (nth L m :: L.take m).Perm (L.take m ++ [nth L m]) := (List.perm_append_singleton _ _).symm
  exact h2.trans (by rw [h1])

/-- What taking one out leaves. -/
def Out (B : Nat → Prop) (g : Nat) (mv : Value) (L : List Ent) (e : Ent) (w w' : World) : Prop :=
  ∃ ov' L', Blk w' g mv ov' ∧ OIn w' (fun k => B k ∨ k = g) ov' L' ∧ (e :: L').Perm L ∧ HeapN L'.length L' ∧ (∃ p, EntAt w' e p) ∧ Keep B w w'

theorem out_of {B : Nat → Prop} {g m : Nat} {mv ov' : Value} {L L2 : List Ent} {e : Ent} {w w1 w' : World} (hb : Blk w' g mv ov') (ho : OIn w' (fun k => B k ∨ k = g) ov' (L2.take m)) (he : EntAt w' (nth L2 m) m) (hk : Keep B w1 w') (h1 : Keep B w w1)
    (hp : L2.Perm L) (hm : L2.length = m + 1) (hh : HeapN m L2) (hx : nth L2 m = e) : Out B g mv L e w w' := by
  have hl : (L2.take m).length = m := by rw [List.length_take]; omega
  refine ⟨ov', L2.take m, hb, ho, ?_, ?_, ⟨m, by rw [← hx]; exact he⟩, h1.trans hk⟩
  · rw [← hx]; exact (take_perm hm).trans hp
  · rw [hl]
    exact hh.congr (fun c hc => nth_take hc)

set_option maxHeartbeats 1000000 in
set_option maxRecDepth 100000 in
theorem hpop_any (B : Nat → Prop) (g : Nat) (mv ov : Value) (L : List Ent) (m : Nat) (w : World) (hb : Blk w g mv ov) (h : OIn w (fun k => B k ∨ k = g) ov L) (hgB : ¬ B g) (hm : L.length = m + 1) (hl : L.length ≤ 1000) (hh : HeapN L.length L) :
    Calls Try.prog 38 #[.iface 68 (.pointer (some ⟨g, 1, none⟩))] w fun x w' => x = .returned (.iface 63 (ptrE (nth L 0))) ∧ Out B g mv L (nth L 0) w w' := by
  have m1 := m_len hb.c1
  go_enter Try.func38, Try.ntmps38
  go_wp2_with fail
  refine (len_any _ ov L w h).mono ?_
  rintro x w1 ⟨rfl, hw⟩
  obtain rfl : w = w1 := hw.symm
  rw [hm]
  have hs : ((m + 1 : Nat) : Int) - 1 = (m : Int) := by omega
  have m2 := m_swap hb.c1
  clear m1
  go_wp2_with fail
  refine (swap_any _ ov L 0 m w h (by omega) (by omega)).mono ?_
  rintro x w1 ⟨rfl, ho1, hk1⟩
  have hb1 := hb.keep hk1 (.inr rfl)
  have hl1 : (swp L 0 m).length = m + 1 := (swp_length _ _ _).trans hm
  have hn1 := nth_swp (L := L) (i := 0) (j := m) (by omega) (by omega)
  have hp1 := swp_perm (L := L) (i := 0) (j := m) (by omega) (by omega)
  have hd : DownI m (swp L 0 m) 0 0 := DownI.other (hh.mono (by omega)) (fun c hc hne => by rw [hn1 c, if_neg (by omega), if_neg hne])
  clear m2
  go_wp2_with fail
  refine (down_any _ g ov (swp L 0 m) m 0 w1 ho1 (.inr rfl) hb1.c1 (by omega) (by omega) (by omega) hd).mono ?_
  rintro x w2 ⟨mo, rfl, L2, ho2, hp2, hlen2, ht, hf, htail, hk2⟩
  have hb2 := hb1.keep hk2 (.inr rfl)
  have hh2 : HeapN m L2 := by
    cases mo with
    | true => exact ht rfl
    | false => exact (hf rfl).done0
  have hx : nth L2 m = nth L 0 := by rw [htail m (Nat.le_refl m), hn1 m, if_pos rfl]
  have m3 := m_pop w2 g
  clear ht hf htail
  go_wp2_with fail
  refine (pop_m B g mv ov L2 m w2 hb2 ho2 hgB (by omega) (by omega)).mono ?_
  rintro x w3 ⟨rfl, ov3, hb3, ho3, he3, hk3⟩
  clear m3
  go_wp2
  go_ret
  exact ⟨rfl, out_of hb3 ho3 he3 hk3 ((kB hk1).trans (kB hk2)) (hp2.trans hp1) (by omega) hh2 hx⟩

set_option maxHeartbeats 1000000 in
set_option maxRecDepth 100000 in
theorem remove_any (B : Nat → Prop) (g : Nat) (mv ov : Value) (L : List Ent) (i : Nat) (w : World) (hb : Blk w g mv ov) (h : OIn w (fun k => B k ∨ k = g) ov L) (hgB : ¬ B g) (hi : i < L.length) (hl : L.length ≤ 1000) (hh : HeapN L.length L) :
    Calls Try.prog 35 #[.iface 68 (.pointer (some ⟨g, 1, none⟩)), .int .i64 i] w fun x w' => x = .returned (.iface 63 (ptrE (nth L i))) ∧ Out B g mv L (nth L i) w w' := by
  obtain ⟨m, hm⟩ : ∃ m, L.length = m + 1 := ⟨L.length - 1, by omega⟩
  have m1 := m_len hb.c1
  by_cases him : i = m
  · subst him
    go_enter Try.func35, Try.ntmps35
    go_wp2_with fail
    refine (len_any _ ov L w h).mono ?_
    rintro x w1 ⟨rfl, hw⟩
    obtain rfl : w = w1 := hw.symm
    rw [hm]
    have hs : ((i + 1 : Nat) : Int) - 1 = (i : Int) := by omega
    have m3 := m_pop w g
    clear m1
    go_wp2_with fail
    refine (pop_m B g mv ov L i w hb h hgB (by omega) (by omega)).mono ?_
    rintro x w3 ⟨rfl, ov3, hb3, ho3, he3, hk3⟩
    clear m3
    go_wp2
    go_ret
    exact ⟨rfl, out_of hb3 ho3 he3 hk3 (Keep.refl _ _) (List.Perm.refl _) (by omega) (hh.mono (by omega)) rfl⟩
  · have hne : ((m : Int) != (i : Int)) = true := by simp; omega
    go_enter Try.func35, Try.ntmps35
    go_wp2_with fail
    refine (len_any _ ov L w h).mono ?_
    rintro x w1 ⟨rfl, hw⟩
    obtain rfl : w = w1 := hw.symm
    rw [hm]
    have hs : ((m + 1 : Nat) : Int) - 1 = (m : Int) := by omega
    have m2 := m_swap hb.c1
    clear m1
    go_wp2_with fail
    refine (swap_any _ ov L i m w h (by omega) (by omega)).mono ?_
    rintro x w1 ⟨rfl, ho1, hk1⟩
    have hb1 := hb.keep hk1 (.inr rfl)
    have hl1 : (swp L i m).length = m + 1 := (swp_length _ _ _).trans hm
    have hn1 := nth_swp (L := L) (i := i) (j := m) (by omega) (by omega)
    have hp1 := swp_perm (L := L) (i := i) (j := m) (by omega) (by omega)
    have hd : DownI m (swp L i m) i i := DownI.other (hh.mono (by omega)) (fun c hc hne => by rw [hn1 c, if_neg (by omega), if_neg hne])
    clear m2
    go_wp2_with fail
    refine (down_any _ g ov (swp L i m) m i w1 ho1 (.inr rfl) hb1.c1 (by omega) (by omega) (by omega) hd).mono ?_
    rintro x w2 ⟨mo, rfl, L2, ho2, hp2, hlen2, ht, hf, htail, hk2⟩
    have hb2 := hb1.keep hk2 (.inr rfl)
    have hx : nth L2 m = nth L i := by rw [htail m (Nat.le_refl m), hn1 m, if_pos rfl]
    clear htail
    cases mo with
    | true =>
      have hh2 : HeapN m L2 := ht rfl
      have m3 := m_pop w2 g
      clear ht hf
      go_wp2_with fail
      refine (pop_m B g mv ov L2 m w2 hb2 ho2 hgB (by omega) (by omega)).mono ?_
      rintro x w3 ⟨rfl, ov3, hb3, ho3, he3, hk3⟩
      clear m3
      go_wp2
      go_ret
      exact ⟨rfl, out_of hb3 ho3 he3 hk3 ((kB hk1).trans (kB hk2)) (hp2.trans hp1) (by omega) hh2 hx⟩
    | false =>
      have hu : UpI m L2 i := hf rfl
      clear ht hf
      go_wp2_with fail
      refine (up_any _ g ov L2 m i w2 ho2 (.inr rfl) hb2.c1 (by omega) (by omega) (by omega) hu).mono ?_
      rintro x w4 ⟨rfl, L4, ho4, hp4, hlen4, hh4, htail4, hk4⟩
      have hb4 := hb2.keep hk4 (.inr rfl)
      have hx4 : nth L4 m = nth L i := (htail4 m (Nat.le_refl m)).trans hx
      have m3 := m_pop w4 g
      clear htail4
      go_wp2_with fail
      refine (pop_m B g mv ov L4 m w4 hb4 ho4 hgB (by omega) (by omega)).mono ?_
      rintro x w3 ⟨rfl, ov3, hb3, ho3, he3, hk3⟩
      clear m3
      go_wp2
      go_ret
      exact ⟨rfl, out_of hb3 ho3 he3 hk3 (((kB hk1).trans (kB hk2)).trans (kB hk4)) ((hp4.trans hp2).trans hp1) (by omega) hh4 hx4⟩

end Go.Proofs.Ytahdeliopmkpmaa
