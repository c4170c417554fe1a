/-
  What Count and Add do, as contracts: they answer how many are left, and leave the window with those that are left. Conditions: the window lies where it is said to lie; it has at most 1000 ticks.
-/
import Derived.Test.YtjnacpcdkkfdgaaMeth
import Derived.Deep.RegionWith
import Derived.Deep.CutRange
namespace Go.Proofs.Ytjnacpcdkkfdgaa
open Go.ChangeShapes Go.WideShapes Go.ChangeAt Go.RowKit

theorem WAt.top {w : World} {A : Nat → Prop} {g : Nat} {s t : Int} {L : List Int} (h : WAt w A g s t L) (t' : Int) : WAt (w.setCell ⟨g, 1, none⟩ (.int .i64 t')) A g s t' L := by
  obtain ⟨a, cap, hb, ht⟩ := h.ex
  exact ⟨⟨a, cap, (heap_set3 hb).2.1, ht.move (by simp) (fun x hx _ => ⟨heap_setCell_other w _ x _ (fun e => hx (.inr e)), hx⟩)⟩, h.gout, fun k hk => by simpa using h.guard k hk⟩

set_option maxRecDepth 100000 in
theorem count_w (w : World) (A : Nat → Prop) (g : Nat) (s t : Int) (L : List Int) (now : Int) (h : WAt w A g s t L) (hL : L.length ≤ 1001) :
    Calls Try.prog 16 #[.pointer (some ⟨g, 0, none⟩), .int .i64 now] w fun e w' => e = .returned (.int .i64 (cntL s (max t (cut now)) L).length) ∧ WAt w' A g s (max t (cut now)) (cntL s (max t (cut now)) L) ∧ Keep A w w' := by
  have HW : Hid (WAt w A g s t L) := h
  obtain ⟨a, cap, hb, -⟩ := h.ex
  obtain ⟨c0, c1, c2, hl⟩ := blk3 hb
  have hf := fz3 hb 1
  have hif : (if t < cut now then cut now else t) = max t (cut now) := by split <;> omega
  generalize max t (cut now) = T at *
  have HC : Hid (cntL s T L = L.drop (behN s T L)) := cntL_drop s T L
  have HL : Hid (L.length ≤ 1001) := hL
  have HN : Hid (behN s T L ≤ L.length) := behN_le s T L
  clear hb h hL
  go_enter Try.func16, Try.ntmps16
  go_wp2
  go_region_with (first | (go_at_call 27; refine (cut_any _ _).mono ?_; rintro e w' ⟨rfl, rfl⟩))
  all_goals (
    go_wp2_with fail
    refine (behind_w _ A g s T L (HW.out.top T |>.drewN 1) HL.out).mono ?_
    rintro e w2 ⟨rfl, q, rfl⟩
    go_wp2_with fail
    refine (cut_w _ A g s T L ((HW.out.top T).drewN (1 + q)) HL.out _ HN.out).mono ?_
    rintro e w3 ⟨rfl, hW3, hk3⟩
    rw [← HC.out] at hW3
    have hk : Keep A w w3 := (((Keep.refl A w).setCell HW.out.gout _).drewN (1 + q)).trans hk3
    have HE : Hid (WAt w3 A g s T (cntL s T L) ∧ Keep A w w3) := ⟨hW3, hk⟩
    obtain ⟨a3, cap3, hb3, -⟩ := hW3.ex
    obtain ⟨d0, d1, d2, hl3⟩ := blk3 hb3
    clear hb3 hk hk3 hW3 c0 c1 c2 hf hif
    go_wp2
    go_ret
    exact ⟨rfl, HE.out⟩)

set_option maxRecDepth 100000 in
theorem add_w (w : World) (A : Nat → Prop) (g : Nat) (s t : Int) (L : List Int) (x : Int) (h : WAt w A g s t L) (hL : L.length ≤ 1000) :
    Calls Try.prog 14 #[.pointer (some ⟨g, 0, none⟩), .int .i64 x] w fun e w' => ∃ y, y = max (cut x) (lastI L) ∧ e = .returned (.int .i64 (cntL s (max t (cut y)) (L ++ [y])).length) ∧
      WAt w' A g s (max t (cut y)) (cntL s (max t (cut y)) (L ++ [y])) ∧ Keep A w w' := by
  have HW : Hid (WAt w A g s t L) := h
  obtain ⟨a, cap, hb, ht⟩ := h.ex
  obtain ⟨c0, c1, c2, hl⟩ := blk3 hb
  have hla := last_w w A g s t L h
  have HT : Hid (TIn w (fun k => A k ∨ k = g) a L.length cap L) := ht
  have HB : Hid (w.heap[g]? = some (.cells #[.int .i64 s, .int .i64 t, .slice a L.length cap] 49 (0, 0))) := hb
  have hif : (if cut x < lastI L then lastI L else cut x) = max (cut x) (lastI L) := by split <;> omega
  generalize max (cut x) (lastI L) = y at *
  generalize lastI L = l at *
  clear hb h ht
  go_enter Try.func14, Try.ntmps14
  go_wp2_with fail
  refine hla.mono ?_
  rintro e w1 ⟨rfl, q, rfl⟩
  go_wp2_with (first
    | (go_at_call 27; refine (cut_any _ _).mono ?_; rintro e w' ⟨rfl, rfl⟩)
    | (at_builtin; refine wpList_tick rfl _ _ rfl (fun k => A k ∨ k = g) a L.length cap L y ⟨w.heap.size, 0, none⟩ 1 rfl rfl ?c1 ?c2 ?c3 ?c4 ?_))
  case c1 => exact HT.out.move (by simp) (fun b hb hlt => ⟨Below.heap_alloc _ _ b hlt, hb⟩)
  case c2 => exact hL
  case c3 => exact World.cell?_alloc_new (w.drewN q) _ _ 0
  case c4 =>
    rintro k (hk | rfl)
    · have := HW.out.guard k hk
      simp
      omega
    · simp
      omega
  intro a2 cap2 w2 hT2 hk2
  have hb2 : w2.heap[g]? = some (.cells #[.int .i64 s, .int .i64 t, .slice a L.length cap] 49 (0, 0)) := by
    rw [hk2.block g (by simp; omega) (.inr rfl), show ((w.drewN q).alloc (Obj.cells #[Value.int IntKind.i64 y] 3)).heap[g]? = w.heap[g]? from Below.heap_alloc _ _ g hl]
    exact HB.out
  obtain ⟨d0, d1, d2, hl2⟩ := blk3 hb2
  have hf2 := fz3 hb2 2
  have HW3 : Hid (WAt (w2.setCell ⟨g, 2, none⟩ (.slice a2 (L.length + 1) cap2)) A g s t (L ++ [y])) := by
    refine ⟨⟨a2, cap2, ?_, ?_⟩, HW.out.gout, fun k hk => ?_⟩
    · rw [List.length_append]
      exact (heap_set3 hb2).2.2
    · rw [List.length_append]
      exact hT2.move (by simp) (fun x hx _ => ⟨heap_setCell_other w2 _ x _ (fun e => hx (.inr e)), hx⟩)
    · have := HW.out.guard k hk
      have := hk2.size
      simp at this ⊢
      omega
  have HK : Hid (Keep A w (w2.setCell ⟨g, 2, none⟩ (.slice a2 (L.length + 1) cap2))) := ((((Keep.refl A w).drewN q).alloc _).trans (hk2.mono fun _ _ h => .inl h)).setCell HW.out.gout _
  have HL : Hid ((L ++ [y]).length ≤ 1001) := by show (L ++ [y]).length ≤ 1001; rw [List.length_append]; simp; omega
  clear hT2 hk2 hb2 c0 c1 c2 hla
  go_wp2_with fail
  refine (count_w _ A g s t (L ++ [y]) y HW3.out HL.out).mono ?_
  rintro e w4 ⟨rfl, hW4, hk4⟩
  have HE : Hid (WAt w4 A g s (max t (cut y)) (cntL s (max t (cut y)) (L ++ [y])) ∧ Keep A w w4) := ⟨hW4, HK.out.trans hk4⟩
  clear hW4 hk4 d0 d1 d2 hf2
  go_wp2
  go_ret
  exact ⟨y, rfl, rfl, HE.out⟩

end Go.Proofs.Ytjnacpcdkkfdgaa
