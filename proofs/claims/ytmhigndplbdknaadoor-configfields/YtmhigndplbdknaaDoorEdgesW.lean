/-
  The walk of ConfigEdges: it returns true and turns nothing that was there. Conditions: a config of 15 numbers; what the program's text lays reads as it is laid.
-/
import Derived.Test.YtmhigndplbdknaaDoorBackW
import Derived.Test.YtmhigndplbdknaaDoorEdgesP
namespace Go.Proofs.YtmhigndplbdknaaDoor
open Go.ChangeShapes Go.WideShapes Go.ChangeAt Go.RowKit

theorem um_bd (m z : Int) (h0 : 0 < m) (h1 : m ≤ 1000000) : 0 ≤ wrap64 ((IntKind.u64.wrap z).tmod m) ∧ wrap64 ((IntKind.u64.wrap z).tmod m) < m := by
  have e : IntKind.u64.wrap z = z % 18446744073709551616 := by simp [IntKind.wrap, IntKind.signed, IntKind.bits]
  have hnn : 0 ≤ z % 18446744073709551616 := Int.emod_nonneg _ (by decide)
  rw [e, Int.tmod_eq_emod_of_nonneg hnn]
  have a1 := Int.emod_nonneg (z % 18446744073709551616) (show m ≠ 0 by omega)
  have a2 := Int.emod_lt_of_pos (z % 18446744073709551616) h0
  generalize z % 18446744073709551616 % m = y at a1 a2
  have e2 : wrap64 y = y := by
    unfold wrap64
    omega
  rw [e2]
  exact ⟨a1, a2⟩
/-- A whole config is stored into its block: the world behind it by its facts. -/
theorem wl_putW {l : List Int} (hl : l.length = 15) {ops : Array Oper} {rest : List Oper} {o : Oper} {a : Act} {w : World} {Q : Exit → Act → World → Prop} (hgd : o.guard = none) (x y : Operand) (ho : o.op = .store 23 x y)
    {g : Nat} (hx : a.eval x = .pointer (some ⟨g, 0, none⟩)) (hy : a.eval y = .agg (cc l)) {t : TypeId} {old : Array Value} (hg : w.heap[g]? = some (.cells old t (0, 0))) (ho15 : old.size = 15)
    (h : ∀ W : World, W.heap[g]? = some (.cells (cc l) t (0, 0)) → W.heap.size = w.heap.size → (∀ v : World, Below g v w → Below g v W) → wpList Tryd.prog ops Q rest (a.put o.dst undef) W) : wpList Tryd.prog ops Q (o :: rest) a w :=
  wl_put hl hgd x y ho hx hy hg ho15 (h _ (setRow_heap _ _ _ _ _ _ hg) (size_setRow _ _ _) fun _ hv => below_setRow hv (Nat.le_refl _) _)
theorem mod15 (x : Int) : ∃ n : Nat, wrap64 ((IntKind.u64.wrap x).tmod 15) = (n : Int) ∧ n < 15 := by
  obtain ⟨h1, h2⟩ := um_bd 15 x (by decide) (by decide)
  exact ⟨(wrap64 ((IntKind.u64.wrap x).tmod 15)).toNat, by omega, by omega⟩

set_option maxRecDepth 100000 in
set_option maxHeartbeats 800000 in
theorem edges_law (l : List Int) (hl : l.length = 15) (x v : Int) (w : World) (hE : Env w) :
    Calls Tryd.prog 6 #[.agg (cc l), .int .i64 x, .int .i64 v] w fun e w' => e = .returned (.bool true) ∧ Below w.heap.size w w' := by
  obtain ⟨n, hn, hn15⟩ := mod15 x
  have HA : Hid ((w.alloc (.cells (cc l) 23)).heap[w.heap.size]? = some (.cells (cc l) 23 (0, 0))) := heap_alloc_new _ _
  have HE := Hid.mk' hE
  clear hE
  go_enter Tryd.func6, Tryd.ntmps6
  go_wp2_with fail
  refine (lives_any _ (HE.out.below ((Below.refl _ _).alloc (Nat.le_refl _) _))).mono ?_
  rintro e w1 ⟨rfl, hb1⟩
  have H1 : Hid (w1.heap[w.heap.size]? = some (.cells (cc l) 23 (0, 0)) ∧ Below w.heap.size w w1) := ⟨keep_blk hb1 HA.out, ((Below.refl _ _).alloc (Nat.le_refl _) _).trans (hb1.mono (by simp))⟩
  clear hb1 HA
  go_wp2_with (first
    | (refine wl_load hl rfl _ rfl rfl H1.out.1 ?_))
  refine (small_any l hl _).mono ?_
  rintro e w2 ⟨⟨m, hm, hsm, rfl⟩, hb2⟩
  have H2 : Hid (w2.heap[w.heap.size]? = some (.cells (cc l) 23 (0, 0)) ∧ Below w.heap.size w w2) := ⟨keep_blk hb2 H1.out.1, H1.out.2.trans (hb2.mono H1.out.2.size)⟩
  clear hb2 H1
  have HM : Hid (m.length = 15 ∧ smallM m) := ⟨hm, hsm⟩
  have hb0 := base0_len hm
  obtain ⟨A6, hA6⟩ : ∃ A6, m.getD 6 0 = A6 := ⟨_, rfl⟩
  obtain ⟨A1, hA1⟩ : ∃ A1, m.getD 1 0 = A1 := ⟨_, rfl⟩
  have HI : Hid (∀ i, hiOf (base0 m) i = (his A6 A1).getD i 0) := by
    intro i
    unfold hiOf
    rw [base0_get hm, base0_get hm, ← hA6, ← hA1]
    rfl
  have HF : Hid (∀ W : World, W.heap[w.heap.size]? = some (.cells (cc m) 23 (0, 0)) → W.heap.size = w2.heap.size → Below w.heap.size w W →
      (W.cell? ⟨w.heap.size, 7, none⟩ = some (.int .i64 (m.getD 7 0)) ∧ W.cell? ⟨w.heap.size, 9, none⟩ = some (.int .i64 (m.getD 9 0)) ∧ W.frozen? ⟨w.heap.size, 7, none⟩ = false ∧ W.frozen? ⟨w.heap.size, 9, none⟩ = false ∧
      (∀ o, (((W.setCell ⟨w.heap.size, 7, none⟩ (.int .i64 0)).setCell ⟨w.heap.size, 9, none⟩ (.int .i64 0)).alloc o).cell? ⟨w.heap.size, 6, none⟩ = some (.int .i64 A6)) ∧
      (∀ o, (((W.setCell ⟨w.heap.size, 7, none⟩ (.int .i64 0)).setCell ⟨w.heap.size, 9, none⟩ (.int .i64 0)).alloc o).cell? ⟨w.heap.size, 1, none⟩ = some (.int .i64 A1)) ∧
      ((((W.setCell ⟨w.heap.size, 7, none⟩ (.int .i64 0)).setCell ⟨w.heap.size, 9, none⟩ (.int .i64 0)).alloc (.cells (cc los) 3)).alloc (.cells (cc (his A6 A1)) 3)).heap[w.heap.size]? = some (.cells (cc (base0 m)) 23 (0, 0)) ∧
      ((((W.setCell ⟨w.heap.size, 7, none⟩ (.int .i64 0)).setCell ⟨w.heap.size, 9, none⟩ (.int .i64 0)).alloc (.cells (cc los) 3)).alloc (.cells (cc (his A6 A1)) 3)).heap[W.heap.size]? = some (.cells (cc los) 3 (0, 0)) ∧
      ((((W.setCell ⟨w.heap.size, 7, none⟩ (.int .i64 0)).setCell ⟨w.heap.size, 9, none⟩ (.int .i64 0)).alloc (.cells (cc los) 3)).alloc (.cells (cc (his A6 A1)) 3)).heap[W.heap.size + 1]? = some (.cells (cc (his A6 A1)) 3 (0, 0)) ∧
      Below w.heap.size w ((((W.setCell ⟨w.heap.size, 7, none⟩ (.int .i64 0)).setCell ⟨w.heap.size, 9, none⟩ (.int .i64 0)).alloc (.cells (cc los) 3)).alloc (.cells (cc (his A6 A1)) 3)))) := by
    intro W hS hz hWb
    have hc := cells_of hm hS
    have hB : Below w.heap.size w ((W.setCell ⟨w.heap.size, 7, none⟩ (.int .i64 0)).setCell ⟨w.heap.size, 9, none⟩ (.int .i64 0)) := (hWb.setCell (by simp) _).setCell (by simp) _
    have hD : ((W.setCell ⟨w.heap.size, 7, none⟩ (.int .i64 0)).setCell ⟨w.heap.size, 9, none⟩ (.int .i64 0)).heap[w.heap.size]? = some (.cells (cc (base0 m)) 23 (0, 0)) := by
      rw [heap_setCell_same _ _ _ _ _ _ (heap_setCell_same _ _ _ _ _ _ hS), cc_set, cc_set]
      rfl
    have hq : ((W.setCell ⟨w.heap.size, 7, none⟩ (.int .i64 0)).setCell ⟨w.heap.size, 9, none⟩ (.int .i64 0)).heap.size = W.heap.size := by simp [World.setCell]
    have g6 := base0_get hm 6
    have g1 := base0_get hm 1
    simp only [if_neg (show ¬ (9 : Nat) = 6 by decide), if_neg (show ¬ (7 : Nat) = 6 by decide)] at g6
    simp only [if_neg (show ¬ (9 : Nat) = 1 by decide), if_neg (show ¬ (7 : Nat) = 1 by decide)] at g1
    refine ⟨hc 7 (by omega), hc 9 (by omega), frozen_of_row _ _ _ _ _ hS, frozen_of_row _ _ _ _ _ hS, ?_⟩
    generalize (W.setCell ⟨w.heap.size, 7, none⟩ (.int .i64 0)).setCell ⟨w.heap.size, 9, none⟩ (.int .i64 0) = Y at *
    have hlt := lt_of_some hD
    refine ⟨fun o => ?_, fun o => ?_, ?_, ?_, ?_, (hB.alloc hB.size _).alloc (by have := hB.size; simp; omega) _⟩
    · rw [cells_alloc hb0 hD o 6 (by omega), g6, hA6]
    · rw [cells_alloc hb0 hD o 1 (by omega), g1, hA1]
    · rw [Below.heap_alloc _ _ _ (by simp; omega), Below.heap_alloc _ _ _ hlt]
      exact hD
    · rw [← hq]
      exact heap_alloc2_old _ _ _
    · rw [← hq]
      exact heap_alloc2_new _ _ _
  obtain ⟨A7, hA7⟩ : ∃ A7, m.getD 7 0 = A7 := ⟨_, rfl⟩
  obtain ⟨A9, hA9⟩ : ∃ A9, m.getD 9 0 = A9 := ⟨_, rfl⟩
  rw [hA7, hA9] at HF
  clear hsm hA6 hA1 hA7 hA9
  go_wp2_with (first
    | (refine wl_putW hm rfl _ _ rfl rfl rfl H2.out.1 (by rw [cc_size, hl]) ?_; intro W hW hWz hWb; obtain ⟨x7, x9, f7, f9, y6, y1, z1, z2, z3, z4⟩ := HF.out W hW hWz (hWb _ H2.out.2); have HX := Hid.mk' (And.intro z1 (And.intro z2 (And.intro z3 z4))); clear z1 z2 z3 z4 hW hWb)
    | (refine wl_load (t := 23) (fr := (0, 0)) hb0 rfl _ rfl rfl ?_ ?_; exact HX.out.1))
  clear hn
  refine (set_in (base0 m) hb0 n hn15 v _).mono ?_
  rintro e w4 ⟨rfl, hb4⟩
  have hD : ((base0 m).set n v).length = 15 := by simpa using hb0
  have H4 : Hid (w4.heap[w2.heap.size]? = some (.cells (cc los) 3 (0, 0)) ∧ w4.heap[w2.heap.size + 1]? = some (.cells (cc (his A6 A1)) 3 (0, 0)) ∧ Below w.heap.size w w4) := by
    obtain ⟨-, z2, z3, z4⟩ := HX.out
    rw [hWz] at z2 z3
    exact ⟨keep_blk hb4 z2, keep_blk hb4 z3, z4.trans (hb4.mono z4.size)⟩
  have HP : Hid ((∀ h1 : loOf n ≤ v, ∀ h2 : v ≤ hiOf (base0 m) n, ckN ((base0 m).set n v) = -1 ∧ ckE ((base0 m).set n v) = 0) ∧ (¬ (loOf n ≤ v ∧ v ≤ hiOf (base0 m) n) → ckN ((base0 m).set n v) = n ∧ ckE ((base0 m).set n v) = 10)) :=
    ⟨fun h1 h2 => edge_in HM.out.1 HM.out.2 hn15 h1 h2, fun h => edge_out HM.out.1 HM.out.2 hn15 h⟩
  clear hb4 HX HF x7 x9 f7 f9 y6 y1 hWz H2 hb0 hm
  generalize (base0 m).set n v = D at *
  have HN : Hid ((w4.alloc (.cells (cc D) 23)).heap[w4.heap.size]? = some (.cells (cc D) 23 (0, 0))) := heap_alloc_new _ _
  go_wp2_with (first
    | (refine wl_new hD rfl _ _ rfl rfl rfl rfl ?_)
    | (refine wl_load (t := 23) (fr := (0, 0)) hD rfl _ rfl rfl ?_ ?_; exact HN.out))
  refine (check_any D hD _).mono ?_
  rintro e w5 ⟨rfl, hb5⟩
  have H5 : Hid (Below w.heap.size w w5) := (H4.out.2.2.alloc H4.out.2.2.size _).trans (hb5.mono (by have := H4.out.2.2.size; simp; omega))
  have y1 : w5.cell? ⟨w2.heap.size, n, none⟩ = some (.int .i64 (loOf n)) := by
    rw [cell_of_row _ _ _ _ _ _ (keep_blk hb5 ((Below.heap_alloc _ _ _ (lt_of_some H4.out.1)).trans H4.out.1)), cc_get los n (by simpa [los] using hn15)]
    rfl
  have y2 : w5.cell? ⟨w2.heap.size + 1, n, none⟩ = some (.int .i64 (hiOf (base0 m) n)) := by
    rw [cell_of_row _ _ _ _ _ _ (keep_blk hb5 ((Below.heap_alloc _ _ _ (lt_of_some H4.out.2.1)).trans H4.out.2.1)), cc_get (his A6 A1) n (by simpa [his] using hn15), HI.out]
  have hn0 : (0 : Int) ≤ (n : Int) := Int.natCast_nonneg _
  have hn1 : (n : Int) < 15 := by omega
  generalize hiOf (base0 m) n = H at *
  generalize loOf n = L at *
  clear hb5 HN H4 HI
  by_cases h1 : L ≤ v
  · by_cases h2 : v ≤ H
    · obtain ⟨k1, k2⟩ := HP.out.1 h1 h2
      rw [k1, k2]
      clear k1 k2 HP
      go_wp2
      go_ret
      exact ⟨rfl, H5.out⟩
    · obtain ⟨k1, k2⟩ := HP.out.2 (fun h => h2 h.2)
      have h2' : decide (v ≤ H) = false := decide_eq_false h2
      rw [k1, k2]
      clear k1 k2 HP
      go_wp2
      go_ret
      exact ⟨rfl, H5.out⟩
  · obtain ⟨k1, k2⟩ := HP.out.2 (fun h => h1 h.1)
    have h1' : decide (L ≤ v) = false := decide_eq_false h1
    rw [k1, k2]
    clear k1 k2 HP
    go_wp2
    go_ret
    exact ⟨rfl, H5.out⟩

end Go.Proofs.YtmhigndplbdknaaDoor
