/-
  What the rows' lists of variables give the walks: the tables of package front, cell by cell; and that the heap which the program's own start-up leaves meets those lists. No conditions.
-/
import Derived.Test.YtegjaoaoiojhfaaDoorFront
import Derived.Test.YtegjaoaoiojhfaaDoorTie
import Derived.ProofKit
import Derived.LaidMore
import Derived.OpenShut
import Derived.Stop.Joined
import Derived.Stop.LaidErr
namespace Go.Proofs.YtegjaoaoiojhfaaDoor
open Go.ChangeShapes Go.WideShapes Go.ChangeAt Go.RowKit

theorem gNames : Tryd.prog.globalNamed "hostler/front.names" = some 0 := by kernel_rfl
theorem gTab : Tryd.prog.globalNamed "hostler/front.table" = some 1 := by kernel_rfl
theorem gCols : Tryd.prog.globalNamed "hostler/front.columns" = some 2 := by kernel_rfl
theorem tNames : (Tryd.prog.globals[0]?).map (·.type) = some 61 := by kernel_rfl
theorem tTab : (Tryd.prog.globals[1]?).map (·.type) = some 67 := by kernel_rfl
theorem tCols : (Tryd.prog.globals[2]?).map (·.type) = some 68 := by kernel_rfl
theorem cells3 : Tryd.prog.cellsOf 3 = 1 := by kernel_rfl
theorem cells9 : Tryd.prog.cellsOf 9 = 1 := by kernel_rfl
theorem cells61 : Tryd.prog.cellsOf 61 = 7 := by kernel_rfl
theorem cells65 : Tryd.prog.cellsOf 65 = 2 := by kernel_rfl
theorem cells66 : Tryd.prog.cellsOf 66 = 12 := by kernel_rfl
theorem cells67 : Tryd.prog.cellsOf 67 = 84 := by kernel_rfl
theorem cells68 : Tryd.prog.cellsOf 68 = 9 := by kernel_rfl

def laidL : List (String × DataW Unit) := [("hostler/front.columns", Rows.laid_hostler_front_columns), ("hostler/front.table", Rows.laid_hostler_front_table)]
def laidE : List (String × DataW Unit) := [("hostler/front.columns", Rows.laid_hostler_front_columns), ("hostler/front.table", Rows.laid_hostler_front_table), ("hostler/front.names", Rows.laid_hostler_front_names)]

theorem door_met (os : Os) (args : Array Value) : laidMetH Tryd.prog laidL ((World.doorLaid Tryd.prog 200 os).forCall (fun _ _ => 0) ⟨#[], args, []⟩).memory :=
  laidMetH_of_parts3 (fuel := 8) (laidMet_of_run' 8 (by kernel_rfl) (by kernel_rfl)) (by kernel_rfl) (by kernel_rfl)
theorem door_metE (os : Os) (args : Array Value) : laidMetH Tryd.prog laidE ((World.doorLaid Tryd.prog 200 os).forCall (fun _ _ => 0) ⟨#[], args, []⟩).memory :=
  laidMetH_of_parts3 (fuel := 8) (laidMet_of_run' 8 (by kernel_rfl) (by kernel_rfl)) (by kernel_rfl) (by kernel_rfl)

/-- The table of the states' names. -/
structure Nams (w : World) : Prop where
  pos : 0 < w.heap.size
  at_ : ∀ j, j < 7 → w.cell? ⟨0, j, none⟩ = some (.string (nms.getD j ⟨#[]⟩))
theorem Nams.below {w w' : World} (h : Nams w) (hb : Below w.heap.size w w') : Nams w' :=
  ⟨Nat.lt_of_lt_of_le h.pos hb.size, fun j hj => (hb.cell (p := ⟨0, j, none⟩) h.pos).trans (h.at_ j hj)⟩

set_option maxRecDepth 100000 in
theorem names_of {W : World} {r : List (String × DataW Unit)} (h : laidMet Tryd.prog (("hostler/front.names", Rows.laid_hostler_front_names) :: r) W) : Nams W := by
  obtain ⟨ps, ⟨g0, t0, cs0, f0, p0, q0, hg0, ht0, hv0, hd0, _, _⟩, _, _⟩ := h
  obtain rfl := Option.some.inj (gNames.symm.trans hg0)
  obtain rfl := Option.some.inj (tNames.symm.trans ht0)
  obtain ⟨xs, m, rfl, hx, hlen, hn9, hel⟩ := DataW.trod_array Tryd.underlying61 hd0
  rw [cells61] at hlen
  simp only [cells9, Nat.mul_one] at hel
  simp only [Prod.mk.injEq] at hx
  have hcell := World.var?_cell hg0 hv0
  have hpos : 0 < W.heap.size := by
    have h0 := hcell 0
    have hs9 : cs0.size = 7 := by simpa using hlen
    have : cs0[0]? = some (cs0[0]'(by omega)) := by simp
    rw [this] at h0
    exact World.block_lt_of_cell? W ⟨0, 0, none⟩ h0
  refine ⟨hpos, fun j hj => ?_⟩
  have hj' := hel j hj
  have hcs : j < cs0.toList.length := by omega
  have e1 : (cs0.toList.drop j).take 1 = [cs0.toList[j]] := by
    rw [List.drop_eq_getElem_cons hcs]
    rfl
  rw [e1, List.getElem?_eq_getElem (by omega)] at hj'
  obtain ⟨s, e2, e3, _⟩ := DataW.trod_string Tryd.underlying9 hj'
  have hc := hcell j
  have e4 : cs0[j]? = some (.string s) := by
    simp only [List.cons.injEq, and_true] at e2
    rw [← Array.getElem?_toList, List.getElem?_eq_getElem hcs, e2]
  rw [hc, e4]
  have hxj : (xs.map (·.1))[j]? = some (.lit (.string s.data.toList)) := by
    rw [List.getElem?_map, List.getElem?_eq_getElem (by omega), e3]
    rfl
  have hd := hx.1
  unfold Rows.laid_hostler_front_names at hd
  simp only [DataW.agg.injEq] at hd
  rw [← hd] at hxj
  congr 2
  match j, hj with
  | 0, _ | 1, _ | 2, _ | 3, _ | 4, _ | 5, _ | 6, _ => simp at hxj; exact (by cases s; simp_all [nms])

set_option maxRecDepth 100000 in
theorem cols_of {W : World} {r : List (String × DataW Unit)} (h : laidMet Tryd.prog (("hostler/front.columns", Rows.laid_hostler_front_columns) :: r) W) : 2 < W.heap.size ∧ ∀ j, j < 9 → W.cell? ⟨2, j, none⟩ = some (.int .i64 (cols.getD j 0)) := by
  obtain ⟨ps, ⟨g0, t0, cs0, f0, p0, q0, hg0, ht0, hv0, hd0, _, _⟩, _, _⟩ := h
  obtain rfl := Option.some.inj (gCols.symm.trans hg0)
  obtain rfl := Option.some.inj (tCols.symm.trans ht0)
  obtain ⟨xs, m, rfl, hx, hlen, hn9, hel⟩ := DataW.trod_array Tryd.underlying68 hd0
  rw [cells68] at hlen
  simp only [cells3, Nat.mul_one] at hel
  simp only [Prod.mk.injEq] at hx
  have hcell := World.var?_cell hg0 hv0
  have hpos : 2 < W.heap.size := by
    have h0 := hcell 0
    have hs9 : cs0.size = 9 := by simpa using hlen
    have : cs0[0]? = some (cs0[0]'(by omega)) := by simp
    rw [this] at h0
    exact World.block_lt_of_cell? W ⟨2, 0, none⟩ h0
  refine ⟨hpos, fun j hj => ?_⟩
  have hj' := hel j hj
  have hcs : j < cs0.toList.length := by omega
  have e1 : (cs0.toList.drop j).take 1 = [cs0.toList[j]] := by
    rw [List.drop_eq_getElem_cons hcs]
    rfl
  rw [e1, List.getElem?_eq_getElem (by omega)] at hj'
  obtain ⟨s, e2, e3, _⟩ := DataW.trod_int Tryd.underlying3 hj'
  have hc := hcell j
  have e4 : cs0[j]? = some (.int .i64 s) := by
    simp only [List.cons.injEq, and_true] at e2
    rw [← Array.getElem?_toList, List.getElem?_eq_getElem hcs, e2]
  rw [hc, e4]
  have hxj : (xs.map (·.1))[j]? = some (.lit (.int .i64 s)) := by
    rw [List.getElem?_map, List.getElem?_eq_getElem (by omega), e3]
    rfl
  have hd := hx.1
  unfold Rows.laid_hostler_front_columns at hd
  simp only [DataW.agg.injEq] at hd
  rw [← hd] at hxj
  congr 2
  match j, hj with
  | 0, _ | 1, _ | 2, _ | 3, _ | 4, _ | 5, _ | 6, _ | 7, _ | 8, _ => simp at hxj; subst hxj; rfl

theorem pick1 (L : List Value) (a m b c : Nat) (v : Value) (hb : b + c < m) (hc : c < 2) (hv : L[a + b + c]? = some v) : ((((((L.drop a).take m).drop b).take 2).drop c).take 1) = [v] := by
  apply List.ext_getElem?
  intro q
  rw [List.getElem?_take, List.getElem?_drop, List.getElem?_take, List.getElem?_drop, List.getElem?_take, List.getElem?_drop]
  match q with
  | 0 => simp [hc, hb, ← Nat.add_assoc, hv]
  | q + 1 => simp

set_option maxRecDepth 100000 in
theorem tab_of {W : World} {r : List (String × DataW Unit)} (h : laidMet Tryd.prog (("hostler/front.table", Rows.laid_hostler_front_table) :: r) W) : ∀ j, j < 84 → W.cell? ⟨1, j, none⟩ = some (.int .i64 (tab.getD j 0)) := by
  obtain ⟨ps, ⟨g0, t0, cs0, f0, p0, q0, hg0, ht0, hv0, hd0, _, _⟩, _, _⟩ := h
  obtain rfl := Option.some.inj (gTab.symm.trans hg0)
  obtain rfl := Option.some.inj (tTab.symm.trans ht0)
  obtain ⟨xs, m, rfl, hx, hlen, hn4, hel⟩ := DataW.trod_array Tryd.underlying67 hd0
  rw [cells67] at hlen
  simp only [cells66] at hel
  simp only [Prod.mk.injEq] at hx
  have hcell := World.var?_cell hg0 hv0
  have hd := hx.1
  unfold Rows.laid_hostler_front_table at hd
  simp only [DataW.agg.injEq] at hd
  have key : ∀ i, i < 7 → ∀ k, k < 6 → ∃ n n' row, (xs.map (·.1))[i]? = some (.agg row) ∧ row[k]? = some (.agg [.lit (.int .i64 n), .lit (.int .i64 n')]) ∧ W.cell? ⟨1, i * 12 + k * 2, none⟩ = some (.int .i64 n) ∧ W.cell? ⟨1, i * 12 + k * 2 + 1, none⟩ = some (.int .i64 n') := by
    intro i hi k hk
    have hi' := hel i hi
    rw [List.getElem?_eq_getElem (by omega)] at hi'
    obtain ⟨ys, m', hm', hy, hl7, hn7, hey⟩ := DataW.trod_array Tryd.underlying66 hi'
    simp only [cells65] at hey
    have hk' := hey k hk
    rw [List.getElem?_eq_getElem (by omega)] at hk'
    obtain ⟨y0, y1, n9, hz, _, hz0, hz1⟩ := trod_struct2 Tryd.underlying65 hk'
    rw [show Tryd.prog.cellsOf 3 = 1 from cells3] at hz0 hz1
    have hcs : i * 12 + k * 2 < cs0.toList.length := by omega
    have hcs1 : i * 12 + k * 2 + 1 < cs0.toList.length := by omega
    have p0 := pick1 cs0.toList (i * 12) 12 (k * 2) 0 _ (by omega) (by omega) (List.getElem?_eq_getElem hcs)
    have p1 := pick1 cs0.toList (i * 12) 12 (k * 2) 1 _ (by omega) (by omega) (List.getElem?_eq_getElem hcs1)
    have hz0' := p0 ▸ hz0
    have hz1' := p1 ▸ hz1
    obtain ⟨n, e2, e3, _⟩ := DataW.trod_int Tryd.underlying3 hz0'
    obtain ⟨n', e2', e3', _⟩ := DataW.trod_int Tryd.underlying3 hz1'
    refine ⟨n, n', ys.map (·.1), ?_, ?_, ?_, ?_⟩
    · rw [List.getElem?_map, List.getElem?_eq_getElem (by omega), hy]
      rfl
    · rw [List.getElem?_map, List.getElem?_eq_getElem (by omega), hz, e3, e3']
      rfl
    · have hc := hcell (i * 12 + k * 2)
      simp only [List.cons.injEq, and_true] at e2
      rw [hc, ← Array.getElem?_toList, List.getElem?_eq_getElem hcs, e2]
    · have hc := hcell (i * 12 + k * 2 + 1)
      simp only [List.cons.injEq, and_true] at e2'
      rw [hc, ← Array.getElem?_toList, List.getElem?_eq_getElem hcs1, e2']
  intro j hj
  obtain ⟨n, n', row, k1, k2, k3, k4⟩ := key (j / 12) (by omega) (j % 12 / 2) (by omega)
  rw [← hd] at k1
  clear key hcell hel hx hd hlen hn4 hd0 hv0 ht0 hg0
  have fin : ∀ (i k : Nat), i < 7 → k < 6 → ∀ (n n' : Int) (row : List (DataW Unit)), ((match (Rows.laid_hostler_front_table : DataW Unit) with | .agg l => l | _ => []) : List (DataW Unit))[i]? = some (.agg row) →
      row[k]? = some (.agg [.lit (.int .i64 n), .lit (.int .i64 n')]) → n = tab.getD (i * 12 + k * 2) 0 ∧ n' = tab.getD (i * 12 + k * 2 + 1) 0 := by
    intro i k hi hk n n' row h1 h2
    unfold Rows.laid_hostler_front_table at h1
    match i, hi with
    | 0, _ | 1, _ | 2, _ | 3, _ | 4, _ | 5, _ | 6, _ =>
      simp at h1
      subst h1
      match k, hk with
      | 0, _ | 1, _ | 2, _ | 3, _ | 4, _ | 5, _ => simp at h2; obtain ⟨rfl, rfl⟩ := h2; exact ⟨rfl, rfl⟩
  have hf := fin (j / 12) (j % 12 / 2) (by omega) (by omega) n n' row k1 k2
  rcases Nat.mod_two_eq_zero_or_one j with hm | hm
  · have e : j / 12 * 12 + j % 12 / 2 * 2 = j := by omega
    rw [e] at k3 hf
    rw [k3, hf.1]
  · have e : j / 12 * 12 + j % 12 / 2 * 2 + 1 = j := by omega
    rw [e] at k4 hf
    rw [k4, hf.2]

theorem tabs_of_laid {W : World} (h : laidMetH Tryd.prog laidL W) : Tabs W := by
  rw [MakeChecks.laidMetH_plain _ _ _ (by kernel_rfl)] at h
  obtain ⟨h1, h2⟩ := cols_of h
  exact ⟨h1, tab_of (laidMet.tail h), h2⟩

theorem tabs_of_laidE {W : World} (h : laidMetH Tryd.prog laidE W) : Tabs W ∧ Nams W := by
  rw [MakeChecks.laidMetH_plain _ _ _ (by kernel_rfl)] at h
  obtain ⟨h1, h2⟩ := cols_of h
  exact ⟨⟨h1, tab_of (laidMet.tail h), h2⟩, names_of (laidMet.tail (laidMet.tail h))⟩

end Go.Proofs.YtegjaoaoiojhfaaDoor
