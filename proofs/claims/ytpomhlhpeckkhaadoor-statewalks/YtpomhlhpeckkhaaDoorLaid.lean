/-
  What the rows' lists of variables give the walks: the tables of package state, cell by cell; and that the heap which the program's own start-up leaves meets those lists. No conditions.
-/
import Derived.Test.YtpomhlhpeckkhaaDoorMem
import Derived.Test.YtpomhlhpeckkhaaDoorTie
import Derived.ProofKit
import Derived.LaidMore
import Derived.OpenShut
import Derived.Stop.Joined
import Derived.Stop.LaidErr
namespace Go.Proofs.YtpomhlhpeckkhaaDoor
open Go.ChangeShapes Go.WideShapes Go.ChangeAt Go.RowKit

theorem own : ownKnob Tryd.prog.godebug = none := by kernel_rfl
theorem laidOut : laidOutB Tryd.prog = true := by kernel_rfl
theorem gLeads : Tryd.prog.globalNamed "hostler/state.leads" = some 0 := by kernel_rfl
theorem gNames : Tryd.prog.globalNamed "hostler/state.names" = some 1 := by kernel_rfl
theorem gEvs : Tryd.prog.globalNamed "hostler/state.eventNames" = some 2 := by kernel_rfl
theorem tLeads : (Tryd.prog.globals[0]?).map (·.type) = some 39 := by kernel_rfl
theorem tNames : (Tryd.prog.globals[1]?).map (·.type) = some 40 := by kernel_rfl
theorem tEvs : (Tryd.prog.globals[2]?).map (·.type) = some 42 := by kernel_rfl
theorem cells3 : Tryd.prog.cellsOf 3 = 1 := by kernel_rfl
theorem cells9 : Tryd.prog.cellsOf 9 = 1 := by kernel_rfl
theorem cells38 : Tryd.prog.cellsOf 38 = 7 := by kernel_rfl
theorem cells39 : Tryd.prog.cellsOf 39 = 28 := by kernel_rfl
theorem cells40 : Tryd.prog.cellsOf 40 = 4 := by kernel_rfl
theorem cells42 : Tryd.prog.cellsOf 42 = 7 := by kernel_rfl

def laidL : List (String × DataW Unit) := [("hostler/state.leads", Rows.laid_hostler_state_leads), ("hostler/state.names", Rows.laid_hostler_state_names)]
def laidE : List (String × DataW Unit) := [("hostler/state.leads", Rows.laid_hostler_state_leads), ("hostler/state.names", Rows.laid_hostler_state_names), ("hostler/state.eventNames", Rows.laid_hostler_state_eventNames)]

theorem door_met (os : Os) (args : Array Value) : laidMetH Tryd.prog laidL ((World.doorLaid Tryd.prog 40 os).forCall (fun _ _ => 0) ⟨#[], args, []⟩).memory :=
  laidMetH_of_parts3 (fuel := 8) (laidMet_of_run' 8 (by kernel_rfl) (by kernel_rfl)) (by kernel_rfl) (by kernel_rfl)
theorem door_metE (os : Os) (args : Array Value) : laidMetH Tryd.prog laidE ((World.doorLaid Tryd.prog 40 os).forCall (fun _ _ => 0) ⟨#[], args, []⟩).memory :=
  laidMetH_of_parts3 (fuel := 8) (laidMet_of_run' 8 (by kernel_rfl) (by kernel_rfl)) (by kernel_rfl) (by kernel_rfl)

set_option maxRecDepth 100000 in
theorem names_of {W : World} {r : List (String × DataW Unit)} (h : laidMet Tryd.prog (("hostler/state.names", Rows.laid_hostler_state_names) :: r) W) : 1 < W.heap.size ∧ ∀ j, j < 4 → W.cell? ⟨1, j, none⟩ = some (.string (nms.getD j ⟨#[]⟩)) := by
  obtain ⟨ps, ⟨g0, t0, cs0, f0, p0, q0, hg0, ht0, hv0, hd0, _, _⟩, _, _⟩ := h
  obtain rfl := Option.some.inj (gNames.symm.trans hg0)
  obtain rfl := Option.some.inj (tNames.symm.trans ht0)
  obtain ⟨xs, m, rfl, hx, hlen, hn9, hel⟩ := DataW.trod_array Tryd.underlying40 hd0
  rw [cells40] at hlen
  simp only [cells9, Nat.mul_one] at hel
  simp only [Prod.mk.injEq] at hx
  have hcell := World.var?_cell hg0 hv0
  have hpos : 1 < W.heap.size := by
    have h0 := hcell 0
    have hs9 : cs0.size = 4 := by simpa using hlen
    have : cs0[0]? = some (cs0[0]'(by omega)) := by simp
    rw [this] at h0
    exact World.block_lt_of_cell? W ⟨1, 0, none⟩ h0
  refine ⟨hpos, fun j hj => ?_⟩
  have hj' := hel j hj
  have hcs : j < cs0.toList.length := by omega
  have e1 : (cs0.toList.drop j).take 1 = [cs0.toList[j]] := by
    rw [List.drop_eq_getElem_cons hcs]
    rfl
  rw [e1, List.getElem?_eq_getElem (by omega)] at hj'
  obtain ⟨s, e2, e3, _⟩ := DataW.trod_string Tryd.underlying9 hj'
  have hc := hcell j
  have e4 : cs0[j]? = some (.string s) := by
    simp only [List.cons.injEq, and_true] at e2
    rw [← Array.getElem?_toList, List.getElem?_eq_getElem hcs, e2]
  rw [hc, e4]
  have hxj : (xs.map (·.1))[j]? = some (.lit (.string s.data.toList)) := by
    rw [List.getElem?_map, List.getElem?_eq_getElem (by omega), e3]
    rfl
  have hd := hx.1
  unfold Rows.laid_hostler_state_names at hd
  simp only [DataW.agg.injEq] at hd
  rw [← hd] at hxj
  congr 2
  match j, hj with
  | 0, _ | 1, _ | 2, _ | 3, _ => simp at hxj; exact (by cases s; simp_all [nms])

set_option maxRecDepth 100000 in
theorem evs_of {W : World} {r : List (String × DataW Unit)} (h : laidMet Tryd.prog (("hostler/state.eventNames", Rows.laid_hostler_state_eventNames) :: r) W) : Evs W := by
  obtain ⟨ps, ⟨g0, t0, cs0, f0, p0, q0, hg0, ht0, hv0, hd0, _, _⟩, _, _⟩ := h
  obtain rfl := Option.some.inj (gEvs.symm.trans hg0)
  obtain rfl := Option.some.inj (tEvs.symm.trans ht0)
  obtain ⟨xs, m, rfl, hx, hlen, hn9, hel⟩ := DataW.trod_array Tryd.underlying42 hd0
  rw [cells42] at hlen
  simp only [cells9, Nat.mul_one] at hel
  simp only [Prod.mk.injEq] at hx
  have hcell := World.var?_cell hg0 hv0
  have hpos : 2 < W.heap.size := by
    have h0 := hcell 0
    have hs9 : cs0.size = 7 := by simpa using hlen
    have : cs0[0]? = some (cs0[0]'(by omega)) := by simp
    rw [this] at h0
    exact World.block_lt_of_cell? W ⟨2, 0, none⟩ h0
  refine ⟨hpos, fun j hj => ?_⟩
  have hj' := hel j hj
  have hcs : j < cs0.toList.length := by omega
  have e1 : (cs0.toList.drop j).take 1 = [cs0.toList[j]] := by
    rw [List.drop_eq_getElem_cons hcs]
    rfl
  rw [e1, List.getElem?_eq_getElem (by omega)] at hj'
  obtain ⟨s, e2, e3, _⟩ := DataW.trod_string Tryd.underlying9 hj'
  have hc := hcell j
  have e4 : cs0[j]? = some (.string s) := by
    simp only [List.cons.injEq, and_true] at e2
    rw [← Array.getElem?_toList, List.getElem?_eq_getElem hcs, e2]
  rw [hc, e4]
  have hxj : (xs.map (·.1))[j]? = some (.lit (.string s.data.toList)) := by
    rw [List.getElem?_map, List.getElem?_eq_getElem (by omega), e3]
    rfl
  have hd := hx.1
  unfold Rows.laid_hostler_state_eventNames at hd
  simp only [DataW.agg.injEq] at hd
  rw [← hd] at hxj
  congr 2
  match j, hj with
  | 0, _ | 1, _ | 2, _ | 3, _ | 4, _ | 5, _ | 6, _ => simp at hxj; exact (by cases s; simp_all [evs])

set_option maxRecDepth 100000 in
theorem leads_of {W : World} {r : List (String × DataW Unit)} (h : laidMet Tryd.prog (("hostler/state.leads", Rows.laid_hostler_state_leads) :: r) W) : ∀ j, j < 28 → W.cell? ⟨0, j, none⟩ = some (.int .i64 (tab.getD j 0)) := by
  obtain ⟨ps, ⟨g0, t0, cs0, f0, p0, q0, hg0, ht0, hv0, hd0, _, _⟩, _, _⟩ := h
  obtain rfl := Option.some.inj (gLeads.symm.trans hg0)
  obtain rfl := Option.some.inj (tLeads.symm.trans ht0)
  obtain ⟨xs, m, rfl, hx, hlen, hn4, hel⟩ := DataW.trod_array Tryd.underlying39 hd0
  rw [cells39] at hlen
  simp only [cells38] at hel
  simp only [Prod.mk.injEq] at hx
  have hcell := World.var?_cell hg0 hv0
  have hd := hx.1
  unfold Rows.laid_hostler_state_leads at hd
  simp only [DataW.agg.injEq] at hd
  have key : ∀ i, i < 4 → ∀ k, k < 7 → ∃ n row, (xs.map (·.1))[i]? = some (.agg row) ∧ row[k]? = some (.lit (.int .i64 n)) ∧ W.cell? ⟨0, i * 7 + k, none⟩ = some (.int .i64 n) := by
    intro i hi k hk
    have hi' := hel i hi
    rw [List.getElem?_eq_getElem (by omega)] at hi'
    obtain ⟨ys, m', hm', hy, hl7, hn7, hey⟩ := DataW.trod_array Tryd.underlying38 hi'
    simp only [cells3, Nat.mul_one] at hey
    have hk' := hey k hk
    have hcs : i * 7 + k < cs0.toList.length := by omega
    have e1 : (((cs0.toList.drop (i * 7)).take 7).drop k).take 1 = [cs0.toList[i * 7 + k]] := by
      apply List.ext_getElem?
      intro q
      rw [List.getElem?_take, List.getElem?_drop, List.getElem?_take, List.getElem?_drop]
      match q with
      | 0 => simp [hk]
      | q + 1 => simp
    rw [e1, List.getElem?_eq_getElem (by omega)] at hk'
    obtain ⟨n, e2, e3, _⟩ := DataW.trod_int Tryd.underlying3 hk'
    refine ⟨n, ys.map (·.1), ?_, ?_, ?_⟩
    · rw [List.getElem?_map, List.getElem?_eq_getElem (by omega), hy]
      rfl
    · rw [List.getElem?_map, List.getElem?_eq_getElem (by omega), e3]
      rfl
    · have hc := hcell (i * 7 + k)
      simp only [List.cons.injEq, and_true] at e2
      rw [hc, ← Array.getElem?_toList, List.getElem?_eq_getElem hcs, e2]
  intro j hj
  obtain ⟨n, row, k1, k2, k3⟩ := key (j / 7) (by omega) (j % 7) (by omega)
  have ej : j / 7 * 7 + j % 7 = j := by omega
  rw [ej] at k3
  rw [k3]
  rw [← hd] at k1
  clear ej k3 key hcell hel hx hd hlen hn4 hd0 hv0 ht0 hg0
  have fin : ∀ (i k : Nat), i < 4 → k < 7 → ∀ (n : Int) (row : List (DataW Unit)), ([DataW.agg [.lit (.int .i64 1), .lit (.int .i64 (-1)), .lit (.int .i64 2), .lit (.int .i64 (-1)), .lit (.int .i64 (-1)), .lit (.int .i64 1), .lit (.int .i64 (-1))], .agg [.lit (.int .i64 (-1)), .lit (.int .i64 0), .lit (.int .i64 (-1)), .lit (.int .i64 (-1)), .lit (.int .i64 3), .lit (.int .i64 (-1)), .lit (.int .i64 0)], .agg [.lit (.int .i64 1), .lit (.int .i64 (-1)), .lit (.int .i64 (-1)), .lit (.int .i64 0), .lit (.int .i64 (-1)), .lit (.int .i64 1), .lit (.int .i64 (-1))], .agg [.lit (.int .i64 (-1)), .lit (.int .i64 0), .lit (.int .i64 (-1)), .lit (.int .i64 (-1)), .lit (.int .i64 (-1)), .lit (.int .i64 (-1)), .lit (.int .i64 0)]] : List (DataW Unit))[i]? = some (.agg row) →
      row[k]? = some (.lit (.int .i64 n)) → n = tab.getD (i * 7 + k) 0 := by
    intro i k hi hk n row h1 h2
    match i, hi with
    | 0, _ | 1, _ | 2, _ | 3, _ =>
      simp at h1
      subst h1
      match k, hk with
      | 0, _ | 1, _ | 2, _ | 3, _ | 4, _ | 5, _ | 6, _ => simp at h2; subst h2; rfl
  have := fin (j / 7) (j % 7) (by omega) (by omega) n row k1 k2
  rw [this]
  congr 4
  omega

theorem tabs_of_laid {W : World} (h : laidMetH Tryd.prog laidL W) : Tabs W := by
  rw [MakeChecks.laidMetH_plain _ _ _ (by kernel_rfl)] at h
  obtain ⟨h1, h2⟩ := names_of (laidMet.tail h)
  exact ⟨h1, leads_of h, h2⟩

theorem tabs_of_laidE {W : World} (h : laidMetH Tryd.prog laidE W) : Tabs W ∧ Evs W := by
  rw [MakeChecks.laidMetH_plain _ _ _ (by kernel_rfl)] at h
  obtain ⟨h1, h2⟩ := names_of (laidMet.tail h)
  exact ⟨⟨h1, leads_of h, h2⟩, evs_of (laidMet.tail (laidMet.tail h))⟩

end Go.Proofs.YtpomhlhpeckkhaaDoor
