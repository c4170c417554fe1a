/-
  What the row's list of variables gives the walks: the names' table, cell by cell; and that the heap which the program's own start-up leaves meets that list. No conditions.
-/
import Derived.Test.YtoeafdjakaifdaaDoorMem
import Derived.Test.YtoeafdjakaifdaaDoorTie
import Derived.ProofKit
import Derived.LaidMore
import Derived.OpenShut
import Derived.Stop.Joined
namespace Go.Proofs.YtoeafdjakaifdaaDoor
open Go.ChangeShapes Go.WideShapes Go.ChangeAt Go.RowKit

theorem own : ownKnob Tryd.prog.godebug = none := by kernel_rfl
theorem laidOut : laidOutB Tryd.prog = true := by kernel_rfl
theorem gNames : Tryd.prog.globalNamed "hostler/frame.names" = some 0 := by kernel_rfl
theorem tNames : (Tryd.prog.globals[0]?).map (·.type) = some 52 := by kernel_rfl
theorem cells9 : Tryd.prog.cellsOf 9 = 1 := by kernel_rfl
theorem cells52 : Tryd.prog.cellsOf 52 = 9 := by kernel_rfl
theorem cells3 : Tryd.prog.cellsOf 3 = 1 := by kernel_rfl
theorem cells5 : Tryd.prog.cellsOf 5 = 1 := by kernel_rfl
theorem cells23 : Tryd.prog.cellsOf 23 = 2 := by kernel_rfl

def laidL : List (String × DataW Unit) := [("hostler/frame.names", Rows.laid_hostler_frame_names)]

theorem door_met (os : Os) (args : Array Value) : laidMetH Tryd.prog laidL ((World.doorLaid Tryd.prog 14 os).forCall (fun _ _ => 0) ⟨#[], args, []⟩).memory :=
  laidMetH_of_parts3 (fuel := 8) (laidMet_of_run' 8 (by kernel_rfl) (by kernel_rfl)) (by kernel_rfl) (by kernel_rfl)

theorem names_of_laid {W : World} (h : laidMetH Tryd.prog laidL W) : Names W := by
  rw [MakeChecks.laidMetH_plain _ _ _ (by kernel_rfl)] at h
  obtain ⟨ps, ⟨g0, t0, cs0, f0, p0, q0, hg0, ht0, hv0, hd0, _, _⟩, _, _⟩ := h
  obtain rfl := Option.some.inj (gNames.symm.trans hg0)
  obtain rfl := Option.some.inj (tNames.symm.trans ht0)
  obtain ⟨xs, m, rfl, hx, hlen, hn9, hel⟩ := DataW.trod_array Tryd.underlying52 hd0
  rw [cells52] at hlen
  simp only [cells9, Nat.mul_one] at hel
  simp only [Prod.mk.injEq] at hx
  have hcell := World.var?_cell hg0 hv0
  have hpos : 0 < W.heap.size := by
    have h0 := hcell 0
    have hs9 : cs0.size = 9 := by simpa using hlen
    have : cs0[0]? = some (cs0[0]'(by omega)) := by simp
    rw [this] at h0
    exact World.block_lt_of_cell? W ⟨0, 0, none⟩ h0
  refine ⟨hpos, fun j hj => ?_⟩
  have hj' := hel j hj
  have hcs : j < cs0.toList.length := by omega
  have e1 : (cs0.toList.drop j).take 1 = [cs0.toList[j]] := by
    rw [List.drop_eq_getElem_cons hcs]
    rfl
  rw [e1, List.getElem?_eq_getElem (by omega)] at hj'
  obtain ⟨s, e2, e3, _⟩ := DataW.trod_string Tryd.underlying9 hj'
  have hc := hcell j
  have e4 : cs0[j]? = some (.string s) := by
    simp only [List.cons.injEq, and_true] at e2
    rw [← Array.getElem?_toList, List.getElem?_eq_getElem hcs, e2]
  rw [hc, e4]
  have hxj : (xs.map (·.1))[j]? = some (.lit (.string s.data.toList)) := by
    rw [List.getElem?_map, List.getElem?_eq_getElem (by omega), e3]
    rfl
  have hd := hx.1
  unfold Rows.laid_hostler_frame_names at hd
  simp only [DataW.agg.injEq] at hd
  rw [← hd] at hxj
  congr 2
  match j, hj with
  | 0, _ => simp at hxj; exact (by cases s; simp_all [nms])
  | 1, _ => simp at hxj; exact (by cases s; simp_all [nms])
  | 2, _ => simp at hxj; exact (by cases s; simp_all [nms])
  | 3, _ => simp at hxj; exact (by cases s; simp_all [nms])
  | 4, _ => simp at hxj; exact (by cases s; simp_all [nms])
  | 5, _ => simp at hxj; exact (by cases s; simp_all [nms])
  | 6, _ => simp at hxj; exact (by cases s; simp_all [nms])
  | 7, _ => simp at hxj; exact (by cases s; simp_all [nms])
  | 8, _ => simp at hxj; exact (by cases s; simp_all [nms])

end Go.Proofs.YtoeafdjakaifdaaDoor
