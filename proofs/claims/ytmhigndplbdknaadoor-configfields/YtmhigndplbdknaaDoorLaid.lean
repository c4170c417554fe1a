/-
  What the row's list of variables gives the walks: the names' table, the library's table of powers and its error; and that the heap which the program's own start-up leaves meets that list. No conditions.
-/
import Derived.Test.YtmhigndplbdknaaDoorBase
import Derived.Test.YtmhigndplbdknaaDoorTie
import Derived.ProofKit
import Derived.LaidMore
import Derived.OpenShut
import Derived.Stop.Joined
import Derived.Stop.LaidErr
import Derived.Lib.LaidTab
namespace Go.Proofs.YtmhigndplbdknaaDoor
open Go.ChangeShapes Go.WideShapes Go.ChangeAt Go.RowKit

theorem own : ownKnob Tryd.prog.godebug = none := by kernel_rfl
theorem laidOut : laidOutB Tryd.prog = true := by kernel_rfl
theorem gNames : Tryd.prog.globalNamed "hostler/config.names" = some 0 := by kernel_rfl
theorem tNames : (Tryd.prog.globals[0]?).map (·.type) = some 56 := by kernel_rfl
theorem tTab : (Tryd.prog.globals[1]?).map (·.type) = some 90 := by kernel_rfl
theorem gErr : Tryd.prog.globalNamed "strconv.ErrSyntax" = some 3 := by kernel_rfl
theorem tErr : (Tryd.prog.globals[3]?).map (·.type) = some 68 := by kernel_rfl
theorem cells3 : Tryd.prog.cellsOf 3 = 1 := by kernel_rfl
theorem cells9 : Tryd.prog.cellsOf 9 = 1 := by kernel_rfl
theorem cells23 : Tryd.prog.cellsOf 23 = 15 := by kernel_rfl
theorem cells44 : Tryd.prog.cellsOf 44 = 2 := by kernel_rfl
theorem cells56 : Tryd.prog.cellsOf 56 = 15 := by kernel_rfl
theorem cells78 : Tryd.prog.cellsOf 78 = 1 := by kernel_rfl
theorem cells90 : Tryd.prog.cellsOf 90 = 20 := by kernel_rfl
theorem cells116 : Tryd.prog.cellsOf 116 = 1 := by kernel_rfl

def laidL : List (String × DataW Unit) := [("math/bits.deBruijn32tab", Rows.laid_math_bits_deBruijn32tab), ("math/bits.deBruijn64tab", Rows.laid_math_bits_deBruijn64tab), ("internal/strconv.uint64pow10", Rows.laid_internal_strconv_uint64pow10), ("strconv.ErrRange", Rows.laid_strconv_ErrRange), ("strconv.ErrSyntax", Rows.laid_strconv_ErrSyntax), ("hostler/config.names", Rows.laid_hostler_config_names)]

theorem door_met (os : Os) (args : Array Value) : laidMetH Tryd.prog laidL ((World.doorLaid Tryd.prog 67 os).forCall (fun _ _ => 0) ⟨#[], args, []⟩).memory :=
  laidMetH_of_parts3 (fuel := 8) (laidMet_of_run' 8 (by kernel_rfl) (by kernel_rfl)) (by kernel_rfl) (by kernel_rfl)

theorem row114 (u : TypeId) (h : Tryd.prog.typeName? 3 u = some "*errors.errorString") : u = 114 :=
  typeName_ptr_named (nm := "errors.errorString") (by kernel_rfl) (by kernel_rfl) (by decide) u h

set_option maxRecDepth 100000 in
theorem names_of {W : World} {r : List (String × DataW Unit)} (h : laidMet Tryd.prog (("hostler/config.names", Rows.laid_hostler_config_names) :: r) W) : 0 < W.heap.size ∧ ∀ j, j < 15 → W.cell? ⟨0, j, none⟩ = some (.string (nms.getD j ⟨#[]⟩)) := by
  obtain ⟨ps, ⟨g0, t0, cs0, f0, p0, q0, hg0, ht0, hv0, hd0, _, _⟩, _, _⟩ := h
  obtain rfl := Option.some.inj (gNames.symm.trans hg0)
  obtain rfl := Option.some.inj (tNames.symm.trans ht0)
  obtain ⟨xs, m, rfl, hx, hlen, hn9, hel⟩ := DataW.trod_array Tryd.underlying56 hd0
  rw [cells56] at hlen
  simp only [cells9, Nat.mul_one] at hel
  simp only [Prod.mk.injEq] at hx
  have hcell := World.var?_cell hg0 hv0
  have hpos : 0 < W.heap.size := by
    have h0 := hcell 0
    have hs9 : cs0.size = 15 := by simpa using hlen
    have : cs0[0]? = some (cs0[0]'(by omega)) := by simp
    rw [this] at h0
    exact World.block_lt_of_cell? W ⟨0, 0, none⟩ h0
  refine ⟨hpos, fun j hj => ?_⟩
  have hj' := hel j hj
  have hcs : j < cs0.toList.length := by omega
  have e1 : (cs0.toList.drop j).take 1 = [cs0.toList[j]] := by
    rw [List.drop_eq_getElem_cons hcs]
    rfl
  rw [e1, List.getElem?_eq_getElem (by omega)] at hj'
  obtain ⟨s, e2, e3, _⟩ := DataW.trod_string Tryd.underlying9 hj'
  have hc := hcell j
  have e4 : cs0[j]? = some (.string s) := by
    simp only [List.cons.injEq, and_true] at e2
    rw [← Array.getElem?_toList, List.getElem?_eq_getElem hcs, e2]
  rw [hc, e4]
  have hxj : (xs.map (·.1))[j]? = some (.lit (.string s.data.toList)) := by
    rw [List.getElem?_map, List.getElem?_eq_getElem (by omega), e3]
    rfl
  have hd := hx.1
  unfold Rows.laid_hostler_config_names at hd
  simp only [DataW.agg.injEq] at hd
  rw [← hd] at hxj
  congr 2
  match j, hj with
  | 0, _ | 1, _ | 2, _ | 3, _ | 4, _ | 5, _ | 6, _ | 7, _ | 8, _ | 9, _ | 10, _ | 11, _ | 12, _ | 13, _ | 14, _ => simp at hxj; exact (by cases s; simp_all [nms])

theorem g64 : Tryd.prog.globalNamed "math/bits.deBruijn64tab" = some 6 := by kernel_rfl
theorem size_of {W : World} {d : DataW Unit} {r : List (String × DataW Unit)} (h : laidMet Tryd.prog (("math/bits.deBruijn64tab", d) :: r) W) : 6 < W.heap.size := by
  obtain ⟨ps, ⟨g0, t0, cs0, f0, p0, q0, hg0, ht0, hv0, _⟩, _, _⟩ := h
  unfold World.var? at hv0
  rw [g64] at hv0
  simp only [Option.bind_some] at hv0
  by_cases hlt : 6 < W.heap.size
  · exact hlt
  · have : W.heap[6]? = none := Array.getElem?_eq_none (by omega)
    rw [this] at hv0
    cases hv0

theorem env_of_laid {W : World} (h : laidMetH Tryd.prog laidL W) : Env W := by
  rw [MakeChecks.laidMetH_plain _ _ _ (by kernel_rfl)] at h
  have h6 := size_of (laidMet.tail h)
  have h2 := laidMet.tail (laidMet.tail h)
  have h4 := laidMet.tail (laidMet.tail h2)
  have h5 := laidMet.tail h4
  obtain ⟨_, hn⟩ := names_of h5
  refine ⟨h6, hn, ?_, ?_⟩
  · exact Lib.tabIs_of_head gTab tTab Tryd.underlying90 Tryd.underlying78 cells78 cells90 h2
  · obtain ⟨a, s, hv, -, -, -⟩ := laid_sentinel h4 gErr tErr Tryd.underlying68 row114 Tryd.underlying114 Tryd.underlying116 rfl rfl Tryd.underlying9 cells116 cells9
    have := World.var?_cell gErr hv 0
    exact ⟨114, .pointer (some a), this⟩

end Go.Proofs.YtmhigndplbdknaaDoor
