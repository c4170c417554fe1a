/-
  The states' names: what Name answers, the program's (which looks into its table) and the document's; what the rows' list of variables gives the walks, and that the program's own start-up meets it. Conditions: the table reads as it is laid.
-/
import Derived.Test.YtnbpkjfaopfapaaDoorMem
import Derived.Test.YtnbpkjfaopfapaaDoorTie
import Derived.ProofKit
import Derived.LaidMore
import Derived.OpenShut
import Derived.Stop.Joined
import Derived.Stop.LaidErr
namespace Go.Proofs.YtnbpkjfaopfapaaDoor
open Go.ChangeShapes Go.WideShapes Go.ChangeAt Go.RowKit

def nms : List ByteArray := [⟨#[100, 105, 97, 108, 105, 110, 103]⟩, ⟨#[103, 114, 101, 101, 116, 105, 110, 103]⟩, ⟨#[105, 100, 108, 101]⟩, ⟨#[98, 117, 115, 121]⟩, ⟨#[100, 101, 97, 100]⟩]
def nm (s : Int) : ByteArray := if 0 ≤ s ∧ s ≤ 4 then nms.getD s.toNat ⟨#[]⟩ else ⟨#[]⟩
theorem nm_out {s : Int} (h : ¬ (0 ≤ s ∧ s ≤ 4)) : nm s = ⟨#[]⟩ := if_neg h
theorem ret_str {a b : ByteArray} (h : a = b) : Ending.returned (.string a) = .returned (.string b) := by rw [h]

/-- The table of the states' names. -/
structure Tabs (w : World) : Prop where
  pos : 0 < w.heap.size
  at_ : ∀ j, j < 5 → w.cell? ⟨0, j, none⟩ = some (.string (nms.getD j ⟨#[]⟩))
theorem Tabs.below {w w' : World} (h : Tabs w) (hb : Below w.heap.size w w') : Tabs w' :=
  ⟨Nat.lt_of_lt_of_le h.pos hb.size, fun j hj => (hb.cell (p := ⟨0, j, none⟩) h.pos).trans (h.at_ j hj)⟩
theorem Tabs.keep {w w' : World} {A : Nat → Prop} (h : Tabs w) (hk : Keep A w w') (hA : A 0) : Tabs w' :=
  ⟨Nat.lt_of_lt_of_le h.pos hk.size, fun j hj => hk.cell (h.at_ j hj) hA⟩

theorem name_any (s : Int) (w : World) (hn : Tabs w) :
    Calls Tryd.prog 20 #[.int .i64 s] w fun e w' => e = .returned (.string (nm s)) ∧ w' = w := by
  by_cases hk : 0 ≤ s ∧ s ≤ 4
  · obtain ⟨j, rfl⟩ : ∃ j : Nat, s = j := ⟨s.toNat, by omega⟩
    have hc := hn.at_ j (by omega)
    have e : nm j = nms.getD j ⟨#[]⟩ := by unfold nm; rw [if_pos hk]; rfl
    rw [← e] at hc
    clear e hn
    obtain ⟨h1, h2⟩ := hk
    have h4 : (j : Int) < 5 := by omega
    go_enter Tryd.func20, Tryd.ntmps20
    go_wp2
    go_ret
    exact ⟨rfl, rfl⟩
  · rw [nm_out hk]
    clear hn
    by_cases h0 : s < 0
    · clear hk
      go_enter Tryd.func20, Tryd.ntmps20
      go_wp2
      go_ret
      exact ⟨rfl, rfl⟩
    · have h1 : 4 < s := by omega
      clear hk
      go_enter Tryd.func20, Tryd.ntmps20
      go_wp2
      go_ret
      exact ⟨rfl, rfl⟩

theorem five {k : Int} (h0 : 0 ≤ k) (h4 : k ≤ 4) : k = 0 ∨ k = 1 ∨ k = 2 ∨ k = 3 ∨ k = 4 := by omega
theorem rname_any (k : Int) (w : World) :
    Calls Tryd.prog 21 #[.int .i64 k] w fun e w' => e = .returned (.string (nm k)) ∧ Below w.heap.size w w' := by
  by_cases h1 : k < 0
  · rw [nm_out (by omega)]
    go_enter Tryd.func21, Tryd.ntmps21
    go_wp2
    go_ret
    exact ⟨rfl, Below.refl _ _⟩
  · by_cases h2 : 4 < k
    · rw [nm_out (by omega)]
      go_enter Tryd.func21, Tryd.ntmps21
      go_wp2
      go_ret
      exact ⟨rfl, Below.refl _ _⟩
    · have hk := five (show 0 ≤ k by omega) (by omega)
      clear h1 h2
      rcases hk with rfl | rfl | rfl | rfl | rfl
      all_goals
        go_enter Tryd.func21, Tryd.ntmps21
        go_wp2
        go_ret
        exact ⟨rfl, (Below.refl _ _).alloc (Nat.le_refl _) _⟩

theorem gNames : Tryd.prog.globalNamed "hostler/back.names" = some 0 := by kernel_rfl
theorem tNames : (Tryd.prog.globals[0]?).map (·.type) = some 50 := by kernel_rfl
theorem cells9 : Tryd.prog.cellsOf 9 = 1 := by kernel_rfl
theorem cells50 : Tryd.prog.cellsOf 50 = 5 := by kernel_rfl

def laidL : List (String × DataW Unit) := [("hostler/back.names", Rows.laid_hostler_back_names)]

theorem door_met (os : Os) (args : Array Value) : laidMetH Tryd.prog laidL ((World.doorLaid Tryd.prog 40 os).forCall (fun _ _ => 0) ⟨#[], args, []⟩).memory :=
  laidMetH_of_parts3 (fuel := 8) (laidMet_of_run' 8 (by kernel_rfl) (by kernel_rfl)) (by kernel_rfl) (by kernel_rfl)

set_option maxRecDepth 100000 in
theorem tabs_of_met {W : World} {r : List (String × DataW Unit)} (h : laidMet Tryd.prog (("hostler/back.names", Rows.laid_hostler_back_names) :: r) W) : Tabs W := by
  obtain ⟨ps, ⟨g0, t0, cs0, f0, p0, q0, hg0, ht0, hv0, hd0, _, _⟩, _, _⟩ := h
  obtain rfl := Option.some.inj (gNames.symm.trans hg0)
  obtain rfl := Option.some.inj (tNames.symm.trans ht0)
  obtain ⟨xs, m, rfl, hx, hlen, hn9, hel⟩ := DataW.trod_array Tryd.underlying50 hd0
  rw [cells50] at hlen
  simp only [cells9, Nat.mul_one] at hel
  simp only [Prod.mk.injEq] at hx
  have hcell := World.var?_cell hg0 hv0
  have hpos : 0 < W.heap.size := by
    have h0 := hcell 0
    have hs9 : cs0.size = 5 := by simpa using hlen
    have : cs0[0]? = some (cs0[0]'(by omega)) := by simp
    rw [this] at h0
    exact World.block_lt_of_cell? W ⟨0, 0, none⟩ h0
  refine ⟨hpos, fun j hj => ?_⟩
  have hj' := hel j hj
  have hcs : j < cs0.toList.length := by omega
  have e1 : (cs0.toList.drop j).take 1 = [cs0.toList[j]] := by
    rw [List.drop_eq_getElem_cons hcs]
    rfl
  rw [e1, List.getElem?_eq_getElem (by omega)] at hj'
  obtain ⟨s, e2, e3, _⟩ := DataW.trod_string Tryd.underlying9 hj'
  have hc := hcell j
  have e4 : cs0[j]? = some (.string s) := by
    simp only [List.cons.injEq, and_true] at e2
    rw [← Array.getElem?_toList, List.getElem?_eq_getElem hcs, e2]
  rw [hc, e4]
  have hxj : (xs.map (·.1))[j]? = some (.lit (.string s.data.toList)) := by
    rw [List.getElem?_map, List.getElem?_eq_getElem (by omega), e3]
    rfl
  have hd := hx.1
  unfold Rows.laid_hostler_back_names at hd
  simp only [DataW.agg.injEq] at hd
  rw [← hd] at hxj
  congr 2
  match j, hj with
  | 0, _ | 1, _ | 2, _ | 3, _ | 4, _ => simp at hxj; exact (by cases s; simp_all [nms])

theorem tabs_of_laid {W : World} (h : laidMetH Tryd.prog laidL W) : Tabs W := by
  rw [MakeChecks.laidMetH_plain _ _ _ (by kernel_rfl)] at h
  exact tabs_of_met h

end Go.Proofs.YtnbpkjfaopfapaaDoor
