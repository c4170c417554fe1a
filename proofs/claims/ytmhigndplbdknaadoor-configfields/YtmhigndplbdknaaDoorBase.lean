/-
  Words for what lies in memory (a config's cells, the names' table, the library's table and error), how they last, and what the small calls on configs do, each as a contract: there, fields, Field, Set, Name, bounds, and the document's List, Of and Name. Conditions: a config has 15 numbers; of Name, that the names' table reads as it is laid.
-/
import Derived.Test.YtmhigndplbdknaaDoorRows
import Derived.Test.YtmhigndplbdknaaDoorNums
import Derived.WalkKit
import Derived.ProofKit
import Derived.OpenShut
import Derived.WalkLawsBesides
import Derived.WalkSpells
import Derived.WalkSmall
import Derived.Deep.QuietTactic
import Derived.BigQuiet
import Derived.BigRegion
import Derived.Laws.Rows
import Derived.Laws.CopyRow
import Derived.Laws.ResultCell
import Derived.Lib.LaidTab
namespace Go.Proofs.YtmhigndplbdknaaDoor
open Go.ChangeShapes Go.WideShapes Go.ChangeAt Go.RowKit

theorem ret_bool {a b : Bool} (h : a = b) : Ending.returned (.bool a) = .returned (.bool b) := by rw [h]
theorem ret_str {a b : ByteArray} (h : a = b) : Ending.returned (.string a) = .returned (.string b) := by rw [h]

/-- The names' table. -/
def nms : List ByteArray := [⟨#[99, 97, 112]⟩, ⟨#[112, 101, 114, 104, 111, 115, 116]⟩, ⟨#[116, 111, 116, 97, 108]⟩, ⟨#[113, 117, 101, 117, 101]⟩, ⟨#[119, 97, 105, 116]⟩, ⟨#[100, 114, 97, 105, 110]⟩, ⟨#[108, 105, 102, 101]⟩, ⟨#[106, 105, 116, 116, 101, 114]⟩, ⟨#[105, 100, 108, 101]⟩, ⟨#[119, 97, 114, 109]⟩, ⟨#[119, 105, 110, 100, 111, 119]⟩, ⟨#[101, 114, 114, 111, 114, 115]⟩, ⟨#[113, 117, 97, 114, 97, 110, 116, 105, 110, 101]⟩, ⟨#[98, 97, 99, 107]⟩, ⟨#[103, 117, 97, 114, 100]⟩]
def inR (n : Int) : Bool := decide (0 ≤ n ∧ n < 15)
def nm (n : Int) : ByteArray := if inR n = true then nms.getD n.toNat ⟨#[]⟩ else ⟨#[]⟩
theorem inR_nat {j : Nat} (h : j < 15) : inR j = true := by unfold inR; simp; omega
theorem inR_no {n : Int} (h : ¬ (0 ≤ n ∧ n < 15)) : inR n = false := by unfold inR; exact decide_eq_false h
theorem inR_ex {n : Int} (h : 0 ≤ n ∧ n < 15) : ∃ j : Nat, n = j ∧ j < 15 := ⟨n.toNat, by omega, by omega⟩

/-- What the program's text lays: the names' table, the library's table of powers, the library's error. -/
structure Env (w : World) : Prop where
  pos : 6 < w.heap.size
  names : ∀ j, j < 15 → w.cell? ⟨0, j, none⟩ = some (.string (nms.getD j ⟨#[]⟩))
  tab : Lib.TabIs Tryd.prog w "internal/strconv.uint64pow10" .u64 Lib.pow10Tab
  err : ∃ te pe, w.cell? ⟨3, 0, none⟩ = some (.iface te pe)
theorem gTab : Tryd.prog.globalNamed "internal/strconv.uint64pow10" = some 1 := by kernel_rfl
theorem Env.below {w w' : World} (h : Env w) (hb : Below w.heap.size w w') : Env w' := by
  have h0 := h.pos
  refine ⟨Nat.lt_of_lt_of_le h.pos hb.size, fun j hj => (hb.cell (p := ⟨0, j, none⟩) (show 0 < w.heap.size by omega)).trans (h.names j hj), ?_, ?_⟩
  · exact var?_below hb gTab (by omega) h.tab
  · obtain ⟨te, pe, hc⟩ := h.err
    exact ⟨te, pe, (hb.cell (p := ⟨3, 0, none⟩) (show 3 < w.heap.size by omega)).trans hc⟩

/-- A config's numbers as cells. -/
def cc (l : List Int) : Array Value := (l.map (Value.int .i64)).toArray
theorem cc_size (l : List Int) : (cc l).size = l.length := by simp [cc]
theorem cc_get (l : List Int) (j : Nat) (h : j < l.length) : (cc l)[j]? = some (.int .i64 (l.getD j 0)) := by
  simp [cc, List.getD, h]
theorem cc_set (l : List Int) (j : Nat) (v : Int) : (cc l).setIfInBounds j (.int .i64 v) = cc (l.set j v) := by
  apply Array.ext'
  simp [cc, List.map_set]
theorem cc_inj {l m : List Int} (h : cc l = cc m) : l = m := by
  have h1 := congrArg Array.toList h
  simp only [cc] at h1
  exact (List.map_inj_right (fun _ _ h => by injection h)).1 h1
/-- The pointers to a config's fields. -/
def pc (g : Nat) : Array Value := #[.pointer (some ⟨g, 0, none⟩), .pointer (some ⟨g, 1, none⟩), .pointer (some ⟨g, 2, none⟩), .pointer (some ⟨g, 3, none⟩), .pointer (some ⟨g, 4, none⟩), .pointer (some ⟨g, 5, none⟩), .pointer (some ⟨g, 6, none⟩), .pointer (some ⟨g, 7, none⟩), .pointer (some ⟨g, 8, none⟩), .pointer (some ⟨g, 9, none⟩), .pointer (some ⟨g, 10, none⟩), .pointer (some ⟨g, 11, none⟩), .pointer (some ⟨g, 12, none⟩), .pointer (some ⟨g, 13, none⟩), .pointer (some ⟨g, 14, none⟩)]
theorem pc_get (g j : Nat) (h : j < 15) : (pc g)[j]? = some (.pointer (some ⟨g, j, none⟩)) := by
  match j, h with
  | 0, _ | 1, _ | 2, _ | 3, _ | 4, _ | 5, _ | 6, _ | 7, _ | 8, _ | 9, _ | 10, _ | 11, _ | 12, _ | 13, _ | 14, _ => rfl
theorem fifteen {l : List Int} (h : l.length = 15) : ∃ c0 c1 c2 c3 c4 c5 c6 c7 c8 c9 c10 c11 c12 c13 c14, l = [c0, c1, c2, c3, c4, c5, c6, c7, c8, c9, c10, c11, c12, c13, c14] := by
  match l, h with
  | [c0, c1, c2, c3, c4, c5, c6, c7, c8, c9, c10, c11, c12, c13, c14], _ => exact ⟨c0, c1, c2, c3, c4, c5, c6, c7, c8, c9, c10, c11, c12, c13, c14, rfl⟩

theorem run_idx (g j : Nat) (h : j < 15) (w : World) : (Instr.index 52 (.agg (pc g)) (.int .i64 j)).run Tryd.prog w = .ok (.pointer (some ⟨g, j, none⟩)) w := by
  have h1 : (0 : Int) ≤ (j : Int) ∧ (j : Int) < (15 : Nat) := by omega
  have hu : Tryd.prog.underlying 52 = some (.array 15 51) := Tryd.underlying52
  unfold Instr.index
  simp only [Sem.run_bind, asIntOf, Sem.run_pure, Result.andThen_ok, run_underlying hu, if_pos h1, Tryd.sizeOf51, Int.toNat_natCast, Nat.mul_one]
  unfold part
  simp only [Sem.run_bind, Tryd.isAgg51, Result.andThen_ok, pc_get g j h]
  rfl
/-- A whole config is loaded of its block. -/
theorem run_cfg {l : List Int} (hl : l.length = 15) {w : World} {g : Nat} {t : TypeId} {fr : Nat × Nat} (hg : w.heap[g]? = some (.cells (cc l) t fr)) : (loadVar 23 ⟨g, 0, none⟩).run Tryd.prog w = .ok (.agg (cc l)) w :=
  run_loadVar_row w g t 23 (cc l) fr _ hg Tryd.underlying23 rfl (by rw [cc_size, hl]; kernel_rfl)

theorem there_any (n : Int) (w : World) :
    Calls Tryd.prog 25 #[.int .i64 n] w fun e w' => e = .returned (.bool (inR n)) ∧ w' = w := by
  by_cases h1 : 0 ≤ n
  · by_cases h2 : n < 15
    · go_enter Tryd.func25, Tryd.ntmps25
      go_wp2
      go_ret
      exact ⟨ret_bool (by unfold inR; simp; omega), rfl⟩
    · have hb : decide (n < 15) = false := by simpa using h2
      go_enter Tryd.func25, Tryd.ntmps25
      go_wp2
      go_ret
      exact ⟨ret_bool (by rw [inR_no (by omega)]), rfl⟩
  · have hb : decide (0 ≤ n) = false := by simpa using h1
    go_enter Tryd.func25, Tryd.ntmps25
    go_wp2
    go_ret
    exact ⟨ret_bool (by rw [inR_no (by omega)]), rfl⟩

set_option maxRecDepth 100000 in
set_option maxHeartbeats 4000000 in
theorem fields_any (g : Nat) (w : World) :
    Calls Tryd.prog 24 #[.pointer (some ⟨g, 0, none⟩)] w fun e w' => e = .returned (.agg (pc g)) ∧ Below w.heap.size w w' := by
  go_enter Tryd.func24, Tryd.ntmps24
  go_wp2
  go_region
  go_wp2
  refine bodyPost_ret (v := .agg (pc g)) ?_ rfl ⟨rfl, ((Below.refl _ _).alloc (Nat.le_refl _) _).drew⟩
  exact results_cell_row Tryd.results24 _ _ w.heap.size 52 (pc g) (0, 0) _ rfl (heap_alloc_new _ _) Tryd.underlying52 rfl (by kernel_rfl)

end Go.Proofs.YtmhigndplbdknaaDoor
