/-
  What names, Waits and Under do, also of nil. Conditions: drains lie where they are said to lie, at most 5000 in a row.
-/
import Derived.Test.YtmlkpfkeeifgeaaDoorNames
namespace Go.Proofs.YtmlkpfkeeifgeaaDoor
open Go.ChangeShapes Go.WideShapes Go.ChangeAt Go.RowKit

theorem made_strs (n : Nat) : madeCells (Value.string ⟨#[]⟩).cells (n * 1) = (sc (List.replicate n ⟨#[]⟩)).toArray := by
  apply Array.ext
  · simp [madeCells, sc]
  · intro i h1 h2
    simp [madeCells, sc, Value.cells, Nat.mod_one]
theorem mk_strs (w : World) (n : Nat) (hn : n ≤ 5000) : (Instr.makeSlice 27 (.int .i64 n) (.int .i64 n)).run Tryd.prog w = .ok (.slice (some ⟨w.heap.size, 0, none⟩) n n) (w.alloc (.cells (sc (List.replicate n ⟨#[]⟩)).toArray 9)) := by
  obtain ⟨i, hi, hz0, hz1, hz2⟩ := info_parts info9
  have := run_makeSlice (P := Tryd.prog) w 27 9 i (.string ⟨#[]⟩) Tryd.underlying27 hi hz0 .i64 .i64 n n (by omega) (Int.le_refl _) (by rw [hz1]; omega) (by rw [hz2]; omega) (by omega)
  rw [hz1, Int.toNat_natCast, made_strs] at this
  exact this
theorem sc_set (K : List ByteArray) (i : Nat) (x : ByteArray) : sc (K.set i x) = (sc K).set i (.string x) := by simp [sc, List.map_set]
theorem sc_frozen {w : World} {b : Nat} {K : List ByteArray} (hg : w.heap[b]? = some (.cells (sc K).toArray 9 (0, 0))) (o : Nat) : w.frozen? ⟨b, o, none⟩ = false := by simp [World.frozen?, hg]
theorem StrsAt.of_block {w : World} {b : Nat} {K : List ByteArray} (hg : w.heap[b]? = some (.cells (sc K).toArray 9 (0, 0))) (hn : K.length ≤ 5000) : StrsAt w (some ⟨b, 0, none⟩) K.length K.length K := by
  refine ⟨rfl, Nat.le_refl _, by unfold maxLen; omega, fun j hj => ⟨b, 0, rfl, lt_of_heap hg, ?_⟩⟩
  rw [Nat.zero_add]
  exact block_cell hg hj

end Go.Proofs.YtmlkpfkeeifgeaaDoor
