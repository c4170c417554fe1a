/-
  What find answers: the row in which a name stands, and its place there, also of nil. Conditions: drains lie where they are said to lie.
-/
import Derived.Test.YtmlkpfkeeifgeaaDoorRow
namespace Go.Proofs.YtmlkpfkeeifgeaaDoor
open Go.ChangeShapes Go.WideShapes Go.ChangeAt Go.RowKit

/-- The names of a row. -/
def nms (L : List Dr) : List ByteArray := L.map Prod.fst
theorem nms_length (L : List Dr) : (nms L).length = L.length := List.length_map _
theorem nms_getD (L : List Dr) (i : Nat) : (nms L).getD i ⟨#[]⟩ = (nthD L i).1 := by
  unfold nms nthD
  simp only [List.getD, List.getElem?_map]
  cases L[i]? <;> rfl
/-- Does a name stand in a row? -/
def isIn (x : ByteArray) (L : List Dr) : Bool := decide (fidx x (nms L) < L.length)
theorem isIn_iff {x : ByteArray} {L : List Dr} : isIn x L = true ↔ x ∈ nms L := by
  unfold isIn
  rw [decide_eq_true_iff, ← fidx_mem, nms_length]
theorem isIn_not {x : ByteArray} {L : List Dr} : isIn x L = false ↔ x ∉ nms L := by
  rw [← isIn_iff]; cases isIn x L <;> simp
/-- The row in which a name stands; 2, if it stands in none. -/
def rowI (x : ByteArray) (L M : List Dr) : Int := if isIn x L = true then 0 else if isIn x M = true then 1 else 2
/-- Its place there. -/
def plcI (x : ByteArray) (L M : List Dr) : Int := if isIn x L = true then fidx x (nms L) else if isIn x M = true then fidx x (nms M) else -1

theorem find_nil (x : ByteArray) (w : World) : Calls Tryd.prog 88 #[.pointer none, .string x] w fun e w' => e = .returned (.tuple #[.int .i64 2, .int .i64 (-1)]) ∧ w' = w := by
  go_enter Tryd.func88, Tryd.ntmps88
  go_wp2
  go_step3
  go_wp2
  rw [Exit.noGoto_ret]
  go_ret2
  exact ⟨rfl, rfl⟩

theorem ret_pair {a b c d : Int} (h : a = b) (h' : c = d) : Ending.returned (.tuple #[.int .i64 a, .int .i64 c]) = .returned (.tuple #[.int .i64 b, .int .i64 d]) := by rw [h, h']

set_option maxHeartbeats 2000000 in
set_option maxRecDepth 100000 in
theorem find_w (w : World) (A : Nat → Prop) (g : Nat) (L M : List Dr) (x : ByteArray) (h : DIn w A g 0 L M) :
    Calls Tryd.prog 88 #[.pointer (some ⟨g, 0, none⟩), .string x] w fun e w' => e = .returned (.tuple #[.int .i64 (rowI x L M), .int .i64 (plcI x L M)]) ∧ Below w.heap.size w w' := by
  obtain ⟨a0, c0, z0, le0, m0, row0⟩ := h.row (.inl rfl)
  obtain ⟨a1, c1, z1, le1, m1, row1⟩ := h.swap0.row (.inr rfl)
  have i0 : ∀ w, (Instr.index 100 (.agg #[.slice a0 L.length c0, .slice a1 M.length c1]) (.int .i64 0)).run Tryd.prog w = .ok (.slice a0 L.length c0) w := fun _ => by kernel_rfl
  have i1 : ∀ w, (Instr.index 100 (.agg #[.slice a0 L.length c0, .slice a1 M.length c1]) (.int .i64 1)).run Tryd.prog w = .ok (.slice a1 M.length c1) w := fun _ => by kernel_rfl
  have R0 : Hid (∀ i, i < L.length → ∃ b, a0 = some ⟨b, 0, none⟩ ∧ b < w.heap.size ∧ w.cell? ⟨b, i * 2, none⟩ = some (.string (nthD L i).1) ∧ w.cell? ⟨b, i * 2 + 1, none⟩ = some (.int .i64 (nthD L i).2)) := row0
  have R1 : Hid (∀ i, i < M.length → ∃ b, a1 = some ⟨b, 0, none⟩ ∧ b < w.heap.size ∧ w.cell? ⟨b, i * 2, none⟩ = some (.string (nthD M i).1) ∧ w.cell? ⟨b, i * 2 + 1, none⟩ = some (.int .i64 (nthD M i).2)) := row1
  have E0 : Hid (isIn x L = true → rowI x L M = 0 ∧ plcI x L M = fidx x (nms L)) := fun e => by unfold rowI plcI; rw [if_pos e, if_pos e]; exact ⟨rfl, rfl⟩
  have E1 : Hid (isIn x L = false → isIn x M = true → rowI x L M = 1 ∧ plcI x L M = fidx x (nms M)) := fun e f => by unfold rowI plcI; rw [e, f]; exact ⟨rfl, rfl⟩
  have E2 : Hid (isIn x L = false → isIn x M = false → rowI x L M = 2 ∧ plcI x L M = -1) := fun e f => by unfold rowI plcI; rw [e, f]; exact ⟨rfl, rfl⟩
  have W0 : Hid ((∀ j, j < fidx x (nms L) → (nthD L j).1 ≠ x) ∧ (fidx x (nms L) < L.length → (nthD L (fidx x (nms L))).1 = x) ∧ fidx x (nms L) ≤ L.length ∧ (isIn x L = true ↔ fidx x (nms L) < L.length)) :=
    ⟨fun j hj => by rw [← nms_getD]; exact fidx_lt x _ j hj, fun hj => by rw [← nms_getD]; exact fidx_at x _ (by rw [nms_length]; exact hj), by have := fidx_le x (nms L); rwa [nms_length] at this, by unfold isIn; exact decide_eq_true_iff⟩
  have W1 : Hid ((∀ j, j < fidx x (nms M) → (nthD M j).1 ≠ x) ∧ (fidx x (nms M) < M.length → (nthD M (fidx x (nms M))).1 = x) ∧ fidx x (nms M) ≤ M.length ∧ (isIn x M = true ↔ fidx x (nms M) < M.length)) :=
    ⟨fun j hj => by rw [← nms_getD]; exact fidx_lt x _ j hj, fun hj => by rw [← nms_getD]; exact fidx_at x _ (by rw [nms_length]; exact hj), by have := fidx_le x (nms M); rwa [nms_length] at this, by unfold isIn; exact decide_eq_true_iff⟩
  unfold maxLen at m0 m1
  generalize rowI x L M = rI at *
  generalize plcI x L M = pI at *
  generalize fidx x (nms L) = F0 at *
  generalize fidx x (nms M) = F1 at *
  generalize L.length = n0 at *
  generalize M.length = n1 at *
  generalize isIn x L = q0 at *
  generalize isIn x M = q1 at *
  clear h row0 row1
  go_enter Tryd.func88, Tryd.ntmps88
  go_wp2
  go_step3
  go_wp2
  go_step3
  go_wp2
  go_loopw [20, 6, 7] (fun v20 v6 v7 wr => (v20 = .int .i64 0 ∨ (v20 = .int .i64 1 ∧ Hid (q0 = false)) ∨ (v20 = .int .i64 2 ∧ Hid (q0 = false ∧ q1 = false))) ∧ v6 = .int .i64 2 ∧ v7 = .int .i64 (-1) ∧ Below w.heap.size w wr) (fun v20 _ _ _ => 3 - (intOf v20).toNat)
  case atStart => exact ⟨.inl rfl, rfl, rfl, Below.refl _ _⟩
  case round =>
    obtain ⟨hk, rfl, rfl, hbel⟩ := hrel
    have HB : Hid (Below w.heap.size w wr) := hbel
    clear hbel z0 z1
    rcases hk with rfl | ⟨rfl, hq⟩ | ⟨rfl, hq⟩
    · go_wp2
      go_loopw [26, 6, 7] (fun v26 v6 v7 w2 => ∃ i : Nat, v26 = .int .i64 i ∧ i ≤ F0 ∧ v6 = .int .i64 2 ∧ v7 = .int .i64 (-1) ∧ Below w.heap.size w w2) (fun v26 _ _ _ => n0 + 1 - (intOf v26).toNat)
      case atStart => exact ⟨0, rfl, Nat.zero_le _, rfl, rfl, HB.out⟩
      case round =>
        clear HB
        obtain ⟨i, rfl, hi, rfl, rfl, hbel⟩ := hrel
        have hF := W0.out.2.2.1
        by_cases hin : i < n0
        · obtain ⟨b, e, hb, y1, y2⟩ := R0.out i hin
          subst e
          have x1 := (hbel.cell (p := ⟨b, i * 2, none⟩) hb).trans y1
          have x2 := (hbel.cell (p := ⟨b, i * 2 + 1, none⟩) hb).trans y2
          have HB : Hid (Below w.heap.size w (wr.alloc (.cells #[.string (nthD L i).1, .int .i64 (nthD L i).2] 118))) := hbel.alloc hbel.size _
          clear hbel y1 y2
          by_cases hc : i < F0
          · obtain ⟨e1, e2⟩ := ne_bytes (W0.out.1 i hc)
            generalize (nthD L i).1 = y at *
            generalize (nthD L i).2 = d at *
            go_wp2
            exact ⟨⟨i + 1, by simp, by omega, rfl, rfl, HB.out⟩, by simp [intOf]; omega⟩
          · obtain rfl : F0 = i := by omega
            have hx := W0.out.2.1 hin
            have HE := Hid.mk' (E0.out (W0.out.2.2.2.2 hin))
            rw [hx] at x1 HB
            generalize (nthD L F0).2 = d at *
            clear hx
            go_wp2
            rw [Exit.noGoto_ret]
            go_ret2
            exact ⟨ret_pair HE.out.1.symm HE.out.2.symm, HB.out⟩
        · obtain rfl : n0 = i := by omega
          have HQ : Hid (q0 = false) := by
            show q0 = false
            cases q0 with
            | false => rfl
            | true => have := W0.out.2.2.2.1 rfl; omega
          go_wp2
          exact ⟨⟨.inr (.inl ⟨rfl, HQ.out⟩), rfl, rfl, hbel⟩, by simp [intOf]⟩
    · go_wp2
      go_loopw [26, 6, 7] (fun v26 v6 v7 w2 => ∃ i : Nat, v26 = .int .i64 i ∧ i ≤ F1 ∧ v6 = .int .i64 2 ∧ v7 = .int .i64 (-1) ∧ Below w.heap.size w w2) (fun v26 _ _ _ => n1 + 1 - (intOf v26).toNat)
      case atStart => exact ⟨0, rfl, Nat.zero_le _, rfl, rfl, HB.out⟩
      case round =>
        clear HB
        obtain ⟨i, rfl, hi, rfl, rfl, hbel⟩ := hrel
        have hF := W1.out.2.2.1
        by_cases hin : i < n1
        · obtain ⟨b, e, hb, y1, y2⟩ := R1.out i hin
          subst e
          have x1 := (hbel.cell (p := ⟨b, i * 2, none⟩) hb).trans y1
          have x2 := (hbel.cell (p := ⟨b, i * 2 + 1, none⟩) hb).trans y2
          have HB : Hid (Below w.heap.size w (wr.alloc (.cells #[.string (nthD M i).1, .int .i64 (nthD M i).2] 118))) := hbel.alloc hbel.size _
          clear hbel y1 y2
          by_cases hc : i < F1
          · obtain ⟨e1, e2⟩ := ne_bytes (W1.out.1 i hc)
            generalize (nthD M i).1 = y at *
            generalize (nthD M i).2 = d at *
            go_wp2
            exact ⟨⟨i + 1, by simp, by omega, rfl, rfl, HB.out⟩, by simp [intOf]; omega⟩
          · obtain rfl : F1 = i := by omega
            have hx := W1.out.2.1 hin
            have HE := Hid.mk' (E1.out hq.out (W1.out.2.2.2.2 hin))
            rw [hx] at x1 HB
            generalize (nthD M F1).2 = d at *
            clear hx
            go_wp2
            rw [Exit.noGoto_ret]
            go_ret2
            exact ⟨ret_pair HE.out.1.symm HE.out.2.symm, HB.out⟩
        · obtain rfl : n1 = i := by omega
          have HQ : Hid (q0 = false ∧ q1 = false) := by
            refine ⟨hq.out, ?_⟩
            cases q1 with
            | false => rfl
            | true => have := W1.out.2.2.2.1 rfl; omega
          go_wp2
          exact ⟨⟨.inr (.inr ⟨rfl, HQ.out⟩), rfl, rfl, hbel⟩, by simp [intOf]⟩
    · go_wp2
      rw [Exit.noGoto_ret]
      go_ret2
      exact ⟨ret_pair (E2.out hq.out.1 hq.out.2).1.symm (E2.out hq.out.1 hq.out.2).2.symm, HB.out⟩

end Go.Proofs.YtmlkpfkeeifgeaaDoor
