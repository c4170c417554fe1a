/-
  What Ids does, of nil too. Conditions: the queue lies where it is said to lie.
-/
import Derived.Test.YtcndgcfdopjjfaaPush
namespace Go.Proofs.Ytcndgcfdopjjfaa
open Go.ChangeShapes Go.WideShapes Go.ChangeAt Go.RowKit

theorem made_ints (n : Nat) : madeCells (Value.int .i64 0).cells (n * 1) = (ic (List.replicate n 0)).toArray := by
  apply Array.ext
  · simp [madeCells, ic]
  · intro i h1 h2
    simp [madeCells, ic, Value.cells, Nat.mod_one]

theorem mk_ints (w : World) (n : Nat) (hn : n ≤ 1000) : (Instr.makeSlice 26 (.int .i64 n) (.int .i64 n)).run Try.prog w = .ok (.slice (some ⟨w.heap.size, 0, none⟩) n n) (w.alloc (.cells (ic (List.replicate n 0)).toArray 3)) := by
  obtain ⟨i, hi, hz0, hz1, hz2⟩ := info_parts info3
  have := run_makeSlice (P := Try.prog) w 26 3 i (.int .i64 0) Try.underlying26 hi hz0 .i64 .i64 n n (by omega) (Int.le_refl _) (by rw [hz1]; omega) (by rw [hz2]; omega) (by omega)
  rw [hz1, Int.toNat_natCast, made_ints] at this
  exact this

theorem ids_nil (w : World) : Calls Try.prog 27 #[.pointer none] w fun e w' => (∃ a cap, e = .returned (.slice a 0 cap)) ∧ Below w.heap.size w w' := by
  have hmk : (Instr.makeSlice 26 (.int .i64 0) (.int .i64 0)).run Try.prog w = .ok (.slice (some ⟨w.heap.size, 0, none⟩) 0 0) (w.alloc (.cells (ic (List.replicate 0 0)).toArray 3)) := mk_ints w 0 (by omega)
  go_enter Try.func27, Try.ntmps27
  go_wp2_with (first | (go_at_call 25; refine (len_nil _).mono ?_; rintro e w' ⟨rfl, hw'⟩; subst w'))
  go_loopw [10] (fun v10 wr => v10 = .int .i64 0 ∧ Below w.heap.size w wr) (fun _ _ => 0)
  case atStart => exact ⟨rfl, (Below.refl _ _).alloc (Nat.le_refl _) _⟩
  case round =>
    obtain ⟨rfl, hb⟩ := hrel
    have HB : Hid (Below w.heap.size w wr) := hb
    clear hb hmk
    go_wp2
    go_ret
    exact ⟨⟨_, _, rfl⟩, HB.out⟩

theorem ic_cell {w : World} {b : Nat} {K : List Int} (hg : w.heap[b]? = some (.cells (ic K).toArray 3 (0, 0))) {i : Nat} (hi : i < K.length) : w.cell? ⟨b, i, none⟩ = some (.int .i64 (K.getD i 0)) := by
  simp only [World.cell?, hg]
  simp [ic, List.getD, hi]
theorem ic_frozen {w : World} {b : Nat} {K : List Int} (hg : w.heap[b]? = some (.cells (ic K).toArray 3 (0, 0))) (o : Nat) : w.frozen? ⟨b, o, none⟩ = false := by simp [World.frozen?, hg]

theorem IntsAt.of_block {w : World} {b : Nat} {K : List Int} (hg : w.heap[b]? = some (.cells (ic K).toArray 3 (0, 0))) (hn : K.length ≤ 1000) : IntsAt w (some ⟨b, 0, none⟩) K.length K.length K := by
  refine ⟨rfl, Nat.le_refl _, by unfold maxLen; omega, fun j hj => ⟨b, 0, rfl, lt_of_heap hg, ?_⟩⟩
  rw [Nat.zero_add]
  exact ic_cell hg hj

set_option maxRecDepth 100000 in
theorem ids_w (w : World) (A : Nat → Prop) (g R : Nat) (L : List Wt) (h : QAt w A g R L) :
    Calls Try.prog 27 #[.pointer (some ⟨g, 0, none⟩)] w fun e w' => e = .returned (.slice (some ⟨w.heap.size, 0, none⟩) L.length L.length) ∧ IntsAt w' (some ⟨w.heap.size, 0, none⟩) L.length L.length (L.map Prod.fst) ∧ Below w.heap.size w w' ∧ w'.heap.size = w.heap.size + 1 := by
  have hlen := len_w w A g R L h
  have hle16 := h.le
  have hm := h.max
  have hL : L.length ≤ 16 := by omega
  have hmk := mk_ints w L.length (by omega)
  obtain ⟨a, cap, c0⟩ := h.q.c0
  have HR : Hid (0 < L.length → ∃ b, a = some ⟨b, 0, none⟩ ∧ L.length ≤ cap ∧ cap ≤ maxLen ∧ ∀ i, i < L.length → w.cell? ⟨b, i * 2, none⟩ = some (.int .i64 (nthW L i).1) ∧ w.cell? ⟨b, i * 2 + 1, none⟩ = some (.int .i64 (nthW L i).2)) := fun h0 => h.q.row c0 h0
  have hgl := h.lt
  have HL : Hid ((L.map Prod.fst).length = L.length) := List.length_map _
  generalize hn : L.length = n at *
  clear h
  go_enter Try.func27, Try.ntmps27
  go_wp2_with (first | (go_at_call 25; refine hlen.mono ?_; rintro e w' ⟨rfl, hw'⟩; subst w'))
  go_loopw [10] (fun v10 wr => ∃ (i : Nat) (K : List Int), v10 = .int .i64 i ∧ i ≤ n ∧ K.length = n ∧ K.take i = (L.map Prod.fst).take i ∧ wr.heap[w.heap.size]? = some (.cells (ic K).toArray 3 (0, 0)) ∧ Below w.heap.size w wr ∧ wr.heap.size = w.heap.size + 1) (fun v10 _ => n + 1 - (intOf v10).toNat)
  case atStart => exact ⟨0, List.replicate n 0, rfl, Nat.zero_le _, by simp, by simp, heap_alloc_new _ _, (Below.refl _ _).alloc (Nat.le_refl _) _, by simp⟩
  case round =>
    obtain ⟨i, K, rfl, hi, hK, hKt, hblk, hbl, hsz⟩ := hrel
    clear hmk hlen
    by_cases hin : i < n
    · obtain ⟨b, rfl, hcp1, hcp2, hcell⟩ := HR.out (by omega)
      have hx0 := (hcell i hin).1
      have hx := (hbl.cell (p := ⟨b, i * 2, none⟩) (World.block_lt_of_cell? w _ hx0)).trans hx0
      have hc0 := (hbl.cell (p := ⟨g, 0, none⟩) hgl).trans c0
      have hy := ic_cell hblk (show i < K.length by omega)
      have hf := ic_frozen hblk i
      unfold maxLen at hcp2
      have HE : Hid ((K.set i (nthW L i).1).length = n ∧ (K.set i (nthW L i).1).take (i + 1) = (L.map Prod.fst).take (i + 1) ∧ (wr.setCell ⟨w.heap.size, i, none⟩ (.int .i64 (nthW L i).1)).heap[w.heap.size]? = some (.cells (ic (K.set i (nthW L i).1)).toArray 3 (0, 0)) ∧ Below w.heap.size w (wr.setCell ⟨w.heap.size, i, none⟩ (.int .i64 (nthW L i).1)) ∧ (wr.setCell ⟨w.heap.size, i, none⟩ (.int .i64 (nthW L i).1)).heap.size = w.heap.size + 1) := by
        refine ⟨by simpa using hK, ?_, ?_, hbl.trans ⟨rfl, rfl, rfl, by simp, fun k hk => heap_setCell_other _ _ k _ (by simp; omega)⟩, by simpa using hsz⟩
        · rw [List.take_add_one, List.take_set_of_le (Nat.le_refl _), hKt, List.getElem?_set_self (by omega), List.take_add_one]
          congr 1
          rw [List.getElem?_map, nthW_get? (by omega)]
          rfl
        · rw [heap_setCell_same wr w.heap.size i _ 3 _ hblk, ← ic_set]
          simp
      generalize (nthW L i).1 = x at *
      clear hcell hbl hblk hx0 hKt
      go_wp2
      exact ⟨⟨i + 1, K.set i x, by simp, by omega, HE.out.1, HE.out.2.1, HE.out.2.2.1, HE.out.2.2.2.1, HE.out.2.2.2.2⟩, by simp [intOf]; omega⟩
    · obtain rfl : n = i := by omega
      have hKe : K = L.map Prod.fst := by
        have e1 : K.take n = K := by rw [← hK]; exact List.take_length
        have e2 : (L.map Prod.fst).take n = L.map Prod.fst := by rw [← HL.out]; exact List.take_length
        rw [← e1, ← e2]; exact hKt
      have HE : Hid (IntsAt wr (some ⟨w.heap.size, 0, none⟩) n n (L.map Prod.fst) ∧ Below w.heap.size w wr ∧ wr.heap.size = w.heap.size + 1) := by
        have := IntsAt.of_block hblk (by omega)
        rw [hK, hKe] at this
        exact ⟨this, hbl, hsz⟩
      clear hbl hblk hKt
      go_wp2
      go_ret
      exact ⟨rfl, HE.out⟩

end Go.Proofs.Ytcndgcfdopjjfaa
