/-
  What names, Waits and Under do, also of nil. Conditions: drains lie where they are said to lie, at most 1000 in a row.
-/
import Derived.Test.YthobihlnjcphaaaNames
namespace Go.Proofs.Ythobihlnjcphaaa
open Go.ChangeShapes Go.WideShapes Go.ChangeAt Go.RowKit

theorem made_strs (n : Nat) : madeCells (Value.string ⟨#[]⟩).cells (n * 1) = (sc (List.replicate n ⟨#[]⟩)).toArray := by
  apply Array.ext
  · simp [madeCells, sc]
  · intro i h1 h2
    simp [madeCells, sc, Value.cells, Nat.mod_one]
theorem mk_strs (w : World) (n : Nat) (hn : n ≤ 1000) : (Instr.makeSlice 26 (.int .i64 n) (.int .i64 n)).run Try.prog w = .ok (.slice (some ⟨w.heap.size, 0, none⟩) n n) (w.alloc (.cells (sc (List.replicate n ⟨#[]⟩)).toArray 9)) := by
  obtain ⟨i, hi, hz0, hz1, hz2⟩ := info_parts info9
  have := run_makeSlice (P := Try.prog) w 26 9 i (.string ⟨#[]⟩) Try.underlying26 hi hz0 .i64 .i64 n n (by omega) (Int.le_refl _) (by rw [hz1]; omega) (by rw [hz2]; omega) (by omega)
  rw [hz1, Int.toNat_natCast, made_strs] at this
  exact this
theorem sc_set (K : List ByteArray) (i : Nat) (x : ByteArray) : sc (K.set i x) = (sc K).set i (.string x) := by simp [sc, List.map_set]
theorem sc_frozen {w : World} {b : Nat} {K : List ByteArray} (hg : w.heap[b]? = some (.cells (sc K).toArray 9 (0, 0))) (o : Nat) : w.frozen? ⟨b, o, none⟩ = false := by simp [World.frozen?, hg]
theorem StrsAt.of_block {w : World} {b : Nat} {K : List ByteArray} (hg : w.heap[b]? = some (.cells (sc K).toArray 9 (0, 0))) (hn : K.length ≤ 1000) : StrsAt w (some ⟨b, 0, none⟩) K.length K.length K := by
  refine ⟨rfl, Nat.le_refl _, by unfold maxLen; omega, fun j hj => ⟨b, 0, rfl, lt_of_heap hg, ?_⟩⟩
  rw [Nat.zero_add]
  exact block_cell hg hj

theorem names_nil (rv : Int) (w : World) : Calls Try.prog 43 #[.pointer none, .int .i64 rv] w fun e w' => e = .returned (.slice none 0 0) ∧ w' = w := by
  go_enter Try.func43, Try.ntmps43
  go_wp2
  go_ret
  exact ⟨rfl, rfl⟩

set_option maxHeartbeats 2000000 in
set_option maxRecDepth 100000 in
theorem names_w (w : World) (A : Nat → Prop) (g r : Nat) (rv : Int) (L M : List Dr) (hr : (r = 0 ∧ rv = 0) ∨ (r = 1 ∧ rv = 1)) (h : DIn w A g r L M) (hl : L.length ≤ 1000) :
    Calls Try.prog 43 #[.pointer (some ⟨g, 0, none⟩), .int .i64 rv] w fun e w' => e = .returned (.slice (some ⟨w.heap.size, 0, none⟩) L.length L.length) ∧ StrsAt w' (some ⟨w.heap.size, 0, none⟩) L.length L.length (nms L) ∧ Below w.heap.size w w' := by
  have hr' : r = 0 ∨ r = 1 := hr.imp (fun h => h.1) (fun h => h.1)
  obtain ⟨a, c, c0, hle, hcm, hrow⟩ := h.row hr'
  have hmk := mk_strs w L.length hl
  have hgl := h.lt
  have HR : Hid (∀ i, i < L.length → ∃ b, a = some ⟨b, 0, none⟩ ∧ b < w.heap.size ∧ w.cell? ⟨b, i * 2, none⟩ = some (.string (nthD L i).1) ∧ w.cell? ⟨b, i * 2 + 1, none⟩ = some (.int .i64 (nthD L i).2)) := hrow
  have HL : Hid ((nms L).length = L.length) := nms_length L
  have HN : Hid (∀ i, i < L.length → (nms L)[i]? = some (nthD L i).1) := fun i hi => by unfold nms; rw [List.getElem?_map, nthD_get? hi]; rfl
  generalize hn : L.length = n at *
  have hb0 : Below w.heap.size w (w.alloc (.cells (sc (List.replicate n ⟨#[]⟩)).toArray 9)) := (Below.refl _ w).alloc (Nat.le_refl _) _
  have c1 := (hb0.cell (p := ⟨g, r, none⟩) hgl).trans c0
  have c2 : (w.alloc (.cells (sc (List.replicate n ⟨#[]⟩)).toArray 9)).heap[w.heap.size]? = some (.cells (sc (List.replicate n ⟨#[]⟩)).toArray 9 (0, 0)) := heap_alloc_new _ _
  unfold maxLen at hcm
  clear h hrow hn
  rcases hr with ⟨rfl, rfl⟩ | ⟨rfl, rfl⟩
  all_goals
    go_enter Try.func43, Try.ntmps43
    go_wp2
    generalize w.alloc (.cells (sc (List.replicate n ⟨#[]⟩)).toArray 9) = w1 at *
    clear hmk c0 c1
    go_loopw [25] (fun v25 wr => ∃ (i : Nat) (K : List ByteArray), v25 = .int .i64 i ∧ i ≤ n ∧ K.length = n ∧ K.take i = (nms L).take i ∧ wr.heap[w.heap.size]? = some (.cells (sc K).toArray 9 (0, 0)) ∧ Below w.heap.size w wr) (fun v25 _ => n + 1 - (intOf v25).toNat)
    case atStart => exact ⟨0, List.replicate n ⟨#[]⟩, rfl, Nat.zero_le _, by simp, by simp, c2, hb0⟩
    case round =>
      clear hb0 c2
      obtain ⟨i, K, rfl, hi, hK, hKt, hblk, hbl⟩ := hrel
      by_cases hin : i < n
      · obtain ⟨b, rfl, hbs, y1, y2⟩ := HR.out i hin
        have HNI := Hid.mk' (HN.out i hin)
        have x1 := (hbl.cell (p := ⟨b, i * 2, none⟩) hbs).trans y1
        have x2 := (hbl.cell (p := ⟨b, i * 2 + 1, none⟩) hbs).trans y2
        generalize (nthD L i).1 = y at *
        generalize (nthD L i).2 = d at *
        have hsl := lt_of_heap hblk
        have hba : Below wr.heap.size wr (wr.alloc (.cells #[.string y, .int .i64 d] 73)) := (Below.refl _ wr).alloc (Nat.le_refl _) _
        have hblk2 : (wr.alloc (.cells #[.string y, .int .i64 d] 73)).heap[w.heap.size]? = some (.cells (sc K).toArray 9 (0, 0)) := (hba.block _ hsl).trans hblk
        have z1 := block_cell hblk2 (show i < K.length by omega)
        have z2 := sc_frozen hblk2 i
        have HE : Hid ((K.set i y).length = n ∧ (K.set i y).take (i + 1) = (nms L).take (i + 1) ∧ ((wr.setCell ⟨w.heap.size, i, none⟩ (.string y)).alloc (.cells #[.string y, .int .i64 d] 73)).heap[w.heap.size]? = some (.cells (sc (K.set i y)).toArray 9 (0, 0)) ∧ Below w.heap.size w ((wr.setCell ⟨w.heap.size, i, none⟩ (.string y)).alloc (.cells #[.string y, .int .i64 d] 73))) := by
          refine ⟨by simpa using hK, ?_, ?_, ?_⟩
          · rw [List.take_add_one, List.take_set_of_le (Nat.le_refl _), hKt, List.getElem?_set_self (by omega), List.take_add_one, HNI.out]
          · rw [Below.heap_alloc _ _ _ (by rw [World.size_setCell]; exact hsl), heap_setCell_same wr w.heap.size i _ 9 _ hblk, sc_set]
            simp
          · have hb2 : Below w.heap.size w (wr.setCell ⟨w.heap.size, i, none⟩ (.string y)) := hbl.trans ⟨rfl, rfl, rfl, by simp, fun k hk => heap_setCell_other _ _ k _ (by simp; omega)⟩
            exact hb2.alloc hb2.size _
        have hKl : i < K.length := by omega
        clear hblk hblk2 hba hbl hKt y1 y2
        go_wp2
        exact ⟨⟨i + 1, K.set i y, by simp, by omega, HE.out⟩, by simp [intOf]; omega⟩
      · obtain rfl : n = i := by omega
        have hKL : K = nms L := by
          have h1 := HL.out
          rw [← hK, List.take_length, hK, ← h1, List.take_length] at hKt
          exact hKt
        have HS : Hid (StrsAt wr (some ⟨w.heap.size, 0, none⟩) n n (nms L)) := by
          have := StrsAt.of_block hblk (by omega)
          rw [hK, hKL] at this
          exact this
        clear hblk hKt hKL
        go_wp2
        go_ret
        exact ⟨rfl, HS.out, hbl⟩

theorem waits_nil (w : World) : Calls Try.prog 24 #[.pointer none] w fun e w' => e = .returned (.slice none 0 0) ∧ w' = w := by
  go_enter Try.func24, Try.ntmps24
  go_wp2_with (first | (go_at_call 43; refine (names_nil _ _).mono ?_; rintro e w' ⟨rfl, hw'⟩; subst w'))
  go_ret
  exact ⟨rfl, rfl⟩
theorem under_nil (w : World) : Calls Try.prog 25 #[.pointer none] w fun e w' => e = .returned (.slice none 0 0) ∧ w' = w := by
  go_enter Try.func25, Try.ntmps25
  go_wp2_with (first | (go_at_call 43; refine (names_nil _ _).mono ?_; rintro e w' ⟨rfl, hw'⟩; subst w'))
  go_ret
  exact ⟨rfl, rfl⟩
theorem waits_w (w : World) (A : Nat → Prop) (g : Nat) (L M : List Dr) (h : DIn w A g 0 L M) (hl : L.length ≤ 1000) :
    Calls Try.prog 24 #[.pointer (some ⟨g, 0, none⟩)] w fun e w' => e = .returned (.slice (some ⟨w.heap.size, 0, none⟩) L.length L.length) ∧ StrsAt w' (some ⟨w.heap.size, 0, none⟩) L.length L.length (nms L) ∧ Below w.heap.size w w' := by
  have hn := names_w w A g 0 0 L M (.inl ⟨rfl, rfl⟩) h hl
  clear h
  go_enter Try.func24, Try.ntmps24
  go_wp2_with (first | (go_at_call 43; refine hn.mono ?_; rintro e w1 ⟨rfl, hs1, hb1⟩))
  go_ret
  exact ⟨rfl, hs1, hb1⟩
theorem under_w (w : World) (A : Nat → Prop) (g : Nat) (L M : List Dr) (h : DIn w A g 0 L M) (hl : M.length ≤ 1000) :
    Calls Try.prog 25 #[.pointer (some ⟨g, 0, none⟩)] w fun e w' => e = .returned (.slice (some ⟨w.heap.size, 0, none⟩) M.length M.length) ∧ StrsAt w' (some ⟨w.heap.size, 0, none⟩) M.length M.length (nms M) ∧ Below w.heap.size w w' := by
  have hn := names_w w A g 1 1 M L (.inr ⟨rfl, rfl⟩) h.swap0 hl
  clear h
  go_enter Try.func25, Try.ntmps25
  go_wp2_with (first | (go_at_call 43; refine hn.mono ?_; rintro e w1 ⟨rfl, hs1, hb1⟩))
  go_ret
  exact ⟨rfl, hs1, hb1⟩

end Go.Proofs.Ythobihlnjcphaaa
