/-
  What Names, States, State, Leaves, Ahead, Due, Capacity and mayLeave answer, also of nil. Conditions: a fleet lies where it is said to lie, of at most 4000 hosts, and drains.
-/
import Derived.Test.YtmlkpfkeeifgeaaDoorFLook
import Derived.Test.YtmlkpfkeeifgeaaDoorWaits
import Derived.Test.YtmlkpfkeeifgeaaDoorDue
import Derived.Test.YtmlkpfkeeifgeaaDoorRTx
namespace Go.Proofs.YtmlkpfkeeifgeaaDoor
open Go.ChangeShapes Go.WideShapes Go.ChangeAt Go.RowKit

theorem made_ints (n : Nat) : madeCells (Value.int .i64 0).cells (n * 1) = (ic (List.replicate n 0)).toArray := by
  apply Array.ext
  · simp [madeCells, ic]
  · intro i h1 h2
    simp [madeCells, ic, Value.cells, Nat.mod_one]
theorem mk_ints (w : World) (n : Nat) (hn : n ≤ 5000) : (Instr.makeSlice 28 (.int .i64 n) (.int .i64 n)).run Tryd.prog w = .ok (.slice (some ⟨w.heap.size, 0, none⟩) n n) (w.alloc (.cells (ic (List.replicate n 0)).toArray 3)) := by
  obtain ⟨i, hi, hz0, hz1, hz2⟩ := info_parts info3
  have := run_makeSlice (P := Tryd.prog) w 28 3 i (.int .i64 0) Tryd.underlying28 hi hz0 .i64 .i64 n n (by omega) (Int.le_refl _) (by rw [hz1]; omega) (by rw [hz2]; omega) (by omega)
  rw [hz1, Int.toNat_natCast, made_ints] at this
  exact this
theorem ic_set (K : List Int) (i : Nat) (x : Int) : ic (K.set i x) = (ic K).set i (.int .i64 x) := by simp [ic, List.map_set]
theorem ic_frozen {w : World} {b : Nat} {K : List Int} (hg : w.heap[b]? = some (.cells (ic K).toArray 3 (0, 0))) (o : Nat) : w.frozen? ⟨b, o, none⟩ = false := by simp [World.frozen?, hg]
theorem block_int {w : World} {g : Nat} {l : List Int} (h : w.heap[g]? = some (.cells (ic l).toArray 3 (0, 0))) {k : Nat} (hk : k < l.length) : w.cell? ⟨g, k, none⟩ = some (.int .i64 (l.getD k 0)) := by
  simp [World.cell?, h, ic, List.getD, hk]
theorem IntsAt.of_block {w : World} {b : Nat} {K : List Int} (hg : w.heap[b]? = some (.cells (ic K).toArray 3 (0, 0))) (hn : K.length ≤ 5000) : IntsAt w (some ⟨b, 0, none⟩) K.length K.length K := by
  refine ⟨rfl, Nat.le_refl _, by unfold maxLen; omega, fun j hj => ⟨b, 0, rfl, lt_of_heap hg, ?_⟩⟩
  rw [Nat.zero_add]
  exact block_int hg hj

section
variable {w : World} {A : Nat → Prop} {f : Nat} {e gd : Int} {H : List Hs} {L M : List Dr}

theorem fnames_nil (w : World) : Calls Tryd.prog 34 #[.pointer none] w fun r w' => r = .returned (.slice none 0 0) ∧ w' = w := by
  go_enter Tryd.func34, Tryd.ntmps34
  go_wp2
  go_ret
  exact ⟨rfl, rfl⟩
theorem fstates_nil (w : World) : Calls Tryd.prog 35 #[.pointer none] w fun r w' => r = .returned (.slice none 0 0) ∧ w' = w := by
  go_enter Tryd.func35, Tryd.ntmps35
  go_wp2
  go_ret
  exact ⟨rfl, rfl⟩

theorem hn_get? {H : List Hs} {i : Nat} (h : i < H.length) : (hn H)[i]? = some (atH H i).nm := by
  unfold hn
  rw [List.getElem?_map, List.getElem?_eq_getElem h, atH_eq h]
  rfl
theorem hz_get? {H : List Hs} {i : Nat} (h : i < H.length) : (hz H)[i]? = some (atH H i).st := by
  unfold hz
  rw [List.getElem?_map, List.getElem?_eq_getElem h, atH_eq h]
  rfl

set_option maxHeartbeats 2000000 in
set_option maxRecDepth 100000 in
theorem fnames_w (h : FIn w A f e gd H L M) (hl : H.length ≤ 4000) :
    Calls Tryd.prog 34 #[.pointer (some ⟨f, 0, none⟩)] w fun r w' => r = .returned (.slice (some ⟨w.heap.size, 0, none⟩) H.length H.length) ∧ StrsAt w' (some ⟨w.heap.size, 0, none⟩) H.length H.length (hn H) ∧ Below w.heap.size w w' := by
  obtain ⟨g, a, c, -, -, -, c0, -, hle, hcm, hgl, -, hrow⟩ := h.cells
  have hmk := mk_strs w H.length (by omega)
  have HR : Hid (∀ i, i < H.length → ∃ b, a = some ⟨b, 0, none⟩ ∧ b < w.heap.size ∧ w.cell? ⟨b, i * 3, none⟩ = some (.string (atH H i).nm) ∧ w.cell? ⟨b, i * 3 + 1, none⟩ = some (.int .i64 (atH H i).st) ∧ w.cell? ⟨b, i * 3 + 2, none⟩ = some (.bool (atH H i).lv) ∧ ∀ o, w.frozen? ⟨b, o, none⟩ = false) := hrow
  have HL : Hid ((hn H).length = H.length) := hn_length H
  have HN : Hid (∀ i, i < H.length → (hn H)[i]? = some (atH H i).nm) := fun i hi => hn_get? hi
  generalize hn0 : H.length = n at *
  have hb0 : Below w.heap.size w (w.alloc (.cells (sc (List.replicate n ⟨#[]⟩)).toArray 9)) := (Below.refl _ w).alloc (Nat.le_refl _) _
  have c1 := (hb0.cell (p := ⟨f, 3, none⟩) hgl).trans c0
  have c2 : (w.alloc (.cells (sc (List.replicate n ⟨#[]⟩)).toArray 9)).heap[w.heap.size]? = some (.cells (sc (List.replicate n ⟨#[]⟩)).toArray 9 (0, 0)) := heap_alloc_new _ _
  unfold maxLen at hcm
  clear h hrow hn0
  go_enter Tryd.func34, Tryd.ntmps34
  go_wp2
  generalize w.alloc (.cells (sc (List.replicate n ⟨#[]⟩)).toArray 9) = w1 at *
  clear hmk c0 c1
  go_loopw [19] (fun v19 wr => ∃ (i : Nat) (K : List ByteArray), v19 = .int .i64 i ∧ i ≤ n ∧ K.length = n ∧ K.take i = (hn H).take i ∧ wr.heap[w.heap.size]? = some (.cells (sc K).toArray 9 (0, 0)) ∧ Below w.heap.size w wr) (fun v19 _ => n + 1 - (intOf v19).toNat)
  case atStart => exact ⟨0, List.replicate n ⟨#[]⟩, rfl, Nat.zero_le _, by simp, by simp, c2, hb0⟩
  case round =>
    clear hb0 c2
    obtain ⟨i, K, rfl, hi, hK, hKt, hblk, hbl⟩ := hrel
    by_cases hin : i < n
    · obtain ⟨b, rfl, hbs, y1, y2, y3, -⟩ := HR.out i hin
      have HNI := Hid.mk' (HN.out i hin)
      have x1 := (hbl.cell (p := ⟨b, i * 3, none⟩) hbs).trans y1
      have x2 := (hbl.cell (p := ⟨b, i * 3 + 1, none⟩) hbs).trans y2
      have x3 := (hbl.cell (p := ⟨b, i * 3 + 2, none⟩) hbs).trans y3
      generalize (atH H i).nm = y at *
      generalize (atH H i).st = d at *
      generalize (atH H i).lv = v at *
      have hsl := lt_of_heap hblk
      have hba : Below wr.heap.size wr (wr.alloc (.cells #[.string y, .int .i64 d, .bool v] 97)) := (Below.refl _ wr).alloc (Nat.le_refl _) _
      have hblk2 : (wr.alloc (.cells #[.string y, .int .i64 d, .bool v] 97)).heap[w.heap.size]? = some (.cells (sc K).toArray 9 (0, 0)) := (hba.block _ hsl).trans hblk
      have z1 := block_cell hblk2 (show i < K.length by omega)
      have z2 := sc_frozen hblk2 i
      have HE : Hid ((K.set i y).length = n ∧ (K.set i y).take (i + 1) = (hn H).take (i + 1) ∧ ((wr.setCell ⟨w.heap.size, i, none⟩ (.string y)).alloc (.cells #[.string y, .int .i64 d, .bool v] 97)).heap[w.heap.size]? = some (.cells (sc (K.set i y)).toArray 9 (0, 0)) ∧ Below w.heap.size w ((wr.setCell ⟨w.heap.size, i, none⟩ (.string y)).alloc (.cells #[.string y, .int .i64 d, .bool v] 97))) := by
        refine ⟨by simpa using hK, ?_, ?_, ?_⟩
        · rw [List.take_add_one, List.take_set_of_le (Nat.le_refl _), hKt, List.getElem?_set_self (by omega), List.take_add_one, HNI.out]
        · rw [Below.heap_alloc _ _ _ (by rw [World.size_setCell]; exact hsl), heap_setCell_same wr w.heap.size i _ 9 _ hblk, sc_set]
          simp
        · have hb2 : Below w.heap.size w (wr.setCell ⟨w.heap.size, i, none⟩ (.string y)) := hbl.trans ⟨rfl, rfl, rfl, by simp, fun k hk => heap_setCell_other _ _ k _ (by simp; omega)⟩
          exact hb2.alloc hb2.size _
      have hKl : i < K.length := by omega
      clear hblk hblk2 hba hbl hKt y1 y2 y3
      go_wp2
      exact ⟨⟨i + 1, K.set i y, by simp, by omega, HE.out⟩, by simp [intOf]; omega⟩
    · obtain rfl : n = i := by omega
      have hKL : K = hn H := by
        have h1 := HL.out
        rw [← hK, List.take_length, hK, ← h1, List.take_length] at hKt
        exact hKt
      have HS : Hid (StrsAt wr (some ⟨w.heap.size, 0, none⟩) n n (hn H)) := by
        have := StrsAt.of_block hblk (by omega)
        rw [hK, hKL] at this
        exact this
      clear hblk hKt hKL
      go_wp2
      go_ret
      exact ⟨rfl, HS.out, hbl⟩

set_option maxHeartbeats 2000000 in
set_option maxRecDepth 100000 in
theorem fstates_w (h : FIn w A f e gd H L M) (hl : H.length ≤ 4000) :
    Calls Tryd.prog 35 #[.pointer (some ⟨f, 0, none⟩)] w fun r w' => r = .returned (.slice (some ⟨w.heap.size, 0, none⟩) H.length H.length) ∧ IntsAt w' (some ⟨w.heap.size, 0, none⟩) H.length H.length (hz H) ∧ Below w.heap.size w w' := by
  obtain ⟨g, a, c, -, -, -, c0, -, hle, hcm, hgl, -, hrow⟩ := h.cells
  have hmk := mk_ints w H.length (by omega)
  have HR : Hid (∀ i, i < H.length → ∃ b, a = some ⟨b, 0, none⟩ ∧ b < w.heap.size ∧ w.cell? ⟨b, i * 3, none⟩ = some (.string (atH H i).nm) ∧ w.cell? ⟨b, i * 3 + 1, none⟩ = some (.int .i64 (atH H i).st) ∧ w.cell? ⟨b, i * 3 + 2, none⟩ = some (.bool (atH H i).lv) ∧ ∀ o, w.frozen? ⟨b, o, none⟩ = false) := hrow
  have HL : Hid ((hz H).length = H.length) := hz_length H
  have HN : Hid (∀ i, i < H.length → (hz H)[i]? = some (atH H i).st) := fun i hi => hz_get? hi
  generalize hn0 : H.length = n at *
  have hb0 : Below w.heap.size w (w.alloc (.cells (ic (List.replicate n 0)).toArray 3)) := (Below.refl _ w).alloc (Nat.le_refl _) _
  have c1 := (hb0.cell (p := ⟨f, 3, none⟩) hgl).trans c0
  have c2 : (w.alloc (.cells (ic (List.replicate n 0)).toArray 3)).heap[w.heap.size]? = some (.cells (ic (List.replicate n 0)).toArray 3 (0, 0)) := heap_alloc_new _ _
  unfold maxLen at hcm
  clear h hrow hn0
  go_enter Tryd.func35, Tryd.ntmps35
  go_wp2
  generalize w.alloc (.cells (ic (List.replicate n 0)).toArray 3) = w1 at *
  clear hmk c0 c1
  go_loopw [19] (fun v19 wr => ∃ (i : Nat) (K : List Int), v19 = .int .i64 i ∧ i ≤ n ∧ K.length = n ∧ K.take i = (hz H).take i ∧ wr.heap[w.heap.size]? = some (.cells (ic K).toArray 3 (0, 0)) ∧ Below w.heap.size w wr) (fun v19 _ => n + 1 - (intOf v19).toNat)
  case atStart => exact ⟨0, List.replicate n 0, rfl, Nat.zero_le _, by simp, by simp, c2, hb0⟩
  case round =>
    clear hb0 c2
    obtain ⟨i, K, rfl, hi, hK, hKt, hblk, hbl⟩ := hrel
    by_cases hin : i < n
    · obtain ⟨b, rfl, hbs, y1, y2, y3, -⟩ := HR.out i hin
      have HNI := Hid.mk' (HN.out i hin)
      have x1 := (hbl.cell (p := ⟨b, i * 3, none⟩) hbs).trans y1
      have x2 := (hbl.cell (p := ⟨b, i * 3 + 1, none⟩) hbs).trans y2
      have x3 := (hbl.cell (p := ⟨b, i * 3 + 2, none⟩) hbs).trans y3
      generalize (atH H i).nm = y at *
      generalize (atH H i).st = d at *
      generalize (atH H i).lv = v at *
      have hsl := lt_of_heap hblk
      have hba : Below wr.heap.size wr (wr.alloc (.cells #[.string y, .int .i64 d, .bool v] 97)) := (Below.refl _ wr).alloc (Nat.le_refl _) _
      have hblk2 : (wr.alloc (.cells #[.string y, .int .i64 d, .bool v] 97)).heap[w.heap.size]? = some (.cells (ic K).toArray 3 (0, 0)) := (hba.block _ hsl).trans hblk
      have z1 := block_int hblk2 (show i < K.length by omega)
      have z2 := ic_frozen hblk2 i
      have HE : Hid ((K.set i d).length = n ∧ (K.set i d).take (i + 1) = (hz H).take (i + 1) ∧ ((wr.setCell ⟨w.heap.size, i, none⟩ (.int .i64 d)).alloc (.cells #[.string y, .int .i64 d, .bool v] 97)).heap[w.heap.size]? = some (.cells (ic (K.set i d)).toArray 3 (0, 0)) ∧ Below w.heap.size w ((wr.setCell ⟨w.heap.size, i, none⟩ (.int .i64 d)).alloc (.cells #[.string y, .int .i64 d, .bool v] 97))) := by
        refine ⟨by simpa using hK, ?_, ?_, ?_⟩
        · rw [List.take_add_one, List.take_set_of_le (Nat.le_refl _), hKt, List.getElem?_set_self (by omega), List.take_add_one, HNI.out]
        · rw [Below.heap_alloc _ _ _ (by rw [World.size_setCell]; exact hsl), heap_setCell_same wr w.heap.size i _ 3 _ hblk, ic_set]
          simp
        · have hb2 : Below w.heap.size w (wr.setCell ⟨w.heap.size, i, none⟩ (.int .i64 d)) := hbl.trans ⟨rfl, rfl, rfl, by simp, fun k hk => heap_setCell_other _ _ k _ (by simp; omega)⟩
          exact hb2.alloc hb2.size _
      have hKl : i < K.length := by omega
      clear hblk hblk2 hba hbl hKt y1 y2 y3
      go_wp2
      exact ⟨⟨i + 1, K.set i d, by simp, by omega, HE.out⟩, by simp [intOf]; omega⟩
    · obtain rfl : n = i := by omega
      have hKL : K = hz H := by
        have h1 := HL.out
        rw [← hK, List.take_length, hK, ← h1, List.take_length] at hKt
        exact hKt
      have HS : Hid (IntsAt wr (some ⟨w.heap.size, 0, none⟩) n n (hz H)) := by
        have := IntsAt.of_block hblk (by omega)
        rw [hK, hKL] at this
        exact this
      clear hblk hKt hKL
      go_wp2
      go_ret
      exact ⟨rfl, HS.out, hbl⟩

theorem gd_ints {w : World} {a : Option Addr} {n c : Nat} {l : List Int} (h : IntsAt w a n c l) : Gd.IntsAt w a n c l := ⟨h.hlen, h.hle, h.hcap, h.at_⟩

theorem fcap_nil (w : World) : Calls Tryd.prog 18 #[.pointer none] w fun r w' => r = .returned (.int .i64 0) ∧ w' = w := by
  go_enter Tryd.func18, Tryd.ntmps18
  go_wp2
  go_ret
  exact ⟨rfl, rfl⟩
/-- The capacity of hosts. -/
def capF (H : List Hs) (e : Int) : Int := Gd.capI (Gd.act (hz H) : Nat) e
theorem fcap_w (h : FIn w A f e gd H L M) (hl : H.length ≤ 4000) :
    Calls Tryd.prog 18 #[.pointer (some ⟨f, 0, none⟩)] w fun r w' => r = .returned (.int .i64 (capF H e)) ∧ Below w.heap.size w w' := by
  have hs : Calls Tryd.prog 35 #[.pointer (some ⟨f, 0, none⟩)] w.drew fun r w' => r = .returned (.slice (some ⟨w.heap.size, 0, none⟩) H.length H.length) ∧ IntsAt w' (some ⟨w.heap.size, 0, none⟩) H.length H.length (hz H) ∧ Below w.heap.size w.drew w' := fstates_w h.drew hl
  have HB : Hid (Below w.heap.size w w.drew) := below_drewN (Below.refl _ w) 1
  obtain ⟨g, a, c, -, c1, -, -, -, -, -, hgl, -, -⟩ := h.cells
  have HC : Hid (∀ w', IntsAt w' (some ⟨w.heap.size, 0, none⟩) H.length H.length (hz H) → Calls Tryd.prog 51 #[.slice (some ⟨w.heap.size, 0, none⟩) H.length H.length, .int .i64 e] w' fun r w'' => r = .returned (.int .i64 (capF H e)) ∧ w'' = w') := fun w' hi => Gd.cap_any _ _ _ _ e w' (gd_ints hi)
  generalize H.length = n at *
  generalize capF H e = C at *
  clear h
  go_enter Tryd.func18, Tryd.ntmps18
  go_wp2_with fail
  go_region_held3 (fun w' => w'.cell? ⟨f, 1, none⟩ = some (.int .i64 e)) (first | assumption | exact (hb2.cell (p := ⟨f, 1, none⟩) hgl).trans (by assumption) | go_keep)
    (first
      | (go_at_call 35; refine hs.mono ?_; rintro e w2 ⟨rfl, hi2, hb2⟩; have hc2 := HC.out w2 hi2; clear hs)
      | (go_at_call 51; refine hc2.mono ?_; rintro e w' ⟨rfl, hw'⟩; subst w'))
  go_wp2
  go_ret
  exact ⟨rfl, HB.out.trans hb2⟩

theorem fahead_nil (x : ByteArray) (w : World) : Calls Tryd.prog 24 #[.pointer none, .string x] w fun r w' => r = .returned (.int .i64 (-1)) ∧ w' = w := by
  go_enter Tryd.func24, Tryd.ntmps24
  go_wp2
  go_ret
  exact ⟨rfl, rfl⟩
theorem fahead_w (h : FIn w A f e gd H L M) (x : ByteArray) : Calls Tryd.prog 24 #[.pointer (some ⟨f, 0, none⟩), .string x] w fun r w' => r = .returned (.int .i64 (plc x (nms L))) ∧ Below w.heap.size w w' := by
  obtain ⟨g, c0, B, hd, -⟩ := h.drains
  have ha := ahead_w w B g L M x hd
  clear h hd
  go_enter Tryd.func24, Tryd.ntmps24
  go_wp2_with (go_at_call 62; refine ha.mono ?_; rintro e w2 ⟨rfl, hb2⟩)
  go_ret
  exact ⟨rfl, hb2⟩
theorem fdue_nil (d : Int) (w : World) : Calls Tryd.prog 29 #[.pointer none, .int .i64 d] w fun r w' => r = .returned (.slice none 0 0) ∧ w' = w := by
  go_enter Tryd.func29, Tryd.ntmps29
  go_wp2
  go_ret
  exact ⟨rfl, rfl⟩
theorem fdue_w (h : FIn w A f e gd H L M) (d : Int) (hl : M.length ≤ 4000) : Calls Tryd.prog 29 #[.pointer (some ⟨f, 0, none⟩), .int .i64 d] w fun r w' => ∃ v, r = .returned v ∧ w'.ownsRow w.heap.size 9 1 v (dueL d M).length (sc (dueL d M)) ∧ Below w.heap.size w w' := by
  obtain ⟨g, c0, B, hd, -⟩ := h.drains
  have ha := due_w w B g L M d hd hl
  clear h hd
  go_enter Tryd.func29, Tryd.ntmps29
  go_wp2_with (go_at_call 63; refine ha.mono ?_; rintro e w2 ⟨v, rfl, ho2, hb2⟩)
  go_ret
  exact ⟨v, rfl, ho2, hb2⟩

theorem fstate_nil (x : ByteArray) (w : World) : Calls Tryd.prog 27 #[.pointer none, .string x] w fun r w' => r = .returned (.tuple #[.int .i64 0, .bool false]) ∧ Below w.heap.size w w' := by
  go_enter Tryd.func27, Tryd.ntmps27
  go_wp2_with (go_at_call 58; refine (fplace_nil x _).mono ?_; rintro e w2 ⟨rfl, hb2⟩)
  go_ret2
  exact ⟨rfl, hb2⟩
theorem fleaves_nil (x : ByteArray) (w : World) : Calls Tryd.prog 28 #[.pointer none, .string x] w fun r w' => r = .returned (.bool false) ∧ Below w.heap.size w w' := by
  go_enter Tryd.func28, Tryd.ntmps28
  go_wp2_with (go_at_call 58; refine (fplace_nil x _).mono ?_; rintro e w2 ⟨rfl, hb2⟩)
  go_ret
  exact ⟨rfl, hb2⟩
def stF (x : ByteArray) (H : List Hs) : Int := if isH x H = true then (ofN x H).st else 0
def lvF (x : ByteArray) (H : List Hs) : Bool := isH x H && (ofN x H).lv
theorem fstate_w (h : FIn w A f e gd H L M) (x : ByteArray) : Calls Tryd.prog 27 #[.pointer (some ⟨f, 0, none⟩), .string x] w fun r w' => r = .returned (.tuple #[.int .i64 (stF x H), .bool (isH x H)]) ∧ Below w.heap.size w w' := by
  have hp := fplace_w h x
  unfold stF
  cases h1 : isH x H with
  | false =>
    rw [pl_no h1] at hp
    clear h
    go_enter Tryd.func27, Tryd.ntmps27
    go_wp2_with (go_at_call 58; refine hp.mono ?_; rintro e w2 ⟨rfl, hb2⟩)
    go_ret2
    exact ⟨rfl, hb2⟩
  | true =>
    rw [(pl_yes h1).1] at hp
    rw [if_pos rfl]
    have hlt := (pl_yes h1).2
    obtain ⟨g, a, c, -, -, -, c3, -, hle, hcm, hfl, -, hrow⟩ := h.cells
    obtain ⟨bb, rfl, hb, -, y1, -, -⟩ := hrow _ hlt
    have hi0 : (((plN x H : Nat) : Int) == -1) = false := beq_eq_false_iff_ne.2 (by omega)
    have hin : ((plN x H : Nat) : Int) < (H.length : Int) := by omega
    unfold maxLen at hcm
    unfold ofN
    generalize (atH H (plN x H)).st = s at *
    generalize plN x H = p at *
    generalize H.length = n at *
    clear h hrow h1
    go_enter Tryd.func27, Tryd.ntmps27
    go_wp2_with (go_at_call 58; refine hp.mono ?_; rintro e w2 ⟨rfl, hb2⟩; have z3 := (hb2.cell (p := ⟨f, 3, none⟩) hfl).trans c3; have z1 := (hb2.cell (p := ⟨bb, p * 3 + 1, none⟩) hb).trans y1)
    go_ret2
    exact ⟨rfl, hb2⟩
theorem fleaves_w (h : FIn w A f e gd H L M) (x : ByteArray) : Calls Tryd.prog 28 #[.pointer (some ⟨f, 0, none⟩), .string x] w fun r w' => r = .returned (.bool (lvF x H)) ∧ Below w.heap.size w w' := by
  have hp := fplace_w h x
  unfold lvF
  cases h1 : isH x H with
  | false =>
    rw [pl_no h1] at hp
    clear h
    go_enter Tryd.func28, Tryd.ntmps28
    go_wp2_with (go_at_call 58; refine hp.mono ?_; rintro e w2 ⟨rfl, hb2⟩)
    go_ret
    exact ⟨rfl, hb2⟩
  | true =>
    rw [(pl_yes h1).1] at hp
    rw [Bool.true_and]
    have hlt := (pl_yes h1).2
    obtain ⟨g, a, c, -, -, -, c3, -, hle, hcm, hfl, -, hrow⟩ := h.cells
    obtain ⟨bb, rfl, hb, -, -, y1, -⟩ := hrow _ hlt
    have hi0 : (((plN x H : Nat) : Int) != -1) = true := bne_iff_ne.2 (by omega)
    have hin : ((plN x H : Nat) : Int) < (H.length : Int) := by omega
    unfold maxLen at hcm
    unfold ofN
    generalize (atH H (plN x H)).lv = s at *
    generalize plN x H = p at *
    generalize H.length = n at *
    clear h hrow h1
    go_enter Tryd.func28, Tryd.ntmps28
    go_wp2_with (go_at_call 58; refine hp.mono ?_; rintro e w2 ⟨rfl, hb2⟩; have z3 := (hb2.cell (p := ⟨f, 3, none⟩) hfl).trans c3; have z1 := (hb2.cell (p := ⟨bb, p * 3 + 2, none⟩) hb).trans y1)
    go_ret
    exact ⟨rfl, hb2⟩

theorem may_step {w0 w1 w2 : World} {f : Nat} {x y : Value} (h : w1.cell? ⟨f, 1, none⟩ = some x ∧ w1.cell? ⟨f, 2, none⟩ = some y ∧ Below w0.heap.size w0 w1) (hb : Below w1.heap.size w1 w2) : w2.cell? ⟨f, 1, none⟩ = some x ∧ w2.cell? ⟨f, 2, none⟩ = some y ∧ Below w0.heap.size w0 w2 :=
  ⟨(hb.cell (p := ⟨f, 1, none⟩) (World.block_lt_of_cell? _ _ h.1)).trans h.1, (hb.cell (p := ⟨f, 2, none⟩) (World.block_lt_of_cell? _ _ h.2.1)).trans h.2.1, h.2.2.trans (hb.mono h.2.2.size)⟩
theorem ints_below {w w' : World} {a : Option Addr} {n c : Nat} {l : List Int} (h : IntsAt w a n c l) (hb : Below w.heap.size w w') : IntsAt w' a n c l := h.below (Nat.le_refl _) hb
theorem fmay_w (h : FIn w A f e gd H L M) (hl : H.length ≤ 4000) (x : ByteArray) :
    Calls Tryd.prog 56 #[.pointer (some ⟨f, 0, none⟩), .string x] w fun r w' => r = .returned (.bool (mayF x H e gd)) ∧ Below w.heap.size w w' := by
  have HS : Hid (∀ w', Below w.heap.size w w' → Calls Tryd.prog 35 #[.pointer (some ⟨f, 0, none⟩)] w' fun r w'' => r = .returned (.slice (some ⟨w'.heap.size, 0, none⟩) H.length H.length) ∧ IntsAt w'' (some ⟨w'.heap.size, 0, none⟩) H.length H.length (hz H) ∧ Below w'.heap.size w' w'') := fun w' hb => fstates_w (h.below hb) hl
  have HP : Hid (∀ w', Below w.heap.size w w' → Calls Tryd.prog 58 #[.pointer (some ⟨f, 0, none⟩), .string x] w' fun r w'' => r = .returned (.int .i64 (pl x H)) ∧ Below w'.heap.size w' w'') := fun w' hb => fplace_w (h.below hb) x
  have HM : Hid (∀ w' q, IntsAt w' (some ⟨q, 0, none⟩) H.length H.length (hz H) → Calls Tryd.prog 84 #[.slice (some ⟨q, 0, none⟩) H.length H.length, .int .i64 (pl x H), .int .i64 e, .int .i64 gd] w' fun r w'' => r = .returned (.bool (mayF x H e gd)) ∧ Below w'.heap.size w' w'') := fun w' q hi => Gd.may_any _ _ _ _ _ e gd w' (gd_ints hi)
  obtain ⟨g, a, c, -, c1, c2, -, -, -, -, hfl, -, -⟩ := h.cells
  have HB : Hid (Below w.heap.size w w.drew) := below_drewN (Below.refl _ w) 1
  generalize H.length = n at *
  generalize mayF x H e gd = b at *
  generalize pl x H = P at *
  clear h
  go_enter Tryd.func56, Tryd.ntmps56
  go_wp2_with fail
  go_region_held3 (fun w' => w'.cell? ⟨f, 1, none⟩ = some (.int .i64 e) ∧ w'.cell? ⟨f, 2, none⟩ = some (.int .i64 gd) ∧ Below w.heap.size w w')
    (first | exact ⟨c1, c2, HB.out⟩ | assumption | exact may_step (by assumption) hbx | go_keep)
    (first
      | (go_at_call 35; refine (HS.out _ (And.right (And.right (by assumption)))).mono ?_; rintro e wS ⟨rfl, hiS, hbx⟩)
      | (go_at_call 58; refine (HP.out _ (And.right (And.right (by assumption)))).mono ?_; rintro e wP ⟨rfl, hbx⟩)
      | (go_at_call 84; refine (HM.out _ _ (ints_below hiS hbx)).mono ?_; rintro e w4 ⟨rfl, hbx⟩)
      | (go_at_call 84; refine (HM.out _ _ hiS).mono ?_; rintro e w4 ⟨rfl, hbx⟩))
  all_goals (
    go_wp2
    go_ret
    exact ⟨rfl, And.right (And.right (by assumption))⟩)
end

end Go.Proofs.YtmlkpfkeeifgeaaDoor
