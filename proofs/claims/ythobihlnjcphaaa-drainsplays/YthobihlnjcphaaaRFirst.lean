/-
  What the document's First does. Conditions: its drains lie where they are said to lie; the list of those that may reads as texts.
-/
import Derived.Test.YthobihlnjcphaaaRBeg
namespace Go.Proofs.Ythobihlnjcphaaa
open Go.ChangeShapes Go.WideShapes Go.ChangeAt Go.RowKit

/-- May the first one go? -/
def fB (ms : List ByteArray) (L : List Dr) : Bool := decide (0 < L.length) && hasB ms (nthD L 0).1
theorem hasB_plc (ms : List ByteArray) (x : ByteArray) : hasB ms x = decide (0 ≤ plc x ms) := by
  cases h : hasB ms x with
  | true => exact (decide_eq_true (plc_ge.2 (hasB_iff.1 h))).symm
  | false => exact (decide_eq_false (fun e => hasB_not.1 h (plc_ge.1 e))).symm

set_option maxHeartbeats 2000000 in
set_option maxRecDepth 100000 in
theorem rfirst_no (w : World) (a0 a1 a2 am : Option Addr) (n0 n1 n2 c0 c1 c2 nm cm : Nat) (L : List Dr) (ms : List ByteArray) (hw : StrsAt w a0 n0 c0 (nms L)) (hms : StrsAt w am nm cm ms) (hm : L.length = n0) (hf : fB ms L = false) :
    Calls Try.prog 18 #[.agg #[.slice a0 n0 c0, .slice a1 n1 c1, .slice a2 n2 c2], .slice am nm cm] w fun e w' => e = .returned (.tuple #[.agg #[.slice a0 n0 c0, .slice a1 n1 c1, .slice a2 n2 c2], .string ⟨#[]⟩, .bool false]) ∧ Below w.heap.size w w' := by
  have hB := Bx.new w (.slice a0 n0 c0) (.slice a1 n1 c1) (.slice a2 n2 c2)
  have HW := Hid.mk' (hw.below (Nat.le_refl _) hB.bel)
  have HMS := Hid.mk' (hms.below (Nat.le_refl _) hB.bel)
  obtain ⟨y0, y1, y2⟩ := hB.cells
  obtain ⟨d0, d1, d2⟩ := hB.cells4
  have f0 := hB.fz4 0
  have f1 := hB.fz4 1
  have f2 := hB.fz4 2
  have HO := Hid.mk' hB.out
  have hle := hw.hle
  have hcap := hw.hcap
  unfold maxLen at hcap
  clear hB hw hms
  by_cases h0 : 0 < n0
  · obtain ⟨b, off, rfl, _, hc⟩ := HW.out.at_ 0 h0
    rw [nms_getD, Nat.add_zero] at hc
    have hh : hasB ms (nthD L 0).1 = false := by
      unfold fB at hf
      rw [decide_eq_true (show 0 < L.length by omega), Bool.true_and] at hf
      exact hf
    have hpl := place_any am nm cm ms (nthD L 0).1 _ HMS.out
    have hneg : plc (nthD L 0).1 ms < 0 := by
      rw [hasB_plc] at hh
      have := of_decide_eq_false hh
      omega
    have hn0 : ((n0 : Int) == 0) = false := by rw [beq_eq_false_iff_ne]; omega
    have hn1 : (0 : Int) < (n0 : Int) := by omega
    generalize (nthD L 0).1 = x at *
    generalize plc x ms = P at *
    clear hf hh
    go_enter Try.func18, Try.ntmps18
    go_wp2_with fail
    generalize (w.alloc (.cells #[.slice (some ⟨b, off, none⟩) n0 c0, .slice a1 n1 c1, .slice a2 n2 c2] 29)).alloc (.cells #[.slice none 0 0, .slice none 0 0, .slice none 0 0] 29) = w1 at *
    generalize w.heap.size + 1 = b4 at *
    obtain ⟨x0, x1, x2, _⟩ := blk3 HO.out.1
    refine hpl.mono ?_
    rintro e w' ⟨rfl, hw'⟩
    subst w'
    go_wp2
    refine bodyPost_ret (v := .tuple #[.agg #[.slice (some ⟨b, off, none⟩) n0 c0, .slice a1 n1 c1, .slice a2 n2 c2], .string ⟨#[]⟩, .bool false]) (by simp [results, Try.results18, go_sem, x0, x1, x2]) rfl ?_
    exact ⟨rfl, HO.out.2.2⟩
  · obtain rfl : n0 = 0 := by omega
    clear hf
    go_enter Try.func18, Try.ntmps18
    go_wp2_with fail
    have hx : ((w.alloc (.cells #[.slice a0 0 c0, .slice a1 n1 c1, .slice a2 n2 c2] 29)).alloc (.cells #[.slice a0 0 c0, .slice a1 n1 c1, .slice a2 n2 c2] 29)).heap[w.heap.size + 1]? = some (.cells #[.slice a0 0 c0, .slice a1 n1 c1, .slice a2 n2 c2] 29 (0, 0)) := by
      have := heap_alloc_new (w.alloc (.cells #[.slice a0 0 c0, .slice a1 n1 c1, .slice a2 n2 c2] 29)) (.cells #[.slice a0 0 c0, .slice a1 n1 c1, .slice a2 n2 c2] 29)
      rwa [World.size_alloc] at this
    obtain ⟨x0, x1, x2, _⟩ := blk3 hx
    refine bodyPost_ret (v := .tuple #[.agg #[.slice a0 0 c0, .slice a1 n1 c1, .slice a2 n2 c2], .string ⟨#[]⟩, .bool false]) (by simp [results, Try.results18, go_sem, x0, x1, x2]) rfl ?_
    exact ⟨rfl, ((Below.refl _ w).alloc (Nat.le_refl _) _).alloc (by simp) _⟩

theorem tail_strs {w : World} {b off n c : Nat} {ss : List ByteArray} (h : StrsAt w (some ⟨b, off, none⟩) n c ss) (h0 : 0 < n) : StrsAt w (some ⟨b, if c = 1 then off else off + 1, none⟩) (n - 1) (c - 1) (ss.drop 1) := by
  have hle := h.hle
  have hcap := h.hcap
  refine ⟨by rw [List.length_drop, h.hlen], by omega, by omega, fun j hj => ?_⟩
  obtain ⟨b', off', e, hlt, hc⟩ := h.at_ (j + 1) (by omega)
  cases e
  refine ⟨b, _, rfl, hlt, ?_⟩
  rw [if_neg (by omega), show off + 1 + j = off + (j + 1) by omega, hc]
  simp [List.getD]

set_option maxHeartbeats 2000000 in
set_option maxRecDepth 100000 in
theorem rfirst_yes (w : World) (a0 a1 a2 am : Option Addr) (n0 n1 n2 c0 c1 c2 nm cm : Nat) (L : List Dr) (ms : List ByteArray) (hw : StrsAt w a0 n0 c0 (nms L)) (hms : StrsAt w am nm cm ms) (hm : L.length = n0) (hf : fB ms L = true) :
    Calls Try.prog 18 #[.agg #[.slice a0 n0 c0, .slice a1 n1 c1, .slice a2 n2 c2], .slice am nm cm] w fun e w' => ∃ v, e = .returned (.tuple #[.agg #[v, .slice a1 n1 c1, .slice a2 n2 c2], .string (nthD L 0).1, .bool true]) ∧ TxAt w' v (nms (L.drop 1)) ∧ (∀ k, v.ownBlock = some k → (Value.slice a0 n0 c0).ownBlock = some k) ∧ Below w.heap.size w w' := by
  have hB := Bx.new w (.slice a0 n0 c0) (.slice a1 n1 c1) (.slice a2 n2 c2)
  have hb := hB.bel
  have HW := Hid.mk' hw
  have HMS := Hid.mk' (hms.below (Nat.le_refl _) hB.bel)
  obtain ⟨y0, y1, y2⟩ := hB.cells
  have hle := hw.hle
  have hcap := hw.hcap
  unfold maxLen at hcap
  unfold fB at hf
  rw [Bool.and_eq_true, decide_eq_true_eq] at hf
  obtain ⟨hf0, hh⟩ := hf
  have h0 : 0 < n0 := by omega
  obtain ⟨b, off, rfl, _, hc⟩ := (hw.below (Nat.le_refl _) hb).at_ 0 h0
  rw [nms_getD, Nat.add_zero] at hc
  have hpl := place_any am nm cm ms (nthD L 0).1 _ HMS.out
  have hpos : 0 ≤ plc (nthD L 0).1 ms := by
    rw [hasB_plc] at hh
    exact of_decide_eq_true hh
  have hn0 : ((n0 : Int) == 0) = false := by rw [beq_eq_false_iff_ne]; omega
  have hn1 : (0 : Int) < (n0 : Int) := by omega
  have hn2 : (1 : Int) ≤ (n0 : Int) := by omega
  have HD : Hid (nms (L.drop 1) = (nms L).drop 1) := by show _ = _; unfold nms; rw [List.map_drop]
  have HBX := Hid.mk' hB
  generalize (nthD L 0).1 = x at *
  generalize plc x ms = P at *
  clear hB hw hms hh hf0 hm hb
  go_enter Try.func18, Try.ntmps18
  go_wp2_with fail
  generalize (w.alloc (.cells #[.slice (some ⟨b, off, none⟩) n0 c0, .slice a1 n1 c1, .slice a2 n2 c2] 29)).alloc (.cells #[.slice none 0 0, .slice none 0 0, .slice none 0 0] 29) = w1 at *
  obtain ⟨b2, hb2⟩ : ∃ b2, w.heap.size = b2 := ⟨_, rfl⟩
  obtain ⟨b4, hb4⟩ : ∃ b4, w.heap.size + 1 = b4 := ⟨_, rfl⟩
  have HBX2 : Hid (Bx w w1 b2 b4 (.slice (some ⟨b, off, none⟩) n0 c0) (.slice a1 n1 c1) (.slice a2 n2 c2)) := by rw [← hb2, ← hb4]; exact HBX.out
  rw [hb4, hb2]
  rw [hb2] at y0 y1 y2
  clear HBX hb4 hb2
  refine hpl.mono ?_
  rintro e w' ⟨rfl, hw'⟩
  subst w'
  have f0 := HBX2.out.fz 0
  by_cases hc1 : c0 = 1
  · have hn01 : n0 = 1 := by omega
    subst hc1 hn01
    have HTS : Hid (StrsAt w (some ⟨b, off, none⟩) 0 0 ((nms L).drop 1)) := by
      have := tail_strs HW.out h0
      rwa [if_pos rfl] at this
    have HX6 := Hid.mk' (HBX2.out.set0 (.slice (some ⟨b, off, none⟩) 0 0))
    have HK6 := Hid.mk' (HBX2.out.set 0 (.slice (some ⟨b, off, none⟩) 0 0)).1
    go_upto_region 5 with fail
    generalize w1.setCell ⟨b2, 0, none⟩ (.slice (some ⟨b, off, none⟩) 0 0) = w6 at *
    clear y0 y1 y2 f0
    obtain ⟨y0, y1, y2⟩ := HX6.out.cells
    obtain ⟨d0, d1, d2⟩ := HX6.out.cells4
    have f0 := HX6.out.fz4 0
    have f1 := HX6.out.fz4 1
    have f2 := HX6.out.fz4 2
    have HO := Hid.mk' HX6.out.out
    obtain ⟨x0, x1, x2, _⟩ := blk3 HO.out.1
    go_wp2
    refine bodyPost_ret (v := .tuple #[.agg #[.slice (some ⟨b, off, none⟩) 0 0, .slice a1 n1 c1, .slice a2 n2 c2], .string x, .bool true]) (by simp [results, Try.results18, go_sem, x0, x1, x2]) rfl ?_
    have hl : (nms (L.drop 1)).length = 0 := by rw [HD.out, List.length_drop, HW.out.hlen]
    refine ⟨_, rfl, ⟨_, _, by rw [hl], ?_, fun e => by cases e⟩, fun k hk => by cases hk; rfl, HO.out.2.2⟩
    rw [hl, HD.out]
    exact HTS.out.below (Nat.le_refl _) HO.out.2.2
  · have hc2 : ¬ (c0 : Int) = 1 := by omega
    have HTS : Hid (StrsAt w (some ⟨b, off + 1, none⟩) (n0 - 1) (c0 - 1) ((nms L).drop 1)) := by
      have := tail_strs HW.out h0
      rwa [if_neg hc1] at this
    have HX6 := Hid.mk' (HBX2.out.set0 (.slice (some ⟨b, off + 1, none⟩) (n0 - 1) (c0 - 1)))
    have HK6 := Hid.mk' (HBX2.out.set 0 (.slice (some ⟨b, off + 1, none⟩) (n0 - 1) (c0 - 1))).1
    go_upto_region 5 with fail
    generalize w1.setCell ⟨b2, 0, none⟩ (.slice (some ⟨b, off + 1, none⟩) (n0 - 1) (c0 - 1)) = w6 at *
    clear y0 y1 y2 f0
    obtain ⟨y0, y1, y2⟩ := HX6.out.cells
    obtain ⟨d0, d1, d2⟩ := HX6.out.cells4
    have f0 := HX6.out.fz4 0
    have f1 := HX6.out.fz4 1
    have f2 := HX6.out.fz4 2
    have HO := Hid.mk' HX6.out.out
    obtain ⟨x0, x1, x2, _⟩ := blk3 HO.out.1
    go_wp2
    refine bodyPost_ret (v := .tuple #[.agg #[.slice (some ⟨b, off + 1, none⟩) (n0 - 1) (c0 - 1), .slice a1 n1 c1, .slice a2 n2 c2], .string x, .bool true]) (by simp [results, Try.results18, go_sem, x0, x1, x2]) rfl ?_
    have hl : (nms (L.drop 1)).length = (n0 - 1) := by rw [HD.out, List.length_drop, HW.out.hlen]
    refine ⟨_, rfl, ⟨_, _, by rw [hl], ?_, fun e => by cases e⟩, fun k hk => by cases hk; rfl, HO.out.2.2⟩
    rw [hl, HD.out]
    exact HTS.out.below (Nat.le_refl _) HO.out.2.2

theorem rfirst_any (w : World) (xv yv zv : Value) (am : Option Addr) (nm cm : Nat) (L M : List Dr) (ms : List ByteArray) (h : RfAt w xv yv zv L M) (hms : StrsAt w am nm cm ms) :
    Calls Try.prog 18 #[.agg #[xv, yv, zv], .slice am nm cm] w fun e w' => ∃ v, e = .returned (.tuple #[.agg #[v, yv, zv], .string (if fB ms L = true then (nthD L 0).1 else ⟨#[]⟩), .bool (fB ms L)]) ∧ RfAt w' v yv zv (if fB ms L = true then L.drop 1 else L) M ∧ From w w' xv yv zv v ∧ Below w.heap.size w w' := by
  have h' := h
  obtain ⟨⟨a0, c0, rfl, hw, hwn⟩, ⟨a1, c1, rfl, hu, hun⟩, ⟨a2, c2, rfl, hz, hzn⟩⟩ := h
  cases hf : fB ms L with
  | false =>
    exact (rfirst_no w a0 a1 a2 am _ _ _ c0 c1 c2 nm cm L ms hw hms (nms_length L).symm hf).mono fun e w' ⟨he, hbl⟩ => ⟨_, he, h'.below hbl, fun k hk => .inl (.inl hk), hbl⟩
  | true =>
    exact (rfirst_yes w a0 a1 a2 am _ _ _ c0 c1 c2 nm cm L ms hw hms (nms_length L).symm hf).mono fun e w' ⟨v, he, ht, hb, hbl⟩ => ⟨v, he, ⟨ht, h'.un.below hbl, h'.at_.below hbl⟩, fun k hk => .inl (.inl (hb k hk)), hbl⟩

end Go.Proofs.Ythobihlnjcphaaa
