/-
  What the document's Ask does in every case. Conditions: its drains lie where they are said to lie, at most 900 in a row, a name is no longer than the greatest length.
-/
import Derived.Test.YthobihlnjcphaaaRAsk
namespace Go.Proofs.Ythobihlnjcphaaa
open Go.ChangeShapes Go.WideShapes Go.ChangeAt Go.RowKit

set_option maxHeartbeats 1000000 in
set_option maxRecDepth 100000 in
theorem rask_ok (w : World) (a0 a1 a2 : Option Addr) (n0 n1 n2 c0 c1 c2 : Nat) (L M : List Dr) (x : ByteArray) (hs : x.size ≤ maxLen) (hw : StrsAt w a0 n0 c0 (nms L)) (hwn : a0 = none → n0 = 0 ∧ c0 = 0) (hu : StrsAt w a1 n1 c1 (nms M)) (hE : askE x L M = 0) (hn : L.length = n0) :
    Calls Try.prog 12 #[.agg #[.slice a0 n0 c0, .slice a1 n1 c1, .slice a2 n2 c2], .string x] w fun e w' => ∃ v, e = .returned (.tuple #[.agg #[v, .slice a1 n1 c1, .slice a2 n2 c2], .int .i64 0]) ∧ TxAt w' v (nms L ++ [x]) ∧ (∀ k, v.ownBlock = some k → w.heap.size ≤ k ∧ k < w'.heap.size) ∧ Below w.heap.size w w' := by
  have hc : nameB x = true ∧ isIn x L = false ∧ isIn x M = false ∧ ¬ 16 ≤ L.length := by
    unfold askE at hE
    cases hnm : nameB x with
    | false => rw [hnm] at hE; simp at hE
    | true =>
      rw [hnm] at hE
      cases h1 : isIn x L with
      | true => rw [h1] at hE; simp at hE
      | false =>
        cases h2 : isIn x M with
        | true => rw [h1, h2] at hE; simp at hE
        | false =>
          rw [h1, h2] at hE
          refine ⟨rfl, rfl, rfl, fun h => ?_⟩
          simp [h] at hE
  obtain ⟨hnm, h1, h2, h16⟩ := hc
  have hB := Bx.new w (.slice a0 n0 c0) (.slice a1 n1 c1) (.slice a2 n2 c2)
  have hn1 := rname_any x hs ((w.alloc (.cells #[.slice a0 n0 c0, .slice a1 n1 c1, .slice a2 n2 c2] 29)).alloc (.cells #[.slice none 0 0, .slice none 0 0, .slice none 0 0] 29))
  have hp0 := place_any a0 n0 c0 (nms L) x _ (hw.below (Nat.le_refl _) hB.bel)
  have hp1 := place_any a1 n1 c1 (nms M) x _ (hu.below (Nat.le_refl _) hB.bel)
  have hT : TxAt w (.slice a0 n0 c0) (nms L) := by
    have e : (nms L).length = n0 := (nms_length L).trans hn
    exact ⟨a0, c0, by rw [e], by rw [e]; exact hw, by rw [e]; exact hwn⟩
  have hwi := with_any (.slice a0 n0 c0) (nms L) x _ (hT.below hB.bel) (by rw [nms_length]; omega)
  rw [hnm] at hn1
  rw [plc_not (isIn_not.1 h1)] at hp0
  rw [plc_not (isIn_not.1 h2)] at hp1
  have hlt : ¬ (16 : Int) ≤ (n0 : Int) := by omega
  obtain ⟨y0, y1, y2⟩ := hB.cells
  have hwc := hw.hle
  have hwm := hw.hcap
  unfold maxLen at hwm
  have HBX := Hid.mk' hB
  clear hB hE hw hu hT hwn
  go_enter Try.func12, Try.ntmps12
  go_wp2_with fail
  generalize (w.alloc (.cells #[.slice a0 n0 c0, .slice a1 n1 c1, .slice a2 n2 c2] 29)).alloc (.cells #[.slice none 0 0, .slice none 0 0, .slice none 0 0] 29) = w1 at *
  have HSZ : Hid (w.heap.size ≤ w1.heap.size) := HBX.out.bel.size
  obtain ⟨b2, hb2⟩ : ∃ b2, w.heap.size = b2 := ⟨_, rfl⟩
  obtain ⟨b4, hb4⟩ : ∃ b4, w.heap.size + 1 = b4 := ⟨_, rfl⟩
  have HBX2 : Hid (Bx w w1 b2 b4 (.slice a0 n0 c0) (.slice a1 n1 c1) (.slice a2 n2 c2)) := by rw [← hb2, ← hb4]; exact HBX.out
  rw [hb4]
  rw [hb2] at y0 y1 y2
  have HB22 := Hid.mk' hb2
  clear HBX hb4
  refine hn1.mono ?_
  rintro e w' ⟨rfl, hw'⟩
  subst w'
  go_wp2_with fail
  refine hp0.mono ?_
  rintro e w' ⟨rfl, hw'⟩
  subst w'
  clear hb2
  go_wp2_with fail
  refine hp1.mono ?_
  rintro e w' ⟨rfl, hw'⟩
  subst w'
  go_wp2_with fail
  refine hwi.mono ?_
  rintro e w5 ⟨v, rfl, hv5, hvb, hb5⟩
  have hx5 := HBX2.out.below hb5
  have HT5 := Hid.mk' hv5
  obtain ⟨av, cv, rfl, -, -⟩ := hv5
  obtain ⟨y0, y1, y2⟩ := hx5.cells
  have f0 := hx5.fz 0
  have h6 := hx5.set0 (.slice av (nms L ++ [x]).length cv)
  have HV5 := Hid.mk' hvb
  have HK6 := Hid.mk' (hx5.set 0 (.slice av (nms L ++ [x]).length cv)).1
  have HX6 := Hid.mk' h6
  clear hn1 hp0 hp1 hwi hx5 hb5 h6 hvb
  generalize (nms L ++ [x]).length = m at *
  go_upto_region 9 with fail
  generalize w5.setCell ⟨b2, 0, none⟩ (.slice av m cv) = w6 at *
  obtain ⟨y0, y1, y2⟩ := HX6.out.cells
  obtain ⟨d0, d1, d2⟩ := HX6.out.cells4
  have f0 := HX6.out.fz4 0
  have f1 := HX6.out.fz4 1
  have f2 := HX6.out.fz4 2
  have HO := Hid.mk' HX6.out.out
  obtain ⟨x0, x1, x2, _⟩ := blk3 HO.out.1
  go_wp2
  refine bodyPost_ret (v := .tuple #[.agg #[.slice av m cv, .slice a1 n1 c1, .slice a2 n2 c2], .int .i64 0]) (by simp [results, Try.results12, go_sem, x0, x1, x2]) rfl ?_
  have q2 := lt_of_heap HBX2.out.g2
  have q4 := lt_of_heap HBX2.out.g4
  have q5 := HSZ.out
  refine ⟨_, rfl, (HT5.out.keep HK6.out (fun k e => ?_)).keep HO.out.2.1 (fun k e => ?_), fun k e => ?_, HO.out.2.2⟩
  · have := HV5.out k e
    show k ≠ b2
    omega
  · have := HV5.out k e
    show k ≠ b4
    omega
  · have h1 := HV5.out k e
    have h2 := HK6.out.size
    have h3 := HO.out.2.1.size
    omega

theorem rask_any (w : World) (xv yv zv : Value) (L M : List Dr) (x : ByteArray) (hs : x.size ≤ maxLen) (h : RfAt w xv yv zv L M) :
    Calls Try.prog 12 #[.agg #[xv, yv, zv], .string x] w fun e w' => ∃ v, e = .returned (.tuple #[.agg #[v, yv, zv], .int .i64 (askE x L M)]) ∧ RfAt w' v yv zv (askL x L M) M ∧ From w w' xv yv zv v ∧ Below w.heap.size w w' := by
  have h' := h
  obtain ⟨⟨a0, c0, rfl, hw, hwn⟩, ⟨a1, c1, rfl, hu, hun⟩, ⟨a2, c2, rfl, hz, hzn⟩⟩ := h
  by_cases h0 : askE x L M = 0
  · have hL : askL x L M = L ++ [(x, 0)] := by
      unfold askE at h0
      unfold askL
      split at h0
      · simp at h0
      · rename_i q1
        rw [if_neg q1]
        split at h0
        · simp at h0
        · rename_i q2
          rw [if_neg q2]
          split at h0
          · simp at h0
          · rename_i q3
            rw [if_neg q3]
    rw [hL, h0]
    refine (rask_ok w a0 a1 a2 (nms L).length (nms M).length (M.map Prod.snd).length c0 c1 c2 L M x hs hw hwn hu h0 (nms_length L).symm).mono fun e w' ⟨v, he, ht, hb, hbl⟩ => ⟨v, he, ⟨?_, h'.un.below hbl, h'.at_.below hbl⟩, fun k hk => .inr (hb k hk), hbl⟩
    have e1 : nms (L ++ [(x, 0)]) = nms L ++ [x] := nms_append _ _
    rw [e1]
    exact ht
  · have hL : askL x L M = L := by
      unfold askE at h0
      unfold askL
      split
      · rfl
      · rename_i q1
        rw [if_neg q1] at h0
        split
        · rfl
        · rename_i q2
          rw [if_neg q2] at h0
          split
          · rfl
          · rename_i q3
            rw [if_neg q3] at h0
            exact absurd rfl h0
    rw [hL]
    exact (rask_no w a0 a1 a2 (nms L).length (nms M).length (M.map Prod.snd).length c0 c1 c2 L M x hs hw hu _ rfl h0 (nms_length L).symm).mono fun e w' ⟨he, hbl⟩ => ⟨_, he, h'.below hbl, fun k hk => .inl (.inl hk), hbl⟩

end Go.Proofs.Ythobihlnjcphaaa
