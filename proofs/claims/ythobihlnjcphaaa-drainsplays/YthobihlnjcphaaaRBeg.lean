/-
  What the document's Begin does. Conditions: its drains lie where they are said to lie, at most 800 in a row, a name is no longer than the greatest length.
-/
import Derived.Test.YthobihlnjcphaaaRAskO
namespace Go.Proofs.Ythobihlnjcphaaa
open Go.ChangeShapes Go.WideShapes Go.ChangeAt Go.RowKit

set_option maxHeartbeats 1000000 in
set_option maxRecDepth 100000 in
theorem rbeg_no (w : World) (a0 a1 a2 : Option Addr) (n0 n1 n2 c0 c1 c2 : Nat) (M : List Dr) (x : ByteArray) (d : Int) (hs : x.size ≤ maxLen) (hu : StrsAt w a1 n1 c1 (nms M)) (E : Int) (hE : begE x M = E) (h0 : E ≠ 0) :
    Calls Try.prog 14 #[.agg #[.slice a0 n0 c0, .slice a1 n1 c1, .slice a2 n2 c2], .string x, .int .i64 d] w fun e w' => e = .returned (.tuple #[.agg #[.slice a0 n0 c0, .slice a1 n1 c1, .slice a2 n2 c2], .int .i64 E]) ∧ Below w.heap.size w w' := by
  have hB := Bx.new w (.slice a0 n0 c0) (.slice a1 n1 c1) (.slice a2 n2 c2)
  have hn1 := rname_any x hs ((w.alloc (.cells #[.slice a0 n0 c0, .slice a1 n1 c1, .slice a2 n2 c2] 29)).alloc (.cells #[.slice none 0 0, .slice none 0 0, .slice none 0 0] 29))
  have hp1 := place_any a1 n1 c1 (nms M) x _ (hu.below (Nat.le_refl _) hB.bel)
  obtain ⟨y0, y1, y2⟩ := hB.cells
  obtain ⟨d0, d1, d2⟩ := hB.cells4
  have f0 := hB.fz4 0
  have f1 := hB.fz4 1
  have f2 := hB.fz4 2
  have HO := Hid.mk' hB.out
  have HE : Hid (begE x M = E) := hE
  clear hB hE hu
  go_enter Try.func14, Try.ntmps14
  go_wp2_with fail
  generalize (w.alloc (.cells #[.slice a0 n0 c0, .slice a1 n1 c1, .slice a2 n2 c2] 29)).alloc (.cells #[.slice none 0 0, .slice none 0 0, .slice none 0 0] 29) = w1 at *
  generalize w.heap.size + 1 = b4 at *
  obtain ⟨x0, x1, x2, _⟩ := blk3 HO.out.1
  cases hnm : nameB x with
  | false =>
    have he : E = 11 := by rw [← HE.out]; unfold begE; rw [hnm]; rfl
    subst he
    rw [hnm] at hn1
    refine hn1.mono ?_
    rintro e w' ⟨rfl, hw'⟩
    subst w'
    clear hp1
    go_wp2
    refine bodyPost_ret (v := .tuple #[.agg #[.slice a0 n0 c0, .slice a1 n1 c1, .slice a2 n2 c2], .int .i64 11]) (by simp [results, Try.results14, go_sem, x0, x1, x2]) rfl ?_
    exact ⟨rfl, HO.out.2.2⟩
  | true =>
    rw [hnm] at hn1
    refine hn1.mono ?_
    rintro e w' ⟨rfl, hw'⟩
    subst w'
    have h2 : isIn x M = true ∧ E = 6 := by
      have := HE.out
      unfold begE at this
      rw [hnm] at this
      simp only [reduceCtorEq, if_false] at this
      cases h2 : isIn x M with
      | true => rw [h2, if_pos rfl] at this; exact ⟨rfl, this.symm⟩
      | false => rw [h2] at this; simp at this; exact absurd this.symm h0
    obtain ⟨h2, rfl⟩ := h2
    rw [plc_mem (isIn_iff.1 h2)] at hp1
    have hge : (0 : Int) ≤ ((fidx x (nms M) : Nat) : Int) := by omega
    generalize fidx x (nms M) = F at *
    go_wp2_with fail
    refine hp1.mono ?_
    rintro e w' ⟨rfl, hw'⟩
    subst w'
    go_wp2
    refine bodyPost_ret (v := .tuple #[.agg #[.slice a0 n0 c0, .slice a1 n1 c1, .slice a2 n2 c2], .int .i64 6]) (by simp [results, Try.results14, go_sem, x0, x1, x2]) rfl ?_
    exact ⟨rfl, HO.out.2.2⟩

theorem wol_wo (x : ByteArray) (L : List Dr) : wol x (nms L) = nms (wo x L) := (nms_wo x L).symm

set_option maxHeartbeats 2000000 in
set_option maxRecDepth 100000 in
theorem rbeg_ok (w : World) (a0 a1 a2 : Option Addr) (n0 n1 n2 c0 c1 c2 : Nat) (L M : List Dr) (x : ByteArray) (d : Int) (hs : x.size ≤ maxLen) (hw : StrsAt w a0 n0 c0 (nms L)) (hu : StrsAt w a1 n1 c1 (nms M)) (hun : a1 = none → n1 = 0 ∧ c1 = 0) (hz : IntsAt w a2 n2 c2 (M.map Prod.snd)) (hzn : a2 = none → n2 = 0 ∧ c2 = 0)
    (hnm : nameB x = true) (h2 : isIn x M = false) (hl : n0 ≤ 800) (hl1 : n1 ≤ 800) (hl2 : n2 ≤ 800) (hm : (nms M).length = n1) (hm2 : (M.map Prod.snd).length = n2) :
    Calls Try.prog 14 #[.agg #[.slice a0 n0 c0, .slice a1 n1 c1, .slice a2 n2 c2], .string x, .int .i64 d] w fun e w' => ∃ v0 v1 v2, e = .returned (.tuple #[.agg #[v0, v1, v2], .int .i64 0]) ∧ RfAt w' v0 v1 v2 (wo x L) (M ++ [(x, cut d)]) ∧ (∀ k, v0.ownBlock = some k ∨ v1.ownBlock = some k ∨ v2.ownBlock = some k → w.heap.size ≤ k ∧ k < w'.heap.size) ∧ Below w.heap.size w w' := by
  have hB := Bx.new w (.slice a0 n0 c0) (.slice a1 n1 c1) (.slice a2 n2 c2)
  have hn1 := rname_any x hs ((w.alloc (.cells #[.slice a0 n0 c0, .slice a1 n1 c1, .slice a2 n2 c2] 29)).alloc (.cells #[.slice none 0 0, .slice none 0 0, .slice none 0 0] 29))
  have hp1 := place_any a1 n1 c1 (nms M) x _ (hu.below (Nat.le_refl _) hB.bel)
  rw [hnm] at hn1
  rw [plc_not (isIn_not.1 h2)] at hp1
  have hwo := without_any a0 n0 c0 (nms L) x _ (hw.below (Nat.le_refl _) hB.bel) (by omega)
  have hT1 : TxAt w (.slice a1 n1 c1) (nms M) := ⟨a1, c1, by rw [hm], by rw [hm]; exact hu, by rw [hm]; exact hun⟩
  have HT1 := Hid.mk' hT1
  have HZ := Hid.mk' hz
  obtain ⟨y0, y1, y2⟩ := hB.cells
  have HM : Hid ((nms M).length = n1 ∧ (M.map Prod.snd).length = n2) := ⟨hm, hm2⟩
  have HBX := Hid.mk' hB
  clear hB hw hu hT1 hun hz hm hm2
  go_enter Try.func14, Try.ntmps14
  go_wp2_with fail
  generalize (w.alloc (.cells #[.slice a0 n0 c0, .slice a1 n1 c1, .slice a2 n2 c2] 29)).alloc (.cells #[.slice none 0 0, .slice none 0 0, .slice none 0 0] 29) = w1 at *
  have HSZ : Hid (w.heap.size ≤ w1.heap.size) := HBX.out.bel.size
  obtain ⟨b2, hb2⟩ : ∃ b2, w.heap.size = b2 := ⟨_, rfl⟩
  obtain ⟨b4, hb4⟩ : ∃ b4, w.heap.size + 1 = b4 := ⟨_, rfl⟩
  have HBX2 : Hid (Bx w w1 b2 b4 (.slice a0 n0 c0) (.slice a1 n1 c1) (.slice a2 n2 c2)) := by rw [← hb2, ← hb4]; exact HBX.out
  rw [hb4]
  rw [hb2] at y0 y1 y2
  clear HBX hb4
  refine hn1.mono ?_
  rintro e w' ⟨rfl, hw'⟩
  subst w'
  go_wp2_with fail
  refine hp1.mono ?_
  rintro e w' ⟨rfl, hw'⟩
  subst w'
  clear hb2 hn1 hp1
  -- those that wait
  go_wp2_with fail
  refine hwo.mono ?_
  rintro e w3 ⟨v0, rfl, ho3, hb3⟩
  have hT3 := TxAt.own ho3
  have hx3 := HBX2.out.below hb3
  obtain ⟨av0, cv0, rfl, hs3, -⟩ := owns_strs ho3
  obtain ⟨y0, y1, y2⟩ := hx3.cells
  have f0 := hx3.fz 0
  have HX4 := Hid.mk' (hx3.set0 (.slice av0 (wol x (nms L)).length cv0))
  have HK4 := Hid.mk' (hx3.set 0 (.slice av0 (wol x (nms L)).length cv0)).1
  have HT3 := Hid.mk' hT3
  have HS3 := Hid.mk' hb3.size
  clear hwo ho3 hT3 hx3 hs3 hb3
  generalize (wol x (nms L)).length = m0 at *
  go_upto_region 7 with fail
  generalize hw4 : w3.setCell ⟨b2, 0, none⟩ (.slice av0 m0 cv0) = w4 at *
  clear hw4 y0 y1 y2 f0
  obtain ⟨y0, y1, y2⟩ := HX4.out.cells
  -- those under way
  have hwi := with_any (.slice a1 n1 c1) (nms M) x w4 (HT1.out.below HX4.out.bel) (by rw [HM.out.1]; omega)
  go_wp2_with fail
  refine hwi.mono ?_
  rintro e w5 ⟨v1, rfl, ht5, hvb5, hb5⟩
  have hx5 := HX4.out.below hb5
  have HT5 : Hid (TxAt w5 v1 (nms M ++ [x]) ∧ ∀ k, v1.ownBlock = some k → w4.heap.size ≤ k ∧ k < w5.heap.size) := ⟨ht5, hvb5⟩
  obtain ⟨av1, cv1, rfl, -, -⟩ := ht5
  clear hwi y0 y1 y2
  obtain ⟨y0, y1, y2⟩ := hx5.cells
  have f0 := hx5.fz 1
  have HX6 := Hid.mk' (hx5.set1 (.slice av1 (nms M ++ [x]).length cv1))
  have HK6 := Hid.mk' (hx5.set 1 (.slice av1 (nms M ++ [x]).length cv1)).1
  have HB5 := Hid.mk' hb5
  clear hx5 hvb5 hb5
  generalize (nms M ++ [x]).length = m1 at *
  go_upto_region 8 with fail
  generalize hw6 : w5.setCell ⟨b2, 1, none⟩ (.slice av1 m1 cv1) = w6 at *
  clear hw6 y0 y1 y2 f0
  -- the deadlines
  obtain ⟨y0, y1, y2⟩ := HX6.out.cells
  have o6 : w6.ownsRow w6.heap.size 3 1 (.slice none 0 0) 0 (ic []) := World.ownsRow_nil _ _ _ _
  have hI := HZ.out.below (Nat.le_refl _) HX6.out.bel
  have HZN := Hid.mk' hzn
  go_upto_region 10 with (at_builtin; refine wpList_ints _ rfl _ _ rfl w6.heap.size (.slice none 0 0) 0 [] (M.map Prod.snd) (M.map Prod.snd) rfl o6 a2 n2 c2 rfl hI HZN.out (by omega) (Nat.le_refl _) rfl n2 (by omega) ?_; intro v7 w7 o7 g7; obtain ⟨a7, cp7, rfl, -⟩ := owns_ints o7)
  have hb7 : Below w6.heap.size w6 w7 := (Below.refl _ w6).grown g7 (Nat.le_refl _) (fun j hj => by cases hj)
  have HB7 := Hid.mk' hb7
  have HO7 := Hid.mk' o7
  clear o6 hI g7 hb7 y0 y1 y2 o7
  have o77 := HO7.out.alloc (.cells #[.int .i64 (cut d)] 3)
  have hone := one_at w7 (cut d)
  have hx7 := HX6.out.below HB7.out
  obtain ⟨y0, y1, y2⟩ := hx7.cells
  clear hx7
  go_wp2_with (first
    | (go_at_call 37; refine (rcut_any _ _).mono ?_; rintro e w' ⟨rfl, hw'⟩; subst w')
    | (at_builtin; refine wpList_ints _ rfl _ _ rfl w6.heap.size (.slice a7 n2 cp7) n2 (M.map Prod.snd) [cut d] _ rfl o77 _ 1 1 rfl hone (fun h => by cases h) (by omega) (by have := HB7.out.size; simp; omega) rfl (n2 + 1) rfl ?_))
  intro v8 w8 o8 g8
  have hb8 : Below w6.heap.size w6 w8 := (HB7.out.alloc HB7.out.size _).grown g8 (by have := HB7.out.size; simp; omega) (fun j hj => (HO7.out.lt j hj).1)
  have hx8 := HX6.out.below hb8
  have e8 : n2 + 1 = (M.map Prod.snd ++ [cut d]).length := by rw [List.length_append, HM.out.2]; rfl
  have HI8 : Hid (IxAt w8 v8 (M.map Prod.snd ++ [cut d]) ∧ ∀ k, v8.ownBlock = some k → w6.heap.size ≤ k ∧ k < w8.heap.size) := by
    rw [e8] at o8
    exact IxAt.own o8
  obtain ⟨a8, cp8, rfl, -⟩ := owns_ints o8
  have HB8 := Hid.mk' hb8
  clear o77 hone o8 g8 hb8 e8 y0 y1 y2
  obtain ⟨y0, y1, y2⟩ := hx8.cells
  have f0 := hx8.fz 2
  have HX9 := Hid.mk' (hx8.set2 (.slice a8 (n2 + 1) cp8))
  have HK9 := Hid.mk' (hx8.set 2 (.slice a8 (n2 + 1) cp8)).1
  clear hx8
  go_upto_region 11 with fail
  generalize hw9 : w8.setCell ⟨b2, 2, none⟩ (.slice a8 (n2 + 1) cp8) = w9 at *
  clear hw9 y0 y1 y2 f0
  obtain ⟨y0, y1, y2⟩ := HX9.out.cells
  obtain ⟨d0, d1, d2⟩ := HX9.out.cells4
  have f0 := HX9.out.fz4 0
  have f1 := HX9.out.fz4 1
  have f2 := HX9.out.fz4 2
  have HO := Hid.mk' HX9.out.out
  obtain ⟨x0, x1, x2, _⟩ := blk3 HO.out.1
  go_wp2
  refine bodyPost_ret (v := .tuple #[.agg #[.slice av0 m0 cv0, .slice av1 m1 cv1, .slice a8 (n2 + 1) cp8], .int .i64 0]) (by simp [results, Try.results14, go_sem, x0, x1, x2]) rfl ?_
  have q2 := lt_of_heap HBX2.out.g2
  have q4 := lt_of_heap HBX2.out.g4
  have s4 := HK4.out.size
  have s5 := HB5.out.size
  have s6 := HK6.out.size
  have s8 := HB8.out.size
  have s9 := HK9.out.size
  have s0 := HSZ.out
  have s3 := HS3.out
  have k8 : Keep (fun k => k ≠ b2 ∧ k ≠ b4) w8 _ := (HK9.out.mono fun k _ h => h.1).trans (HO.out.2.1.mono fun k _ h => h.2)
  have k5 : Keep (fun k => k ≠ b2 ∧ k ≠ b4) w5 _ := ((HK6.out.mono fun k _ h => h.1).trans (keep_below HB8.out)).trans k8
  have k3 : Keep (fun k => k ≠ b2 ∧ k ≠ b4) w3 _ := ((HK4.out.mono fun k _ h => h.1).trans (keep_below HB5.out)).trans k5
  have sf := HO.out.2.1.size
  refine ⟨_, _, _, rfl, ⟨?_, ?_, ?_⟩, fun k hk => ?_, HO.out.2.2⟩
  · rw [← wol_wo]
    exact HT3.out.1.keep k3 (fun k e => by have := HT3.out.2 k e; omega)
  · have e1 : nms (M ++ [(x, cut d)]) = nms M ++ [x] := nms_append _ _
    rw [e1]
    exact HT5.out.1.keep k5 (fun k e => by have := HT5.out.2 k e; omega)
  · rw [List.map_append]
    exact HI8.out.1.keep k8 (fun k e => by have := HI8.out.2 k e; omega)
  · rcases hk with e | e | e
    · have := HT3.out.2 k e
      omega
    · have := HT5.out.2 k e
      omega
    · have := HI8.out.2 k e
      omega

theorem rbeg_any (w : World) (xv yv zv : Value) (L M : List Dr) (x : ByteArray) (d : Int) (hs : x.size ≤ maxLen) (h : RfAt w xv yv zv L M) (hl : L.length ≤ 800) (hm : M.length ≤ 800) :
    Calls Try.prog 14 #[.agg #[xv, yv, zv], .string x, .int .i64 d] w fun e w' => ∃ v0 v1 v2, e = .returned (.tuple #[.agg #[v0, v1, v2], .int .i64 (begE x M)]) ∧ RfAt w' v0 v1 v2 (begL x L M) (begM x d M) ∧ (From w w' xv yv zv v0 ∧ From w w' xv yv zv v1 ∧ From w w' xv yv zv v2) ∧ Below w.heap.size w w' := by
  have h' := h
  obtain ⟨⟨a0, c0, rfl, hw, hwn⟩, ⟨a1, c1, rfl, hu, hun⟩, ⟨a2, c2, rfl, hz, hzn⟩⟩ := h
  unfold begL begM
  cases hnm : nameB x with
  | false =>
    have hE : begE x M = 11 := by unfold begE; rw [hnm]; rfl
    simp only [if_true]
    rw [hE]
    exact (rbeg_no w a0 a1 a2 (nms L).length (nms M).length (M.map Prod.snd).length c0 c1 c2 M x d hs hu 11 hE (by decide)).mono fun e w' ⟨he, hbl⟩ => ⟨_, _, _, he, h'.below hbl, ⟨fun k hk => .inl (.inl hk), fun k hk => .inl (.inr (.inl hk)), fun k hk => .inl (.inr (.inr hk))⟩, hbl⟩
  | true =>
    simp only [reduceCtorEq, if_false]
    cases h2 : isIn x M with
    | true =>
      have hE : begE x M = 6 := by unfold begE; rw [hnm, h2]; rfl
      simp only [if_true]
      rw [hE]
      exact (rbeg_no w a0 a1 a2 (nms L).length (nms M).length (M.map Prod.snd).length c0 c1 c2 M x d hs hu 6 hE (by decide)).mono fun e w' ⟨he, hbl⟩ => ⟨_, _, _, he, h'.below hbl, ⟨fun k hk => .inl (.inl hk), fun k hk => .inl (.inr (.inl hk)), fun k hk => .inl (.inr (.inr hk))⟩, hbl⟩
    | false =>
      have hE : begE x M = 0 := by unfold begE; rw [hnm, h2]; rfl
      simp only [reduceCtorEq, if_false]
      rw [hE]
      exact (rbeg_ok w a0 a1 a2 (nms L).length (nms M).length (M.map Prod.snd).length c0 c1 c2 L M x d hs hw hu hun hz hzn hnm h2 (by rw [nms_length]; exact hl) (by rw [nms_length]; exact hm) (by rw [List.length_map]; exact hm) rfl rfl).mono fun e w' ⟨v0, v1, v2, he, hr, hb, hbl⟩ => ⟨v0, v1, v2, he, hr, ⟨fun k hk => .inr (hb k (.inl hk)), fun k hk => .inr (hb k (.inr (.inl hk))), fun k hk => .inr (hb k (.inr (.inr hk)))⟩, hbl⟩

end Go.Proofs.Ythobihlnjcphaaa
