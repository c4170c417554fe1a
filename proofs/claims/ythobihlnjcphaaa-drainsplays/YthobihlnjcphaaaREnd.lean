/-
  What the document's End does. Conditions: its drains lie where they are said to lie, at most 800 in a row.
-/
import Derived.Test.YthobihlnjcphaaaRBeg
import Derived.Test.YthobihlnjcphaaaRDue
namespace Go.Proofs.Ythobihlnjcphaaa
open Go.ChangeShapes Go.WideShapes Go.ChangeAt Go.RowKit

/-- The deadlines without a name's. -/
def woa (x : ByteArray) (M : List Dr) : List Int := (wo x M).map Prod.snd
theorem woa_yes {x : ByteArray} {M : List Dr} {i : Nat} (h : i < M.length) (hp : ¬ (nthD M i).1 = x) : woa x (M.take (i + 1)) = woa x (M.take i) ++ [(nthD M i).2] := by
  unfold woa wo
  rw [takeD_snoc h, List.filter_append, List.map_append]
  simp [hp]
theorem woa_no {x : ByteArray} {M : List Dr} {i : Nat} (h : i < M.length) (hp : (nthD M i).1 = x) : woa x (M.take (i + 1)) = woa x (M.take i) := by
  unfold woa wo
  rw [takeD_snoc h, List.filter_append, List.map_append]
  simp [hp]
theorem woa_len (x : ByteArray) (M : List Dr) : (woa x M).length ≤ M.length := by unfold woa; rw [List.length_map]; exact wo_len x M

set_option maxHeartbeats 4000000 in
set_option maxRecDepth 100000 in
theorem rend_c (w : World) (a0 a1 a2 : Option Addr) (n0 n1 c0 c1 c2 : Nat) (L M : List Dr) (x : ByteArray) (hw : StrsAt w a0 n0 c0 (nms L)) (hu : StrsAt w a1 n1 c1 (nms M)) (hz : IntsAt w a2 n1 c2 (M.map Prod.snd))
    (hl : n0 ≤ 800) (hl1 : n1 ≤ 800) (hm : M.length = n1) :
    Calls Try.prog 16 #[.agg #[.slice a0 n0 c0, .slice a1 n1 c1, .slice a2 n1 c2], .string x] w fun e w' => ∃ v0 v1 v2, e = .returned (.tuple #[.agg #[v0, v1, v2], .bool (isIn x L || isIn x M)]) ∧ RfAt w' v0 v1 v2 (wo x L) (wo x M) ∧ (∀ k, v0.ownBlock = some k ∨ v1.ownBlock = some k ∨ v2.ownBlock = some k → w.heap.size ≤ k ∧ k < w'.heap.size) ∧ Below w.heap.size w w' := by
  obtain ⟨i0, hi, hz0, hz1, hz2⟩ := info_parts info3
  have hB := Bx.new w (.slice a0 n0 c0) (.slice a1 n1 c1) (.slice a2 n1 c2)
  have hp0 := place_any a0 n0 c0 (nms L) x _ (hw.below (Nat.le_refl _) hB.bel)
  have hp1 := place_any a1 n1 c1 (nms M) x _ (hu.below (Nat.le_refl _) hB.bel)
  have hwo := without_any a0 n0 c0 (nms L) x _ (hw.below (Nat.le_refl _) hB.bel) (by omega)
  have HU := Hid.mk' hu
  have HZ := Hid.mk' hz
  have HM := Hid.mk' hm
  obtain ⟨y0, y1, y2⟩ := hB.cells
  have hule := hu.hle
  have hucap := hu.hcap
  have hzle := hz.hle
  have hzcap := hz.hcap
  unfold maxLen at hucap hzcap
  have HBX := Hid.mk' hB
  have HT : Hid (M.take n1 = M) := by show _ = _; rw [← hm, List.take_length]
  clear hB hw hu hz hm
  go_enter Try.func16, Try.ntmps16
  go_upto_region 1 with fail
  generalize (w.alloc (.cells #[.slice a0 n0 c0, .slice a1 n1 c1, .slice a2 n1 c2] 29)).alloc (.cells #[.slice none 0 0, .slice none 0 0, .slice none 0 0] 29) = w1 at *
  have HSZ : Hid (w.heap.size ≤ w1.heap.size) := HBX.out.bel.size
  obtain ⟨b2, hb2⟩ : ∃ b2, w.heap.size = b2 := ⟨_, rfl⟩
  obtain ⟨b4, hb4⟩ : ∃ b4, w.heap.size + 1 = b4 := ⟨_, rfl⟩
  have HBX2 : Hid (Bx w w1 b2 b4 (.slice a0 n0 c0) (.slice a1 n1 c1) (.slice a2 n1 c2)) := by rw [← hb2, ← hb4]; exact HBX.out
  rw [hb4, hb2]
  rw [hb2] at y0 y1 y2
  clear HBX hb4 hb2
  obtain ⟨was, hwas⟩ : ∃ was, (isIn x L || isIn x M) = was := ⟨_, rfl⟩
  have HWAS := Hid.mk' hwas
  go_cut [6] from 9 to 20 (fun v6 wx => v6 = .bool was ∧ wx = w1)
  case first =>
    go_wp2_with fail
    refine hp0.mono ?_
    rintro e w' ⟨rfl, hw'⟩
    subst w'
    cases h1 : isIn x L with
    | true =>
      rw [plc_mem (isIn_iff.1 h1)]
      have hge : (0 : Int) ≤ ((fidx x (nms L) : Nat) : Int) := by omega
      have hwt : true = was := by rw [← hwas, h1]; rfl
      generalize fidx x (nms L) = F at *
      clear hp1 hwo
      go_wp2
      go_meet
      exact ⟨by first | rw [← hwt] | (rw [← hwt]; rfl), rfl⟩
    | false =>
      rw [plc_not (isIn_not.1 h1)]
      go_wp2_with fail
      refine hp1.mono ?_
      rintro e w' ⟨rfl, hw'⟩
      subst w'
      cases h2 : isIn x M with
      | true =>
        rw [plc_mem (isIn_iff.1 h2)]
        have hge : (0 : Int) ≤ ((fidx x (nms M) : Nat) : Int) := by omega
        have hwt : true = was := by rw [← hwas, h1, h2]; rfl
        generalize fidx x (nms M) = F at *
        clear hwo
        go_wp2
        go_meet
        exact ⟨by first | rw [← hwt] | (rw [← hwt]; rfl), rfl⟩
      | false =>
        rw [plc_not (isIn_not.1 h2)]
        have HWT : Hid (was = false) := by show _ = _; rw [← hwas, h1, h2]; rfl
        clear hwo hwas
        go_wp2
        go_meet
        exact ⟨by rw [HWT.out], rfl⟩
  case rest =>
    obtain ⟨rfl, hwc⟩ := hcut
    subst hwc
    -- those that wait
    go_wp2_with fail
    refine hwo.mono ?_
    rintro e w3 ⟨v0, rfl, ho3, hb3⟩
    have HT3 := Hid.mk' (TxAt.own ho3)
    have hx3 := HBX2.out.below hb3
    obtain ⟨av0, cv0, rfl, -, -⟩ := owns_strs ho3
    obtain ⟨y0, y1, y2⟩ := hx3.cells
    have f0 := hx3.fz 0
    have HX4 := Hid.mk' (hx3.set0 (.slice av0 (wol x (nms L)).length cv0))
    have HK4 := Hid.mk' (hx3.set 0 (.slice av0 (wol x (nms L)).length cv0)).1
    have HS3 := Hid.mk' hb3.size
    clear hwo ho3 hx3 hb3 hp0 hp1
    generalize (wol x (nms L)).length = m0 at *
    go_upto_region 3 with fail
    generalize hw4 : w3.setCell ⟨b2, 0, none⟩ (.slice av0 m0 cv0) = w4 at *
    clear hw4 y0 y1 y2 f0
    have HU4 := Hid.mk' (HU.out.below (Nat.le_refl _) HX4.out.bel)
    have HZ4 := Hid.mk' (HZ.out.below (Nat.le_refl _) HX4.out.bel)
    go_wp2
    go_loopw [8, 7] (fun v8 v wr => ∃ i : Nat, v8 = .int .i64 i ∧ i ≤ n1 ∧ wr.ownsRow w4.heap.size 3 1 v (woa x (M.take i)).length (ic (woa x (M.take i))) ∧ Below w4.heap.size w4 wr) (fun v8 _ _ => n1 + 1 - (intOf v8).toNat)
    case atStart => exact ⟨0, rfl, Nat.zero_le _, by simpa [woa, wo, ic] using World.ownsRow_nil _ _ _ _, Below.refl _ _⟩
    case round =>
      obtain ⟨i, rfl, hin0, hown, hbel⟩ := hrel
      obtain ⟨y0, y1, y2⟩ := (HX4.out.below hbel).cells
      by_cases hin : i < n1
      · obtain ⟨b, off, e1, hb, hc⟩ := (HU4.out.below (Nat.le_refl _) hbel).at_ i hin
        obtain ⟨b', off', e2, hb', hc'⟩ := (HZ4.out.below (Nat.le_refl _) hbel).at_ i hin
        subst e1 e2
        rw [nms_getD] at hc
        rw [snd_getD] at hc'
        have hiM : i < M.length := by rw [HM.out]; exact hin
        have HY : Hid (¬ (nthD M i).1 = x → woa x (M.take (i + 1)) = woa x (M.take i) ++ [(nthD M i).2]) := woa_yes hiM
        have HN : Hid ((nthD M i).1 = x → woa x (M.take (i + 1)) = woa x (M.take i)) := woa_no hiM
        have hdl := woa_len x (M.take i)
        rw [List.length_take] at hdl
        generalize woa x (M.take i) = l at *
        generalize (nthD M i).1 = f at *
        generalize (nthD M i).2 = dd at *
        clear hiM
        by_cases he : f = x
        · rw [← HN.out he] at hown
          subst he
          clear HY HN
          go_wp2
          exact ⟨⟨i + 1, by simp, by omega, hown, hbel⟩, by simp [intOf]; omega⟩
        · obtain ⟨e1, e2⟩ := ne_bytes he
          have e3 : (f.toList != x.toList) = true := by simpa using e2
          have HE := Hid.mk' (HY.out he)
          have o2 := hown.alloc (.cells #[.int .i64 dd] 3)
          have hone := one_at wr dd
          obtain ⟨av, cv, hav⟩ : ∃ av cv, u7 = .slice av l.length cv := by
            obtain ⟨av, cv, e, _⟩ := owns_ints hown
            exact ⟨av, cv, e⟩
          subst hav
          clear HY HN he
          go_wp2_with (first
            | (at_builtin; refine wpList_ints _ rfl _ _ rfl w4.heap.size (.slice av l.length cv) l.length l [dd] _ rfl o2 _ 1 1 rfl hone (fun h => by cases h) (by omega) (by have := hbel.size; simp; omega) rfl (l.length + 1) rfl ?_))
          intro v3 w6 hown3 hgrow3
          have hbel3 : Below w4.heap.size w4 w6 := (hbel.alloc hbel.size _).grown hgrow3 (by have := hbel.size; simp; omega) (fun j hj => (hown.lt j hj).1)
          have hown4 : w6.ownsRow w4.heap.size 3 1 v3 (l ++ [dd]).length (ic (l ++ [dd])) := by rw [List.length_append]; exact hown3
          rw [← HE.out] at hown4
          clear hown3 hgrow3 hown hbel o2 hone
          go_wp2
          exact ⟨⟨i + 1, by simp, by omega, hown4, hbel3⟩, by simp [intOf]; omega⟩
      · obtain rfl : n1 = i := by omega
        rw [HT.out] at hown
        have HX5 := Hid.mk' (HX4.out.below hbel)
        have HI5 := Hid.mk' (IxAt.own (zs := woa x M) hown)
        obtain ⟨av2, cv2, hav⟩ : ∃ av cv, u7 = .slice av (woa x M).length cv := by
          obtain ⟨av, cv, e, _⟩ := owns_ints hown
          exact ⟨av, cv, e⟩
        subst hav
        have HS5 := Hid.mk' hbel.size
        have HK5 := Hid.mk' (keep_below (A := fun k => k ≠ b2 ∧ k ≠ b4) hbel)
        generalize (woa x M).length = m2 at *
        clear hown hbel
        -- those under way
        have hwi := without_any a1 n1 c1 (nms M) x wr (HU.out.below (Nat.le_refl _) HX5.out.bel) (by omega)
        go_wp2_with fail
        refine hwi.mono ?_
        rintro e w6 ⟨v1, rfl, ho6, hb6⟩
        have HT6 := Hid.mk' (TxAt.own ho6)
        have hx6 := HX5.out.below hb6
        obtain ⟨av1, cv1, rfl, -, -⟩ := owns_strs ho6
        clear y0 y1 y2 hwi
        obtain ⟨y0, y1, y2⟩ := hx6.cells
        have f0 := hx6.fz 1
        have HX7 := Hid.mk' (hx6.set1 (.slice av1 (wol x (nms M)).length cv1))
        have HK7 := Hid.mk' (hx6.set 1 (.slice av1 (wol x (nms M)).length cv1)).1
        have HB6 := Hid.mk' hb6
        clear ho6 hx6 hb6
        generalize (wol x (nms M)).length = m1 at *
        go_upto_region 10 with fail
        generalize hw7 : w6.setCell ⟨b2, 1, none⟩ (.slice av1 m1 cv1) = w7 at *
        clear hw7 y0 y1 y2 f0
        obtain ⟨y0, y1, y2⟩ := HX7.out.cells
        have f0 := HX7.out.fz 2
        have HX9 := Hid.mk' (HX7.out.set2 (.slice av2 m2 cv2))
        have HK9 := Hid.mk' (HX7.out.set 2 (.slice av2 m2 cv2)).1
        go_upto_region 11 with fail
        generalize hw9 : w7.setCell ⟨b2, 2, none⟩ (.slice av2 m2 cv2) = w9 at *
        clear hw9 y0 y1 y2 f0
        obtain ⟨y0, y1, y2⟩ := HX9.out.cells
        obtain ⟨d0, d1, d2⟩ := HX9.out.cells4
        have f0 := HX9.out.fz4 0
        have f1 := HX9.out.fz4 1
        have f2 := HX9.out.fz4 2
        have HO := Hid.mk' HX9.out.out
        obtain ⟨x0, x1, x2, _⟩ := blk3 HO.out.1
        go_wp2
        refine bodyPost_ret (v := .tuple #[.agg #[.slice av0 m0 cv0, .slice av1 m1 cv1, .slice av2 m2 cv2], .bool was]) (by simp [results, Try.results16, go_sem, x0, x1, x2]) rfl ?_
        have q2 := lt_of_heap HBX2.out.g2
        have q4 := lt_of_heap HBX2.out.g4
        have s3 := HS3.out
        have s4 := HK4.out.size
        have s5 := HS5.out
        have s6 := HB6.out.size
        have s7 := HK7.out.size
        have s9 := HK9.out.size
        have s0 := HSZ.out
        have sf := HO.out.2.1.size
        have k6 : Keep (fun k => k ≠ b2 ∧ k ≠ b4) w6 _ := ((HK7.out.mono fun k _ h => h.1).trans (HK9.out.mono fun k _ h => h.1)).trans (HO.out.2.1.mono fun k _ h => h.2)
        have k5 : Keep (fun k => k ≠ b2 ∧ k ≠ b4) wr _ := (keep_below HB6.out).trans k6
        have k3 : Keep (fun k => k ≠ b2 ∧ k ≠ b4) w3 _ := ((HK4.out.mono fun k _ h => h.1).trans HK5.out).trans k5
        refine ⟨_, _, _, by rw [HWAS.out], ⟨?_, ?_, ?_⟩, fun k hk => ?_, HO.out.2.2⟩
        · rw [← wol_wo]
          exact HT3.out.1.keep k3 (fun k e => by have := HT3.out.2 k e; omega)
        · rw [← wol_wo]
          exact HT6.out.1.keep k6 (fun k e => by have := HT6.out.2 k e; omega)
        · exact HI5.out.1.keep k5 (fun k e => by have := HI5.out.2 k e; omega)
        · rcases hk with e | e | e
          · have := HT3.out.2 k e
            omega
          · have := HT6.out.2 k e
            omega
          · have := HI5.out.2 k e
            omega

theorem rend_any (w : World) (xv yv zv : Value) (L M : List Dr) (x : ByteArray) (h : RfAt w xv yv zv L M) (hl : L.length ≤ 800) (hm : M.length ≤ 800) :
    Calls Try.prog 16 #[.agg #[xv, yv, zv], .string x] w fun e w' => ∃ v0 v1 v2, e = .returned (.tuple #[.agg #[v0, v1, v2], .bool (isIn x L || isIn x M)]) ∧ RfAt w' v0 v1 v2 (wo x L) (wo x M) ∧ (From w w' xv yv zv v0 ∧ From w w' xv yv zv v1 ∧ From w w' xv yv zv v2) ∧ Below w.heap.size w w' := by
  obtain ⟨⟨a0, c0, rfl, hw, hwn⟩, ⟨a1, c1, rfl, hu, hun⟩, ⟨a2, c2, rfl, hz, hzn⟩⟩ := h
  rw [nms_length] at hw hu
  rw [List.length_map] at hz
  rw [nms_length, nms_length, List.length_map]
  exact (rend_c w a0 a1 a2 L.length M.length c0 c1 c2 L M x hw hu hz hl hm rfl).mono fun e w' ⟨v0, v1, v2, he, hr, hb, hbl⟩ => ⟨v0, v1, v2, he, hr, ⟨fun k hk => .inr (hb k (.inl hk)), fun k hk => .inr (hb k (.inr (.inl hk))), fun k hk => .inr (hb k (.inr (.inr hk)))⟩, hbl⟩

end Go.Proofs.Ythobihlnjcphaaa
