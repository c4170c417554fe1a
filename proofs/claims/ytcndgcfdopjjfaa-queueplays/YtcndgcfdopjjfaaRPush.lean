/-
  What Push of the document does: the pair with one more, in new rows, or the pair as it is. Conditions: the pair lies where it is said to lie, at most 100 wait.
-/
import Derived.Test.YtcndgcfdopjjfaaRPop
namespace Go.Proofs.Ytcndgcfdopjjfaa
open Go.ChangeShapes Go.WideShapes Go.ChangeAt Go.RowKit

/-- What is below a number of blocks lasts. -/
theorem IntsAt.under {w w' : World} {a : Option Addr} {n c b : Nat} {zs : List Int} (h : IntsAt w a n c zs) (hs : w.heap.size = b) (hk : Keep (fun k => k < b) w w') : IntsAt w' a n c zs :=
  h.below (hk.below (Nat.le_refl _) (fun k hk => by omega))

set_option maxHeartbeats 4000000 in
set_option maxRecDepth 100000 in
theorem rpush_there (w : World) (S : Int) (kv av : Value) (L : List Wt) (x t : Int) (h : QvAt w kv av L) (hl : L.length ≤ 100) (hx : x ∈ fs L) :
    Calls Try.prog 13 #[.agg #[.int .i64 S, kv, av], .int .i64 x, .int .i64 t] w fun e w' => e = .returned (.tuple #[.agg #[.int .i64 S, kv, av], .int .i64 6]) ∧ Below w.heap.size w w' := by
  obtain ⟨g2, g4, hsz, hb⟩ := two_blocks w S kv av
  have hv := h.below hb
  have hp := rplace_any _ S kv av L x hv hl
  rw [plc_mem hx] at hp
  have hge : (0 : Int) ≤ ((fidx x (fs L) : Nat) : Int) := by omega
  generalize fidx x (fs L) = F at *
  obtain ⟨⟨a1, c1, rfl, _⟩, ⟨a2, c2, rfl, _⟩⟩ := h
  obtain ⟨z0, z1, z2, _⟩ := blk3 g2
  go_enter Try.func13, Try.ntmps13
  go_wp2_with fail
  refine hp.mono ?_
  rintro e w5 ⟨rfl, hb5⟩
  have hz5 := hb5.size
  rw [hsz] at hz5 hb5
  have g45 := (hb5.block (w.heap.size + 1) (by omega)).trans g4
  obtain ⟨y0, y1, y2, _⟩ := blk3 ((hb5.block w.heap.size (by omega)).trans g2)
  obtain ⟨d40, d41, d42, _⟩ := blk3 g45
  have f50 := fz3 g45 0
  have f51 := fz3 g45 1
  have f52 := fz3 g45 2
  obtain ⟨x0, hkf⟩ := res_put g45 (.int .i64 S) (.slice a1 L.length c1) (.slice a2 L.length c2)
  have HY : Hid _ := x0
  have HB : Hid (Below w.heap.size w (((w5.setCell ⟨w.heap.size + 1, 0, none⟩ (.int .i64 S)).setCell ⟨w.heap.size + 1, 1, none⟩ (.slice a1 L.length c1)).setCell ⟨w.heap.size + 1, 2, none⟩ (.slice a2 L.length c2))) := (hb.trans (hb5.mono (by omega))).trans (hkf.below (by omega) (fun k hk => by omega))
  clear hb5 g2 g4 g45 hb hv hp z0 z1 z2 x0 hkf
  go_wp2
  obtain ⟨x0, x1, x2, _⟩ := blk3 HY.out
  refine bodyPost_ret (v := .tuple #[.agg #[.int .i64 S, .slice a1 L.length c1, .slice a2 L.length c2], .int .i64 6]) (by simp [results, Try.results13, go_sem, x0, x1, x2]) rfl ?_
  exact ⟨rfl, HB.out⟩

set_option maxHeartbeats 4000000 in
set_option maxRecDepth 100000 in
theorem rpush_full (w : World) (R : Nat) (kv av : Value) (L : List Wt) (x t : Int) (h : QvAt w kv av L) (hl : L.length ≤ 100) (hx : x ∉ fs L) (hf : R ≤ L.length) :
    Calls Try.prog 13 #[.agg #[.int .i64 R, kv, av], .int .i64 x, .int .i64 t] w fun e w' => e = .returned (.tuple #[.agg #[.int .i64 R, kv, av], .int .i64 7]) ∧ Below w.heap.size w w' := by
  obtain ⟨g2, g4, hsz, hb⟩ := two_blocks w R kv av
  have hv := h.below hb
  have hp := rplace_any _ R kv av L x hv hl
  rw [plc_not hx] at hp
  obtain ⟨⟨a1, c1, rfl, _⟩, ⟨a2, c2, rfl, _⟩⟩ := h
  obtain ⟨z0, z1, z2, _⟩ := blk3 g2
  go_enter Try.func13, Try.ntmps13
  go_wp2_with fail
  refine hp.mono ?_
  rintro e w5 ⟨rfl, hb5⟩
  have hz5 := hb5.size
  rw [hsz] at hz5 hb5
  have g45 := (hb5.block (w.heap.size + 1) (by omega)).trans g4
  obtain ⟨y0, y1, y2, _⟩ := blk3 ((hb5.block w.heap.size (by omega)).trans g2)
  obtain ⟨d40, d41, d42, _⟩ := blk3 g45
  have f50 := fz3 g45 0
  have f51 := fz3 g45 1
  have f52 := fz3 g45 2
  obtain ⟨x0, hkf⟩ := res_put g45 (.int .i64 R) (.slice a1 L.length c1) (.slice a2 L.length c2)
  have HY : Hid _ := x0
  have HB : Hid (Below w.heap.size w (((w5.setCell ⟨w.heap.size + 1, 0, none⟩ (.int .i64 R)).setCell ⟨w.heap.size + 1, 1, none⟩ (.slice a1 L.length c1)).setCell ⟨w.heap.size + 1, 2, none⟩ (.slice a2 L.length c2))) := (hb.trans (hb5.mono (by omega))).trans (hkf.below (by omega) (fun k hk => by omega))
  clear hb5 g2 g4 g45 hb hv hp z0 z1 z2 x0 hkf
  have hfi : (R : Int) ≤ (L.length : Int) := by omega
  go_wp2
  obtain ⟨x0, x1, x2, _⟩ := blk3 HY.out
  refine bodyPost_ret (v := .tuple #[.agg #[.int .i64 R, .slice a1 L.length c1, .slice a2 L.length c2], .int .i64 7]) (by simp [results, Try.results13, go_sem, x0, x1, x2]) rfl ?_
  exact ⟨rfl, HB.out⟩

set_option maxHeartbeats 4000000 in
set_option maxRecDepth 100000 in
theorem rpush_ok (w : World) (R : Nat) (kv av : Value) (L : List Wt) (x t : Int) (h : QvAt w kv av L) (hl : L.length ≤ 100) (hx : x ∉ fs L) (hf : ¬ R ≤ L.length) :
    Calls Try.prog 13 #[.agg #[.int .i64 R, kv, av], .int .i64 x, .int .i64 t] w fun e w' => ∃ kv' av', e = .returned (.tuple #[.agg #[.int .i64 R, kv', av'], .int .i64 0]) ∧ QvAt w' kv' av' (L ++ [(x, cut t)]) ∧ Fresh w w' kv' av' ∧ Below w.heap.size w w' := by
  obtain ⟨g2, g4, hsz, hb⟩ := two_blocks w R kv av
  have hv := h.below hb
  have hp := rplace_any _ R kv av L x hv hl
  rw [plc_not hx] at hp
  obtain ⟨⟨a1, c1, rfl, hk1, hn1⟩, ⟨a2, c2, rfl, ha1, hn2⟩⟩ := h
  obtain ⟨z0, z1, z2, _⟩ := blk3 g2
  have hfi : ¬ (R : Int) ≤ (L.length : Int) := by omega
  go_enter Try.func13, Try.ntmps13
  go_wp2_with fail
  refine hp.mono ?_
  rintro e w5 ⟨rfl, hb5⟩
  have hz5 := hb5.size
  rw [hsz] at hz5 hb5
  have hbw : Below w.heap.size w w5 := hb.trans (hb5.mono (by omega))
  have HG4 : Hid (w5.heap[w.heap.size + 1]? = some (.cells #[.int .i64 0, .slice none 0 0, .slice none 0 0] 28 (0, 0))) := (hb5.block (w.heap.size + 1) (by omega)).trans g4
  have HG2 : Hid (w5.heap[w.heap.size]? = some (.cells #[.int .i64 R, .slice a1 L.length c1, .slice a2 L.length c2] 28 (0, 0))) := (hb5.block w.heap.size (by omega)).trans g2
  obtain ⟨y0, y1, y2, _⟩ := blk3 HG2.out
  have HV : Hid (IntsAt w5 a1 L.length c1 (fs L) ∧ IntsAt w5 a2 L.length c2 (sn L)) := ⟨hk1.below hbw, ha1.below hbw⟩
  have HBW : Hid (Below w.heap.size w w5) := hbw
  have hfl := fs_length L
  have hsl := sn_length L
  have hout := OutAt.new w5 R
  have hk0 : Keep (fun k => k < w5.heap.size) w5 (w5.alloc (.cells #[.int .i64 R, .slice none 0 0, .slice none 0 0] 28)) := (Keep.refl _ _).alloc _
  clear hb5 g2 g4 hb hv hp z0 z1 z2 hbw hk1 ha1 hsz
  go_upto_region 6 with fail
  generalize hb8 : w5.heap.size = b8 at *
  have HS : Hid (w5.heap.size = b8) := hb8
  generalize w5.alloc (.cells #[.int .i64 R, .slice none 0 0, .slice none 0 0] 28) = w6 at *
  clear hb8 y0 y1 y2
  have hw8 : w.heap.size < b8 := by omega
  have hw9 : w.heap.size + 1 < b8 := by omega
  -- the ids
  obtain ⟨y0, y1, y2, _⟩ := blk3 ((hk0.block _ (lt_of_heap HG2.out) hw8).trans HG2.out)
  obtain ⟨s0, s1, s2, sl⟩ := blk3 hout.blk
  have hI := HV.out.1.under HS.out hk0
  have HO : Hid (OutAt w6 b8 R (.slice none 0 0) (.slice none 0 0) [] []) := hout
  have HK : Hid (Keep (fun k => k < b8) w5 w6) := hk0
  have o6 := hout.own1
  clear hout hk0
  go_upto_region 7 with (at_builtin; refine wpList_ints _ rfl _ _ rfl (b8 + 1) (.slice none 0 0) 0 [] (fs L) _ rfl o6 a1 L.length c1 rfl hI hn1 (by omega) (by omega) rfl L.length (by omega) ?_; intro v7 w7 o7 g7 l7; obtain ⟨a7, cp7, rfl, -⟩ := owns_ints o7; have hmid := HO.out.midK (Keep.refl _ _) g7; have d7 := (blk3 hmid).2.1; have f7 := fz3 hmid 1)
  obtain ⟨hout, hk7⟩ := HO.out.setK (Keep.refl _ w6) g7 hfl o7 l7
  have hk0 := HK.out.trans hk7
  generalize w7.setCell ⟨b8, 1, none⟩ (.slice a7 L.length cp7) = w8 at *
  clear HO HK o6 hI y0 y1 y2 s0 s1 s2 sl o7 g7 l7 hmid d7 f7 hk7
  -- the ticks
  obtain ⟨y0, y1, y2, _⟩ := blk3 ((hk0.block _ (lt_of_heap HG2.out) hw8).trans HG2.out)
  obtain ⟨s0, s1, s2, sl⟩ := blk3 hout.blk
  have hI := HV.out.2.under HS.out hk0
  have HO : Hid (OutAt w8 b8 R (.slice a7 L.length cp7) (.slice none 0 0) (fs L) []) := hout
  have HK : Hid (Keep (fun k => k < b8) w5 w8) := hk0
  have o6 := hout.own2
  clear hout hk0
  go_upto_region 8 with (at_builtin; refine wpList_ints _ rfl _ _ rfl (b8 + 1) (.slice none 0 0) 0 [] (sn L) _ rfl o6 a2 L.length c2 rfl hI hn2 (by omega) (by omega) rfl L.length (by omega) ?_; intro v9 w9 o7 g7 l7; obtain ⟨a9, cp9, rfl, -⟩ := owns_ints o7; have hmid := HO.out.midA (Keep.refl _ _) g7; have d7 := (blk3 hmid).2.2.1; have f7 := fz3 hmid 2)
  obtain ⟨hout, hk7⟩ := HO.out.setA (Keep.refl _ w8) g7 hsl o7 l7
  have hk0 := HK.out.trans hk7
  generalize w9.setCell ⟨b8, 2, none⟩ (.slice a9 L.length cp9) = w10 at *
  clear HO HK o6 hI y0 y1 y2 s0 s1 s2 sl o7 g7 l7 hmid d7 f7 hk7
  -- the id
  obtain ⟨s0, s1, s2, sl⟩ := blk3 hout.blk
  have HO : Hid (OutAt w10 b8 R (.slice a7 L.length cp7) (.slice a9 L.length cp9) (fs L) (sn L)) := hout
  have HK : Hid (Keep (fun k => k < b8) w5 w10) := hk0
  have o6 := hout.own1
  rw [hfl] at o6
  have o66 := o6.alloc (.cells #[.int .i64 x] 3)
  have hone := one_at w10 x
  clear hout hk0
  go_upto_region 9 with (at_builtin; refine wpList_ints _ rfl _ _ rfl (b8 + 1) (.slice a7 L.length cp7) L.length (fs L) [x] _ rfl o66 _ 1 1 rfl hone (fun h => by cases h) (by omega) (by simp; omega) rfl (L.length + 1) rfl ?_; intro v11 w11 o7 g7 l7; obtain ⟨a11, cp11, rfl, -⟩ := owns_ints o7; have hmid := HO.out.midK ((Keep.refl _ w10).alloc _) g7; have d7 := (blk3 hmid).2.1; have f7 := fz3 hmid 1)
  obtain ⟨hout, hk7⟩ := HO.out.setK ((Keep.refl _ w10).alloc _) g7 (by simp [hfl]) o7 l7
  have hk0 := HK.out.trans hk7
  generalize w11.setCell ⟨b8, 1, none⟩ (.slice a11 (L.length + 1) cp11) = w12 at *
  clear HO HK o6 o66 hone s0 s1 s2 sl o7 g7 l7 hmid d7 f7 hk7
  -- the tick
  obtain ⟨s0, s1, s2, sl⟩ := blk3 hout.blk
  have HO : Hid (OutAt w12 b8 R (.slice a11 (L.length + 1) cp11) (.slice a9 L.length cp9) (fs L ++ [x]) (sn L)) := hout
  have HK : Hid (Keep (fun k => k < b8) w5 w12) := hk0
  have o2 := hout.own2
  rw [hsl] at o2
  clear hout hk0
  go_cut [47] from 42 to 48 (fun _ w4 => ∃ av2, OutAt w4 b8 R (.slice a11 (L.length + 1) cp11) av2 (fs L ++ [x]) (sn L ++ [cut t]) ∧ Keep (fun k => k < b8) w5 w4)
  case first =>
    go_region_law (first
      | ((refine step_int rfl _ _ rfl (b8 + 1) (.slice a9 L.length cp9) L.length (sn L) (cut t) rfl w12 o2 rfl ((Keep.refl _ w12).alloc _).drew (heap_alloc_new _ _) (by omega) (by omega) ?_; intro gg cp w3 hown3 hgrow hat; have hmid := HO.out.midA ((Keep.refl _ w12).alloc _).drew hgrow; have d3 := (blk3 hmid).2.2.1; have f3 := fz3 hmid 2))
      | ((go_simp; go_at_call 29; refine (rcut_any _ _).mono ?_; rintro e w' ⟨rfl, hw'⟩; obtain rfl := hw')))
    all_goals (
      go_wp2
      go_meet
      obtain ⟨q1, q2⟩ := HO.out.setA ((Keep.refl _ w12).alloc _).drew hgrow (by simp [hsl]) hown3 hat
      exact ⟨_, q1, HK.out.trans q2⟩)
  case rest =>
    obtain ⟨av2, ho, hkr⟩ := hcut
    clear HO HK o2 s0 s1 s2 sl
    have e1 : fs L ++ [x] = fs (L ++ [(x, cut t)]) := by rw [fs_append]; rfl
    have e2 : sn L ++ [cut t] = sn (L ++ [(x, cut t)]) := by rw [sn_append]; rfl
    rw [e1, e2] at ho
    have HR : Hid (QvAt wc (.slice a11 (L.length + 1) cp11) av2 (L ++ [(x, cut t)])) := ho.reads
    have HBL : Hid (∀ k, (Value.slice a11 (L.length + 1) cp11).ownBlock = some k ∨ av2.ownBlock = some k → b8 < k ∧ k < wc.heap.size) := ho.blocks
    have HKR : Hid (Keep (fun k => k < b8) w5 wc) := hkr
    obtain ⟨⟨a3, n3, he3, _⟩, ⟨a4, n4, rfl, _⟩⟩ := ho.reads
    rw [he3] at HR HBL ho
    clear he3
    obtain ⟨d0, d1, d2, dl⟩ := blk3 ho.blk
    have g4 := (hkr.block _ (lt_of_heap HG4.out) hw9).trans HG4.out
    obtain ⟨c40, c41, c42, _⟩ := blk3 g4
    have f40 := fz3 g4 0
    have f41 := fz3 g4 1
    have f42 := fz3 g4 2
    generalize hm : (L ++ [(x, cut t)]).length = m at *
    obtain ⟨y0, hkf⟩ := res_put g4 (.int .i64 R) (.slice a3 m n3) (.slice a4 m n4)
    have HKF : Hid _ := hkf
    have HY : Hid _ := y0
    clear ho hkr y0 hkf g4 hm
    go_wp2
    obtain ⟨z0, z1, z2, _⟩ := blk3 HY.out
    refine bodyPost_ret (v := .tuple #[.agg #[.int .i64 R, .slice a3 m n3, .slice a4 m n4], .int .i64 0]) (by simp [results, Try.results13, go_sem, z0, z1, z2]) rfl ?_
    have hs := HS.out
    have hz := HKF.out.size
    refine ⟨_, _, rfl, HR.out.keep HKF.out (fun k e => by have := HBL.out k e; omega), fun k e => ?_, ?_⟩
    · have := HBL.out k e
      omega
    · exact HBW.out.trans ((((HKR.out.below (B := w.heap.size) (by omega) (fun k hk => by omega))).trans (HKF.out.below (by have := HKR.out.size; omega) (fun k hk => by omega))))

theorem rpush_any (w : World) (R : Nat) (kv av : Value) (L : List Wt) (x t : Int) (h : QvAt w kv av L) (hl : L.length ≤ 100) :
    Calls Try.prog 13 #[.agg #[.int .i64 R, kv, av], .int .i64 x, .int .i64 t] w fun e w' => ∃ kv' av', e = .returned (.tuple #[.agg #[.int .i64 R, kv', av'], .int .i64 (pushE R x L)]) ∧ QvAt w' kv' av' (pushL R x t L) ∧ From w w' kv av kv' av' ∧ Below w.heap.size w w' := by
  unfold pushE pushL
  by_cases h0 : x ∈ L.map Prod.fst
  · rw [if_pos h0, if_pos h0]
    exact (rpush_there w R kv av L x t h hl h0).mono fun e w' ⟨he, hb⟩ => ⟨kv, av, he, h.below hb, fun k e => .inl e, hb⟩
  · rw [if_neg h0, if_neg h0]
    by_cases h1 : R ≤ L.length
    · rw [if_pos h1, if_pos h1]
      exact (rpush_full w R kv av L x t h hl h0 h1).mono fun e w' ⟨he, hb⟩ => ⟨kv, av, he, h.below hb, fun k e => .inl e, hb⟩
    · rw [if_neg h1, if_neg h1]
      exact (rpush_ok w R kv av L x t h hl h0 h1).mono fun e w' ⟨kv', av', he, hv, hf, hb⟩ => ⟨kv', av', he, hv, fun k e => .inr (hf k e), hb⟩

end Go.Proofs.Ytcndgcfdopjjfaa
