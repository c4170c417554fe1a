/-
  Several texts in one: RgB, RfR.
-/
import Derived.Test.YtmlkpfkeeifgeaaDoorM9
import Derived.Deep.CutBlock
namespace Go.Proofs.YtmlkpfkeeifgeaaDoor
open Go.ChangeShapes Go.WideShapes Go.ChangeAt Go.RowKit Go.Joins Go.Deep

set_option maxHeartbeats 8000000 in
set_option maxRecDepth 1000000 in
theorem loop3 (w w5 : World) {A : Nat → Prop} {e gd : Int} {ja jb jc jx jy jz : Sl} {S1 : Fl} {l N : List ByteArray} {la : Option Addr} {ln lk : Nat} {left : Value} (hG : ∀ k, A k → k < w.heap.size) (hL : StrsAt w la ln lk l) (hNM : ∀ x ∈ l, nameB x = true) (hln16 : ln ≤ 16) (hW1 : W S1) (hS1 : S1.H.length ≤ 1600) (hQ : Bo w w5 e gd ja jb jc jx jy jz) (hR : RL6 w5 (nq A (w.heap.size + 2) w5) ja jb jc jx jy jz S1) (hT : TxAt w5 left N) (hlf : ∀ k, left.ownBlock = some k → w.heap.size + 2 ≤ k ∧ k < w5.heap.size)
    {Q : Exit → Act → World → Prop} {s0 s2 s4 s5 s6 s7 s8 s9 s10 s12 s13 s14 s15 s17 s18 s19 s20 s21 s22 s23 s24 s25 s26 s27 s28 s29 s30 s31 s32 s33 s34 s35 s36 s37 s38 s39 s40 s41 s42 s43 s44 s45 s46 s47 s48 s49 s50 s51 s52 s53 s54 s55 s56 s57 s58 s59 s60 s61 s62 s63 s64 s65 s66 s67 s68 s69 s70 s71 s72 s73 s74 s75 s76 s77 s78 s79 s80 s81 s82 s83 s84 s85 s86 s87 s88 s89 s90 s91 s92 s93 s94 s95 s96 s97 s98 s99 s100 s101 s102 s103 s104 s105 s106 s107 s108 s109 s110 s111 s112 s113 s114 s115 s116 s117 s118 s119 s120 s121 s122 s123 s124 s125 s126 s127 s128 s129 s130 s131 s132 s133 s134 s135 s136 s137 s138 s139 s140 s141 s142 s143 s144 s145 : Value}
    (hK : ∀ (u16 u17 u18 u19 u20 u72 u73 u74 u75 u76 u77 u78 u79 u80 u81 u82 u83 u84 u85 u86 u87 u88 u89 u90 u91 u92 u93 u94 u95 u96 u97 u98 u99 u100 u101 u102 u103 u104 u105 u106 u107 u108 u109 u110 u111 u112 u113 u114 u115 u116 u117 u118 u119 u120 u121 u122 u123 u124 u125 u126 u127 u128 u129 u130 u131 u132 u133 u134 u135 u136 u137 u138 u139 u140 u141 u142 : Value) (wx : World) (v11 : Value) (ja jb jc jx jy jz : Sl), Bo w wx e gd ja jb jc jx jy jz → RL6 wx (NB A (w.heap.size + 2) v11 wx) ja jb jc jx jy jz (enS l S1) → wx.ownsRow w5.heap.size 9 1 v11 (enN l S1).length (sc (enN l S1)) → TxAt wx left N → Q .normal ⟨#[s0, .slice la ln lk, s2, .pointer (some ⟨w.heap.size, 0, none⟩), s4, s5, s6, s7, s8, s9, s10, v11, s12, s13, s14, s15, u16, u17, u18, u19, u20, s21, s22, s23, s24, s25, s26, s27, s28, s29, s30, s31, s32, s33, s34, s35, s36, s37, s38, s39, s40, s41, s42, s43, s44, s45, s46, s47, s48, s49, s50, s51, s52, s53, s54, s55, s56, s57, s58, s59, s60, s61, s62, s63, s64, s65, s66, s67, s68, s69, s70, s71, u72, u73, u74, u75, u76, u77, u78, u79, u80, u81, u82, u83, u84, u85, u86, u87, u88, u89, u90, u91, u92, u93, u94, u95, u96, u97, u98, u99, u100, u101, u102, u103, u104, u105, u106, u107, u108, u109, u110, u111, u112, u113, u114, u115, u116, u117, u118, u119, u120, u121, u122, u123, u124, u125, u126, u127, u128, u129, u130, u131, u132, u133, u134, u135, u136, u137, u138, u139, u140, u141, u142, s143, s144, s145], []⟩ wx) :
    Code.wp Tryd.prog ((Tryd.f39.body.bind (blkOf 4)).getD .skip) Q ⟨#[s0, .slice la ln lk, s2, .pointer (some ⟨w.heap.size, 0, none⟩), s4, s5, s6, s7, s8, s9, s10, .slice none 0 0, s12, s13, s14, s15, .int .i64 0, s17, s18, s19, s20, s21, s22, s23, s24, s25, s26, s27, s28, s29, s30, s31, s32, s33, s34, s35, s36, s37, s38, s39, s40, s41, s42, s43, s44, s45, s46, s47, s48, s49, s50, s51, s52, s53, s54, s55, s56, s57, s58, s59, s60, s61, s62, s63, s64, s65, s66, s67, s68, s69, s70, s71, s72, s73, s74, s75, s76, s77, s78, s79, s80, s81, s82, s83, s84, s85, s86, s87, s88, s89, s90, s91, s92, s93, s94, s95, s96, s97, s98, s99, s100, s101, s102, s103, s104, s105, s106, s107, s108, s109, s110, s111, s112, s113, s114, s115, s116, s117, s118, s119, s120, s121, s122, s123, s124, s125, s126, s127, s128, s129, s130, s131, s132, s133, s134, s135, s136, s137, s138, s139, s140, s141, s142, s143, s144, s145], []⟩ w5 := by
  refine wp_mono (Q := Exit.then (fun a w => Q .normal a w) (fun _ _ _ => False)) ?_ (fun e a w h => by cases e with | normal => exact h | _ => exact False.elim h)
  conv => arg 2; whnf
  have HKK := Hid.mk' hK
  have HLN := Hid.mk' hL.hlen
  have HL := Hid.mk' hL
  have HNM := Hid.mk' hNM
  have HW1 : Hid (W S1 ∧ S1.H.length ≤ 1600) := ⟨hW1, hS1⟩
  have HQ0 := Hid.mk' hQ
  have HR0 := Hid.mk' hR
  have HT0 := Hid.mk' hT
  have HLF := Hid.mk' hlf
  have HS5 : Hid (w.heap.size + 2 ≤ w5.heap.size) := hQ.sz
  clear hK hL hNM hW1 hS1 hQ hR hT hlf
  go_wp2_with fail
  go_loopw [16, 11] (fun v16 v11 wr => ∃ j : Nat, ∃ ja jb jc jx jy jz : Sl, v16 = .int .i64 j ∧ j ≤ ln ∧ wr.ownsRow w5.heap.size 9 1 v11 (enN (l.take j) S1).length (sc (enN (l.take j) S1)) ∧ Bo w wr e gd ja jb jc jx jy jz ∧ RL6 wr (NB A (w.heap.size + 2) v11 wr) ja jb jc jx jy jz (enS (l.take j) S1) ∧ TxAt wr left N ∧ w5.heap.size ≤ wr.heap.size) (fun v16 _ _ => ln + 1 - (intOf v16).toNat)
  case atStart => exact ⟨0, _, _, _, _, _, _, rfl, Nat.zero_le _, World.ownsRow_nil _ _ _ _, HQ0.out, HR0.out.mono (fun k hk => ⟨hk, fun e => by simp [Value.ownBlock] at e⟩), HT0.out, Nat.le_refl _⟩
  case round =>
    clear HQ0 HT0 HR0
    obtain ⟨j, ja, jb, jc, jx, jy, jz, rfl, hj1, hO0, hQ, hR, hT, hsw⟩ := hrel
    have HQj := Hid.mk' hQ
    have HRj := Hid.mk' hR
    have HTj := Hid.mk' hT
    have HOj := Hid.mk' hO0
    clear hO0 hQ hT
    generalize u11 = v11 at *
    by_cases hc : j < ln
    · have hjl : j < l.length := by have := HLN.out; omega
      obtain ⟨lb, lo, e1, hlb, hxw⟩ := HL.out.at_ j hc
      obtain rfl : la = some ⟨lb, lo, none⟩ := e1
      have hqn : nameB (l.getD j ⟨#[]⟩) = true := HNM.out _ (by simp [List.getD, hjl])
      have HN1 := Hid.mk' (enS_next (s := S1) hjl)
      have HN2 := Hid.mk' (enN_next (s := S1) hjl)
      have HWj : Hid (W (enS (l.take j) S1)) := HW1.out.1.ens HNM.out j
      have hjH : (enS (l.take j) S1).H.length ≤ 1616 := by
        have := ens_len l S1 j
        have := HW1.out.2
        have := HLN.out
        omega
      have hO : (enN (l.take j) S1).length ≤ 4000 := by
        have := enN_len (l.take j) S1
        simp at this
        omega
      have hln : (j : Int) < (ln : Int) := by omega
      generalize l.getD j ⟨#[]⟩ = q at *
      generalize enS (l.take j) S1 = sj at *
      generalize enN (l.take j) S1 = O at *
      have HXW := Hid.mk' hxw
      have HLB := Hid.mk' hlb
      have hqz : q.size ≤ maxLen := by have := nameB_size hqn; unfold maxLen; omega
      have hjL := HWj.out.few3
      have hjl2 : sj.L.length ≤ 3500 := by omega
      have hjm2 : sj.M.length ≤ 3500 := by omega
      have hj4 : sj.H.length ≤ 4000 := by omega
      clear hjl hxw hlb hqn hjL
      cases hisJ : isH q sj.H with
      | false =>
        have HE := Hid.mk' (en_2 hisJ)
        have HNA : Hid (enS (l.take (j + 1)) S1 = ⟨sj.H ++ [⟨q, 0, false⟩], sj.L, sj.M⟩) := HN1.out.trans HE.out.1
        have HNB : Hid (enN (l.take (j + 1)) S1 = O ++ [q]) := by have := HN2.out; rw [HE.out.2] at this; exact this
        clear hR HE
        have HPL := Hid.mk' (pl_no hisJ)
        clear hisJ
        go_upto_region 18 with fail
        refine reg18 w wr HQj.out HRj.out hc HLB.out HXW.out HPL.out ?_
        iterate 6 intro _
        intro w7 hbz
        have HQ7 : Hid (Bo w w7 e gd ja jb jc jx jy jz) := HQj.out.call hbz
        have HR7 : Hid (RL6 w7 (NB A (w.heap.size + 2) v11 w7) ja jb jc jx jy jz sj) := HRj.out.nbb hbz
        have HO7 := Hid.mk' (owns_keep HOj.out (keep_below (A := fun _ => True) hbz) (fun _ _ => trivial))
        have HT7 := Hid.mk' (HTj.out.below hbz)
        have hs57 : w5.heap.size ≤ w7.heap.size := Nat.le_trans hsw hbz.size
        have hs27 : w.heap.size + 2 ≤ w7.heap.size := HQ7.out.sz
        have x1 := (HQ7.out.hb.cell (p := ⟨lb, lo + j, none⟩) HLB.out).trans HXW.out
        have hq2 : w7.heap[w.heap.size]? = some (.cells #[.int .i64 e, .int .i64 gd, .slice ja.a ja.n ja.c, .slice jb.a jb.n jb.c, .slice jc.a jc.n jc.c, .slice jx.a jx.n jx.c, .slice jy.a jy.n jy.c, .slice jz.a jz.n jz.c] 33 (0, 0)) := HQ7.out.g2
        obtain ⟨c0, c1, c2, c3, c4, c5, c6, c7⟩ := blk8 hq2
        clear hq2
        have hown7 := HO7.out.alloc (.cells #[.string q] 9)
        go_upto_region 22 with (at_builtin; refine wpList_str1 _ rfl _ _ rfl w5.heap.size v11 O.length O q rfl hown7 _ 1 rfl (news_one w7 (.string q) 9 0 _ rfl) hO (by simp; omega) ?_; intro g8 c8 w8 o8 gr8 at8)
        have hba : Below w7.heap.size w7 (w7.alloc (.cells #[.string q] 9)) := (Below.refl _ w7).alloc (Nat.le_refl _) _
        have HR8 : Hid (RL6 w8 (NB A (w.heap.size + 2) (Value.slice (some ⟨g8, 0, none⟩) (O.length + 1) c8) w8) ja jb jc jx jy jz sj) := RL6.push (HR7.out.mono (fun _ hk => .inl hk)) (fun k hk => Nat.lt_of_lt_of_le (hG k hk) HQ7.out.hb.size) hs27 (Nat.le_refl _) hba gr8 (fun k hk => (HO7.out.lt k hk).2) at8
        have HQ8 : Hid (Bo w w8 e gd ja jb jc jx jy jz) := (HQ7.out.call hba).grown gr8 (fun k hk => by have := (HO7.out.lt k hk).1; have := HS5.out; omega)
        have HT8 := Hid.mk' ((HT7.out.below hba).grown gr8 (fun k hk e => by have := (HLF.out k hk).2; have := (HO7.out.lt k e).1; omega))
        have HO8 := Hid.mk' o8
        have HGK : Hid (∀ k, NB A (w.heap.size + 2) (Value.slice (some ⟨g8, 0, none⟩) (O.length + 1) c8) w8 k → k < w8.heap.size) := fun k hk => nq_lt hG HQ8.out.hb.size hk.1
        have HV8 : Hid (∀ k, (Value.slice (some ⟨g8, 0, none⟩) (O.length + 1) c8).ownBlock = some k → w5.heap.size ≤ k ∧ k < w8.heap.size) := fun k hk => o8.lt k hk
        have hs58 : w5.heap.size ≤ w8.heap.size := by have := hba.size; have := gr8.size; omega
        have hs28 : w.heap.size + 2 ≤ w8.heap.size := HQ8.out.sz
        have HKA : Hid (∀ k, NB A (w.heap.size + 2) (Value.slice (some ⟨g8, 0, none⟩) (O.length + 1) c8) w8 k → k < w8.heap.size ∧ k ≠ w.heap.size) := fun k hk => ⟨HGK.out k hk, (nq_ne hG hk.1).1⟩
        clear c0 c1 c2 c3 c4 c5 c6 c7 hown7 o8 gr8 at8 x1 hba
        have x1 := (HQ8.out.hb.cell (p := ⟨lb, lo + j, none⟩) HLB.out).trans HXW.out
        have hq2 : w8.heap[w.heap.size]? = some (.cells #[.int .i64 e, .int .i64 gd, .slice ja.a ja.n ja.c, .slice jb.a jb.n jb.c, .slice jc.a jc.n jc.c, .slice jx.a jx.n jx.c, .slice jy.a jy.n jy.c, .slice jz.a jz.n jz.c] 33 (0, 0)) := HQ8.out.g2
        obtain ⟨c0, c1, c2, c3, c4, c5, c6, c7⟩ := blk8 hq2
        clear hq2
        have HCT := Hid.mk' (rcut_f (e := e) (gd := gd) HR8.out HGK.out (-1) hj4)
        go_upto_region 23 with (go_at_call 68; refine HCT.out.mono ?_; rintro o w9 ⟨a', b', c', rfl, h9, hown3, hb9⟩)
        rw [rmH_neg sj.H (by decide)] at hown3
        have hg10 := heap_alloc_new w9 (.cells #[.int .i64 e, .int .i64 gd, .slice a'.a a'.n a'.c, .slice b'.a b'.n b'.c, .slice c'.a c'.n c'.c, .slice jx.a jx.n jx.c, .slice jy.a jy.n jy.c, .slice jz.a jz.n jz.c] 33)
        have hb10 : Below w9.heap.size w9 (w9.alloc (.cells #[.int .i64 e, .int .i64 gd, .slice a'.a a'.n a'.c, .slice b'.a b'.n b'.c, .slice c'.a c'.n c'.c, .slice jx.a jx.n jx.c, .slice jy.a jy.n jy.c, .slice jz.a jz.n jz.c] 33)) := (Below.refl _ w9).alloc (Nat.le_refl _) _
        have hs10 : (w9.alloc (.cells #[.int .i64 e, .int .i64 gd, .slice a'.a a'.n a'.c, .slice b'.a b'.n b'.c, .slice c'.a c'.n c'.c, .slice jx.a jx.n jx.c, .slice jy.a jy.n jy.c, .slice jz.a jz.n jz.c] 33)).heap.size = w9.heap.size + 1 := by simp
        clear c0 c1 c2 c3 c4 c5 c6 c7 x1
        generalize w9.alloc (.cells #[.int .i64 e, .int .i64 gd, .slice a'.a a'.n a'.c, .slice b'.a b'.n b'.c, .slice c'.a c'.n c'.c, .slice jx.a jx.n jx.c, .slice jy.a jy.n jy.c, .slice jz.a jz.n jz.c] 33) = w10 at *
        have hO10 := hown3.keep (keep_below (A := fun _ => True) hb10) (fun _ _ => trivial)
        have hOF : OF w10 w8.heap.size w9.heap.size e gd (.slice a'.a a'.n a'.c) (.slice b'.a b'.n b'.c) (.slice c'.a c'.n c'.c) (.slice jx.a jx.n jx.c) (.slice jy.a jy.n jy.c) (.slice jz.a jz.n jz.c) sj.H.length sj.H.length sj.H.length (sc (hn sj.H)) (ic (hz sj.H)) (bc (hl sj.H)) :=
          ⟨hg10, hO10.o1, hO10.o2, hO10.o3, fun k p r => hown3.a12 k (own_bk.1 p) (own_bk.1 r), fun k p r => hown3.a13 k (own_bk.1 p) (own_bk.1 r), fun k p r => hown3.a23 k (own_bk.1 p) (own_bk.1 r), by
            rintro k (hk | hk | hk)
            · have := (hown3.o1.lt k hk).2; omega
            · have := (hown3.o2.lt k hk).2; omega
            · have := (hown3.o3.lt k hk).2; omega⟩
        have hs89 := hb9.size
        have hb8A : Below w8.heap.size w8 w10 := hb9.trans (hb10.mono hs89)
        have x1 := ((HQ8.out.call hb8A).hb.cell (p := ⟨lb, lo + j, none⟩) HLB.out).trans HXW.out
        have HB8A := Hid.mk' hb8A
        have hB8 : w8.heap.size ≤ w10.heap.size := hb8A.size
        have hn4 : sj.H.length ≤ 4000 := hj4
        clear hown3 hO10 hg10 h9 hb9 hb10 hb8A HCT
        refine reg23 w10 hOF hn4 hB8 hc x1 ?_
        iterate 9 intro _
        intro w11 k1' hO1 hK1
        have HO1 := Hid.mk' hO1
        have HK1 : Hid (Keep (fun k => k < w8.heap.size ∧ k ≠ w9.heap.size) w8 w11) := (keep_below HB8A.out).trans hK1
        have d2 := hO1.cell2
        have hown2 := hO1.o2.alloc (.cells #[.int .i64 0] 3)
        have hB11 : w8.heap.size ≤ w11.heap.size := HK1.out.size
        clear hO1 hK1 hOF x1
        go_upto_region 25 with (at_builtin; refine wpList_int1l _ rfl _ _ rfl w8.heap.size (.slice b'.a b'.n b'.c) sj.H.length (ic (hz sj.H)) 0 rfl hown2 _ 1 rfl (news_one w11 (.int .i64 0) 3 0 _ rfl) hn4 (by simp; omega) ?_; intro gg cq wa hown3 hgrow hat; have hmid := HO1.out.mid2 ((Keep.refl _ w11).alloc _) hgrow; have d3 := hmid.1; have f3 := hmid.2)
        obtain ⟨q1, q2⟩ := HO1.out.push2 ((Keep.refl _ w11).alloc _) hgrow hown3 hat
        clear d2 hown2 hown3 hgrow hat hmid d3 f3
        generalize wa.setCell ⟨w9.heap.size, 3, none⟩ (.slice (some ⟨gg, 0, none⟩) (sj.H.length + 1) cq) = w12 at *
        have HO2 := Hid.mk' q1
        have HK2 : Hid (Keep (fun k => k < w8.heap.size ∧ k ≠ w9.heap.size) w8 w12) := HK1.out.trans q2
        have d2 := q1.cell3
        have hown2 := q1.o3.alloc (.cells #[.bool false] 4)
        have hB12 : w8.heap.size ≤ w12.heap.size := HK2.out.size
        clear q1 q2 HO1 HK1
        go_upto_region 26 with (at_builtin; refine wpList_flag1l _ rfl _ _ rfl w8.heap.size (.slice c'.a c'.n c'.c) sj.H.length (bc (hl sj.H)) false rfl hown2 _ 1 rfl (news_one w12 (.bool false) 4 0 _ rfl) hn4 (by simp; omega) ?_; intro gh cr wb hown3 hgrow hat; have hmid := HO2.out.mid3 ((Keep.refl _ w12).alloc _) hgrow; have d3 := hmid.1; have f3 := hmid.2)
        obtain ⟨q1, q2⟩ := HO2.out.push3 ((Keep.refl _ w12).alloc _) hgrow hown3 hat
        clear d2 hown2 hown3 hgrow hat hmid d3 f3
        generalize wb.setCell ⟨w9.heap.size, 4, none⟩ (.slice (some ⟨gh, 0, none⟩) (sj.H.length + 1) cr) = w13 at *
        have HK3 : Keep (fun k => k < w8.heap.size ∧ k ≠ w9.heap.size) w8 w13 := HK2.out.trans q2
        have hOH := OH.next (h := ⟨q, 0, false⟩) q1
        clear q1 q2 HO2 HK2
        obtain ⟨na, nb, nc, ea, eb, ec, -, s1', s2', s3', hbk⟩ := hOH.own
        rw [ea, eb, ec] at hOH
        have hq18 := hOH.blk
        have hb8C : Below w8.heap.size w8 w13 := ⟨HK3.os, HK3.tape, HK3.output, HK3.size, fun k hk => HK3.block k hk ⟨hk, by omega⟩⟩
        have HQ13 := Hid.mk' (HQ8.out.call hb8C)
        have hR13 : RL6 w13 (nq (NB A (w.heap.size + 2) (Value.slice (some ⟨g8, 0, none⟩) (O.length + 1) c8) w8) w8.heap.size w13) na nb nc jx jy jz ⟨sj.H ++ [⟨q, 0, false⟩], sj.L, sj.M⟩ := ⟨s1', s2', s3', HR8.out.dr.below hb8C, fun k hk => .inr (hbk k hk), fun k hk => .inl (HR8.out.bd k hk)⟩
        have hne : ∀ k, nq (NB A (w.heap.size + 2) (Value.slice (some ⟨g8, 0, none⟩) (O.length + 1) c8) w8) w8.heap.size w13 k → k ≠ w.heap.size := by
          rintro k (hk | hk)
          · exact (HKA.out k hk).2
          · omega
        have hR14 := hR13.stg hne (.int .i64 e) (.int .i64 gd) (.slice na.a na.n na.c) (.slice nb.a nb.n nb.c) (.slice nc.a nc.n nc.c) (.slice jx.a jx.n jx.c) (.slice jy.a jy.n jy.c) (.slice jz.a jz.n jz.c)
        have hr8 := put8_rest w13 0 w.heap.size (Nat.zero_le _) (.int .i64 e) (.int .i64 gd) (.slice na.a na.n na.c) (.slice nb.a nb.n nb.c) (.slice nc.a nc.n nc.c) (.slice jx.a jx.n jx.c) (.slice jy.a jy.n jy.c) (.slice jz.a jz.n jz.c)
        have hs14 : w8.heap.size ≤ ((((((((w13.setCell ⟨w.heap.size, 0, none⟩ (.int .i64 e)).setCell ⟨w.heap.size, 1, none⟩ (.int .i64 gd)).setCell ⟨w.heap.size, 2, none⟩ (.slice na.a na.n na.c)).setCell ⟨w.heap.size, 3, none⟩ (.slice nb.a nb.n nb.c)).setCell ⟨w.heap.size, 4, none⟩ (.slice nc.a nc.n nc.c)).setCell ⟨w.heap.size, 5, none⟩ (.slice jx.a jx.n jx.c)).setCell ⟨w.heap.size, 6, none⟩ (.slice jy.a jy.n jy.c)).setCell ⟨w.heap.size, 7, none⟩ (.slice jz.a jz.n jz.c)).heap.size := Nat.le_trans hb8C.size hr8.1.size
        have HRe := Hid.mk' (hR14.nbo (fun k hk => (HV8.out k hk).2) hs28 hs14)
        have HQe := Hid.mk' (HQ13.out.store na nb nc jx jy jz)
        have HOe := Hid.mk' (own_put8 (owns_keep HO8.out (keep_below (A := fun _ => True) hb8C) (fun _ _ => trivial)) w.heap.size (by have := HS5.out; omega) (.int .i64 e) (.int .i64 gd) (.slice na.a na.n na.c) (.slice nb.a nb.n nb.c) (.slice nc.a nc.n nc.c) (.slice jx.a jx.n jx.c) (.slice jy.a jy.n jy.c) (.slice jz.a jz.n jz.c))
        have HTe := Hid.mk' ((HT8.out.below hb8C).fin w.heap.size (fun k hk => by have := (HLF.out k hk).1; omega) (.int .i64 e) (.int .i64 gd) (.slice na.a na.n na.c) (.slice nb.a nb.n nb.c) (.slice nc.a nc.n nc.c) (.slice jx.a jx.n jx.c) (.slice jy.a jy.n jy.c) (.slice jz.a jz.n jz.c))
        have hq2 : w13.heap[w.heap.size]? = some (.cells #[.int .i64 e, .int .i64 gd, .slice ja.a ja.n ja.c, .slice jb.a jb.n jb.c, .slice jc.a jc.n jc.c, .slice jx.a jx.n jx.c, .slice jy.a jy.n jy.c, .slice jz.a jz.n jz.c] 33 (0, 0)) := HQ13.out.g2
        obtain ⟨c0, c1, c2, c3, c4, c5, c6, c7⟩ := blk8 hq2
        clear hq2
        have hq2 : w13.heap[w.heap.size]? = some (.cells #[.int .i64 e, .int .i64 gd, .slice ja.a ja.n ja.c, .slice jb.a jb.n jb.c, .slice jc.a jc.n jc.c, .slice jx.a jx.n jx.c, .slice jy.a jy.n jy.c, .slice jz.a jz.n jz.c] 33 (0, 0)) := HQ13.out.g2
        have z0 := fz8 hq2 0
        have z1 := fz8 hq2 1
        have z2 := fz8 hq2 2
        have z3 := fz8 hq2 3
        have z4 := fz8 hq2 4
        have z5 := fz8 hq2 5
        have z6 := fz8 hq2 6
        have z7 := fz8 hq2 7
        obtain ⟨y0, y1, y2, y3, y4, y5, y6, y7⟩ := blk8 hq18
        clear hq2 hq18 hOH ea eb ec s1' s2' s3' hbk hb8C hR13 hne hR14 hr8 HK3
        go_wp2_with fail
        have hl1 : (O ++ [q]).length = O.length + 1 := by simp
        refine ⟨⟨j + 1, na, nb, nc, jx, jy, jz, by simp, by omega, by rw [HNB.out, hl1]; exact HOe.out, HQe.out, ?_, HTe.out, Nat.le_trans hs58 hs14⟩, by simp [intOf]; omega⟩
        rw [HNA.out]
        exact HRe.out
      | true =>
        obtain ⟨ba, bn, bk⟩ := jb
        obtain ⟨ca, cn, ck⟩ := jc
        have hpl := pl_yes hisJ
        obtain ⟨i, hi0⟩ : ∃ i, i = plN q sj.H := ⟨_, rfl⟩
        rw [← hi0] at hpl
        have hi := hpl.2
        obtain ⟨-, q2, p2, e2, -⟩ := hR.sti hi
        obtain ⟨-, r2, p3, e3, -⟩ := hR.lvi hi
        obtain rfl : ba = some ⟨q2, p2, none⟩ := e2
        obtain rfl : ca = some ⟨r2, p3, none⟩ := e3
        obtain ⟨t, ht⟩ : ∃ t, t = (atH sj.H i).st := ⟨_, rfl⟩
        obtain ⟨v, hv⟩ : ∃ v, v = (atH sj.H i).lv := ⟨_, rfl⟩
        have HT : Hid (t = (atH sj.H i).st ∧ v = (atH sj.H i).lv ∧ i = plN q sj.H ∧ i < sj.H.length ∧ isH q sj.H = true) := ⟨ht, hv, hi0, hi, hisJ⟩
        have hlv : (ofN q sj.H).lv = v := by show (atH sj.H (plN q sj.H)).lv = v; rw [← hi0]; exact hv.symm
        have hst : (ofN q sj.H).st = t := by show (atH sj.H (plN q sj.H)).st = t; rw [← hi0]; exact ht.symm
        have HLS : Hid ((ofN q sj.H).lv = v ∧ (ofN q sj.H).st = t) := ⟨hlv, hst⟩
        have HPL := Hid.mk' hpl.1
        clear hlv hst ht hv hi0 hR hpl hi hisJ
        go_upto_region 18 with fail
        refine reg18 w wr HQj.out HRj.out hc HLB.out HXW.out HPL.out ?_
        iterate 6 intro _
        intro w7 hbz
        have HQ7 : Hid (Bo w w7 e gd ja ⟨some ⟨q2, p2, none⟩, bn, bk⟩ ⟨some ⟨r2, p3, none⟩, cn, ck⟩ jx jy jz) := HQj.out.call hbz
        have HR7 : Hid (RL6 w7 (NB A (w.heap.size + 2) v11 w7) ja ⟨some ⟨q2, p2, none⟩, bn, bk⟩ ⟨some ⟨r2, p3, none⟩, cn, ck⟩ jx jy jz sj) := HRj.out.nbb hbz
        have HO7 := Hid.mk' (owns_keep HOj.out (keep_below (A := fun _ => True) hbz) (fun _ _ => trivial))
        have HT7 := Hid.mk' (HTj.out.below hbz)
        have hs57 : w5.heap.size ≤ w7.heap.size := Nat.le_trans hsw hbz.size
        have hs27 : w.heap.size + 2 ≤ w7.heap.size := HQ7.out.sz
        have x1 := (HQ7.out.hb.cell (p := ⟨lb, lo + j, none⟩) HLB.out).trans HXW.out
        have hq2 : w7.heap[w.heap.size]? = some (.cells #[.int .i64 e, .int .i64 gd, .slice ja.a ja.n ja.c, .slice (some ⟨q2, p2, none⟩)  bn  bk, .slice (some ⟨r2, p3, none⟩)  cn  ck, .slice jx.a jx.n jx.c, .slice jy.a jy.n jy.c, .slice jz.a jz.n jz.c] 33 (0, 0)) := HQ7.out.g2
        obtain ⟨c0, c1, c2, c3, c4, c5, c6, c7⟩ := blk8 hq2
        clear hq2
        obtain ⟨x2, hin2, hib2⟩ := HR7.out.stk HT.out.2.2.2.1
        obtain ⟨x3, hin3, hib3⟩ := HR7.out.lvk HT.out.2.2.2.1
        rw [← HT.out.1] at x2
        rw [← HT.out.2.1] at x3
        cases v with
        | false =>
          have HE := Hid.mk' (en_1 HT.out.2.2.2.2 HLS.out.1)
          have HNA : Hid (enS (l.take (j + 1)) S1 = sj) := HN1.out.trans HE.out.1
          have HNB : Hid (enN (l.take (j + 1)) S1 = O) := by have := HN2.out; rw [HE.out.2, List.append_nil] at this; exact this
          go_wp2_with fail
          refine ⟨⟨j + 1, ja, ⟨some ⟨q2, p2, none⟩, bn, bk⟩, ⟨some ⟨r2, p3, none⟩, cn, ck⟩, jx, jy, jz, by simp, by omega, ?_, HQ7.out, ?_, HT7.out, hs57⟩, by simp [intOf]; omega⟩
          · rw [HNB.out]; exact HO7.out
          · rw [HNA.out]; exact HR7.out
        | true =>
          have HE := Hid.mk' (en_3 HT.out.2.2.2.2 HLS.out.1)
          rw [HLS.out.2, ← HT.out.2.2.1] at HE
          have HNA : Hid (enS (l.take (j + 1)) S1 = ⟨putH sj.H i (St.nx t 6) false, wo q sj.L, wo q sj.M⟩) := HN1.out.trans HE.out.1
          have HNB : Hid (enN (l.take (j + 1)) S1 = O ++ [q]) := by have := HN2.out; rw [HE.out.2] at this; exact this
          clear HE
          have hown7 := HO7.out.alloc (.cells #[.string q] 9)
          go_upto_region 27 with (at_builtin; refine wpList_str1 _ rfl _ _ rfl w5.heap.size v11 O.length O q rfl hown7 _ 1 rfl (news_one w7 (.string q) 9 0 _ rfl) hO (by simp; omega) ?_; intro g8 c8 w8 o8 gr8 at8)
          clear x2 x3
          have hba : Below w7.heap.size w7 (w7.alloc (.cells #[.string q] 9)) := (Below.refl _ w7).alloc (Nat.le_refl _) _
          have HR8 : Hid (RL6 w8 (NB A (w.heap.size + 2) (Value.slice (some ⟨g8, 0, none⟩) (O.length + 1) c8) w8) ja ⟨some ⟨q2, p2, none⟩, bn, bk⟩ ⟨some ⟨r2, p3, none⟩, cn, ck⟩ jx jy jz sj) := RL6.push (HR7.out.mono (fun _ hk => .inl hk)) (fun k hk => Nat.lt_of_lt_of_le (hG k hk) HQ7.out.hb.size) hs27 (Nat.le_refl _) hba gr8 (fun k hk => (HO7.out.lt k hk).2) at8
          have HQ8 : Hid (Bo w w8 e gd ja ⟨some ⟨q2, p2, none⟩, bn, bk⟩ ⟨some ⟨r2, p3, none⟩, cn, ck⟩ jx jy jz) := (HQ7.out.call hba).grown gr8 (fun k hk => by have := (HO7.out.lt k hk).1; have := HS5.out; omega)
          have HT8 := Hid.mk' ((HT7.out.below hba).grown gr8 (fun k hk e => by have := (HLF.out k hk).2; have := (HO7.out.lt k e).1; omega))
          have HO8 := Hid.mk' o8
          have HGK : Hid (∀ k, NB A (w.heap.size + 2) (Value.slice (some ⟨g8, 0, none⟩) (O.length + 1) c8) w8 k → k < w8.heap.size) := fun k hk => nq_lt hG HQ8.out.hb.size hk.1
          have HV8 : Hid (∀ k, (Value.slice (some ⟨g8, 0, none⟩) (O.length + 1) c8).ownBlock = some k → w5.heap.size ≤ k ∧ k < w8.heap.size) := fun k hk => o8.lt k hk
          have hs58 : w5.heap.size ≤ w8.heap.size := by have := hba.size; have := gr8.size; omega
          have hs28 : w.heap.size + 2 ≤ w8.heap.size := HQ8.out.sz
          have HKA : Hid (∀ k, NB A (w.heap.size + 2) (Value.slice (some ⟨g8, 0, none⟩) (O.length + 1) c8) w8 k → k < w8.heap.size ∧ k ≠ w.heap.size) := fun k hk => ⟨HGK.out k hk, (nq_ne hG hk.1).1⟩
          clear c0 c1 c2 c3 c4 c5 c6 c7 hown7 o8 gr8 at8 x1 hba
          have x1 := (HQ8.out.hb.cell (p := ⟨lb, lo + j, none⟩) HLB.out).trans HXW.out
          have hq2 : w8.heap[w.heap.size]? = some (.cells #[.int .i64 e, .int .i64 gd, .slice ja.a ja.n ja.c, .slice (some ⟨q2, p2, none⟩)  bn  bk, .slice (some ⟨r2, p3, none⟩)  cn  ck, .slice jx.a jx.n jx.c, .slice jy.a jy.n jy.c, .slice jz.a jz.n jz.c] 33 (0, 0)) := HQ8.out.g2
          obtain ⟨c0, c1, c2, c3, c4, c5, c6, c7⟩ := blk8 hq2
          clear hq2
          obtain ⟨x2, -, -⟩ := HR8.out.stk HT.out.2.2.2.1
          rw [← HT.out.1] at x2
          have HN := Hid.mk' (St.rnext_any t 6 w8)
          generalize St.nx t 6 = u at *
          generalize St.did t 6 = g at *
          go_upto_region 28 with (go_at_call 69; refine HN.out.mono ?_; rintro o w5 ⟨rfl, hw5⟩; have hw5 := hw5.symm; subst hw5)
          refine reg28 w w8 HQ8.out HR8.out HKA.out HT.out.2.2.2.1 hj4 hjl2 hjm2 hc HLB.out HXW.out ?_
          iterate 9 intro _
          intro w11 b' c' x' y' z' hQe hRe hKe
          have hOe := owns_keep HO8.out hKe (fun k hk => ⟨(HV8.out k hk).2, by have := (HV8.out k hk).1; have := HS5.out; omega⟩)
          have hTe := HT8.out.keep hKe (fun k hk => ⟨by have := (HLF.out k hk).2; omega, by have := (HLF.out k hk).1; omega⟩)
          have hRe2 := hRe.nbo (fun k hk => (HV8.out k hk).2) hs28 hKe.size
          have hs11 := hKe.size
          have HQe := Hid.mk' hQe
          have HRe := Hid.mk' hRe2
          have HOe := Hid.mk' hOe
          have HTe := Hid.mk' hTe
          clear c0 c1 c2 c3 c4 c5 c6 c7 x1 x2 hQe hRe hRe2 hOe hTe hKe
          go_wp2_with fail
          have hl1 : (O ++ [q]).length = O.length + 1 := by simp
          refine ⟨⟨j + 1, ja, b', c', x', y', z', by simp, by omega, by rw [HNB.out, hl1]; exact HOe.out, HQe.out, ?_, HTe.out, Nat.le_trans hs58 hs11⟩, by simp [intOf]; omega⟩
          rw [HNA.out]
          exact HRe.out
    · obtain rfl : ln = j := by omega
      have e9 : l.take ln = l := by rw [← HLN.out]; exact List.take_length
      have ho := HOj.out
      have hr := HRj.out
      rw [e9] at ho hr
      have HO9 := Hid.mk' ho
      have HR9 := Hid.mk' hr
      clear ho hr e9 hR
      go_wp2_with fail
      apply HKK.out
      · exact HQj.out
      · exact HR9.out
      · exact HO9.out
      · exact HTj.out
end Go.Proofs.YtmlkpfkeeifgeaaDoor
namespace Go.Proofs.YtmlkpfkeeifgeaaDoor
open Go.ChangeShapes Go.WideShapes Go.ChangeAt Go.RowKit Go.Joins Go.Deep

set_option maxHeartbeats 4000000 in
set_option maxRecDepth 100000 in
theorem rres_e {w : World} {A : Nat → Prop} {e gd : Int} {a b c x y z : Sl} {s : Fl} (la : Option Addr) (ln lk : Nat) (l : List ByteArray) (d : Int) (h : RL6 w A a b c x y z s) (hG : ∀ k, A k → k < w.heap.size) (hl : StrsAt w la ln lk l) (hz : ∀ x ∈ l, x.size ≤ maxLen) (hE : ¬ Df.chk l = 0) :
    Calls Tryd.prog 39 #[.agg #[.int .i64 e, .int .i64 gd, .slice a.a a.n a.c, .slice b.a b.n b.c, .slice c.a c.n c.c, .slice x.a x.n x.c, .slice y.a y.n y.c, .slice z.a z.n z.c], .slice la ln lk, .int .i64 d] w fun o w' => ∃ v u1 u2, o = .returned (.tuple #[v, u1, u2, .int .i64 (reE l)]) ∧ RP w w' A e gd (reS l d s) v ∧ TxAt w' u1 (reC l d s) ∧ TxAt w' u2 (reN l s) := by
  have hE' : (Df.chk l != 0) = true := by simp [hE]
  have HX : Hid (reS l d s = s ∧ reC l d s = [] ∧ reN l s = []) := ⟨if_neg hE, if_neg hE, if_neg hE⟩
  unfold reE
  obtain ⟨w1, hw1⟩ : ∃ w1, w1 = (w.alloc (.cells #[.int .i64 e, .int .i64 gd, .slice a.a a.n a.c, .slice b.a b.n b.c, .slice c.a c.n c.c, .slice x.a x.n x.c, .slice y.a y.n y.c, .slice z.a z.n z.c] 33)).alloc (.cells #[.int .i64 0, .int .i64 0, .slice none 0 0, .slice none 0 0, .slice none 0 0, .slice none 0 0, .slice none 0 0, .slice none 0 0] 33) := ⟨_, rfl⟩
  have HQ : Hid (Bo w w1 e gd a b c x y z) := by rw [hw1]; exact Bo.start w e gd a b c x y z
  have HR : Hid (RL6 w1 (nq A (w.heap.size + 2) w1) a b c x y z s) := h.nq1 HQ.out.hb
  have hsz := HQ.out.sz
  have HK := Hid.mk' (Df.rcheck_any la ln lk l w1 (df_strs (hl.below (Nat.le_refl _) HQ.out.hb)) hz)
  generalize Df.chk l = E at *
  clear hl hz hE
  have hq2 : w1.heap[w.heap.size]? = some (.cells #[.int .i64 e, .int .i64 gd, .slice a.a a.n a.c, .slice b.a b.n b.c, .slice c.a c.n c.c, .slice x.a x.n x.c, .slice y.a y.n y.c, .slice z.a z.n z.c] 33 (0, 0)) := HQ.out.g2
  obtain ⟨c0, c1, c2, c3, c4, c5, c6, c7⟩ := blk8 hq2
  clear hq2
  clear h
  go_enter Tryd.func39, Tryd.ntmps39
  go_upto_region 1 with fail
  rw [← hw1]
  clear hw1
  go_upto_region 2 with (go_at_call 66; refine HK.out.mono ?_; rintro o w3 ⟨rfl, hb3⟩)
  have HQ3 : Hid (Bo w w3 e gd a b c x y z) := HQ.out.call hb3
  have HR3 := Hid.mk' (HR.out.nqb hb3)
  clear c0 c1 c2 c3 c4 c5 c6 c7
  have hq2 : w3.heap[w.heap.size]? = some (.cells #[.int .i64 e, .int .i64 gd, .slice a.a a.n a.c, .slice b.a b.n b.c, .slice c.a c.n c.c, .slice x.a x.n x.c, .slice y.a y.n y.c, .slice z.a z.n z.c] 33 (0, 0)) := HQ3.out.g2
  obtain ⟨c0, c1, c2, c3, c4, c5, c6, c7⟩ := blk8 hq2
  clear hq2
  have hq4 : w3.heap[w.heap.size + 1]? = some (.cells #[.int .i64 0, .int .i64 0, .slice none 0 0, .slice none 0 0, .slice none 0 0, .slice none 0 0, .slice none 0 0, .slice none 0 0] 33 (0, 0)) := HQ3.out.g4
  obtain ⟨d0, d1, d2, d3, d4, d5, d6, d7⟩ := blk8 hq4
  have f0 := fz8 hq4 0
  have f1 := fz8 hq4 1
  have f2 := fz8 hq4 2
  have f3 := fz8 hq4 3
  have f4 := fz8 hq4 4
  have f5 := fz8 hq4 5
  have f6 := fz8 hq4 6
  have f7 := fz8 hq4 7
  clear hq4
  go_wp2
  obtain ⟨g8, h8, hb8⟩ := HQ3.out.res hG HR3.out
  try dsimp only at g8 h8 hb8
  clear d0 d1 d2 d3 d4 d5 d6 d7 f0 f1 f2 f3 f4 f5 f6 f7
  generalize ((((((((w3.setCell _ _).setCell _ _).setCell _ _).setCell _ _).setCell _ _).setCell _ _).setCell _ _).setCell _ _) = w8 at *
  obtain ⟨d0, d1, d2, d3, d4, d5, d6, d7⟩ := blk8 g8
  refine bodyPost_ret (v := .tuple #[.agg #[.int .i64 e, .int .i64 gd, .slice a.a a.n a.c, .slice b.a b.n b.c, .slice c.a c.n c.c, .slice x.a x.n x.c, .slice y.a y.n y.c, .slice z.a z.n z.c], .slice none 0 0, .slice none 0 0, .int .i64 E]) (by simp [results, Tryd.results39, go_sem, d0, d1, d2, d3, d4, d5, d6, d7]) rfl ?_
  rw [HX.out.1, HX.out.2.1, HX.out.2.2]
  exact ⟨_, _, _, rfl, RP.mk h8 hb8, TxAt.nil _, TxAt.nil _⟩
set_option maxHeartbeats 4000000 in
set_option maxRecDepth 100000 in
theorem rres_o {w : World} {A : Nat → Prop} {e gd : Int} {a b c x y z : Sl} {s : Fl} (la : Option Addr) (ln lk : Nat) (l : List ByteArray) (d : Int) (h : RL6 w A a b c x y z s) (hG : ∀ k, A k → k < w.heap.size) (hl : StrsAt w la ln lk l) (hz : ∀ x ∈ l, x.size ≤ maxLen) (hE : Df.chk l = 0) (hW : W s) (hlen : s.H.length ≤ 1600) :
    Calls Tryd.prog 39 #[.agg #[.int .i64 e, .int .i64 gd, .slice a.a a.n a.c, .slice b.a b.n b.c, .slice c.a c.n c.c, .slice x.a x.n x.c, .slice y.a y.n y.c, .slice z.a z.n z.c], .slice la ln lk, .int .i64 d] w fun o w' => ∃ v u1 u2, o = .returned (.tuple #[v, u1, u2, .int .i64 (reE l)]) ∧ RP w w' A e gd (reS l d s) v ∧ TxAt w' u1 (reC l d s) ∧ TxAt w' u2 (reN l s) := by
  have HNM : Hid (∀ x ∈ l, nameB x = true) := chk_names hE
  have hl16 : l.length ≤ 16 := by have := chk_len hE; omega
  have HLN := Hid.mk' hl.hlen
  have hln16 : ln ≤ 16 := by have := hl.hlen; omega
  have HX : Hid (reS l d s = enS l (lvS l d s) ∧ reC l d s = enN l (lvS l d s) ∧ reN l s = lvN l s.H) := ⟨if_pos hE, if_pos hE, if_pos hE⟩
  have HWs := Hid.mk' hW
  obtain ⟨aa, an, ak⟩ := a
  obtain ⟨ca, cn, ck⟩ := c
  have HAN : Hid (an = s.H.length ∧ cn = s.H.length) := ⟨h.lens.1, h.lens.2.2⟩
  have han : an ≤ 1600 := by have := HAN.out.1; omega
  unfold reE
  dsimp only
  obtain ⟨w1, hw1⟩ : ∃ w1, w1 = (w.alloc (.cells #[.int .i64 e, .int .i64 gd, .slice aa an ak, .slice b.a b.n b.c, .slice ca cn ck, .slice x.a x.n x.c, .slice y.a y.n y.c, .slice z.a z.n z.c] 33)).alloc (.cells #[.int .i64 0, .int .i64 0, .slice none 0 0, .slice none 0 0, .slice none 0 0, .slice none 0 0, .slice none 0 0, .slice none 0 0] 33) := ⟨_, rfl⟩
  have HQ : Hid (Bo w w1 e gd ⟨aa, an, ak⟩ b ⟨ca, cn, ck⟩ x y z) := by rw [hw1]; exact Bo.start w e gd ⟨aa, an, ak⟩ b ⟨ca, cn, ck⟩ x y z
  have HR : Hid (RL6 w1 (nq A (w.heap.size + 2) w1) ⟨aa, an, ak⟩ b ⟨ca, cn, ck⟩ x y z s) := h.nq1 HQ.out.hb
  have hsz := HQ.out.sz
  have HK := Hid.mk' (Df.rcheck_any la ln lk l w1 (df_strs (hl.below (Nat.le_refl _) HQ.out.hb)) hz)
  rw [hE] at HK
  rw [hE]
  have HL : Hid (∀ w', Below w.heap.size w w' → StrsAt w' la ln lk l) := fun w' hb => hl.below (Nat.le_refl _) hb
  clear hl hz hE hW
  have hq2 : w1.heap[w.heap.size]? = some (.cells #[.int .i64 e, .int .i64 gd, .slice aa an ak, .slice b.a b.n b.c, .slice ca cn ck, .slice x.a x.n x.c, .slice y.a y.n y.c, .slice z.a z.n z.c] 33 (0, 0)) := HQ.out.g2
  obtain ⟨c0, c1, c2, c3, c4, c5, c6, c7⟩ := blk8 hq2
  clear hq2
  clear h
  go_enter Tryd.func39, Tryd.ntmps39
  go_upto_region 1 with fail
  rw [← hw1]
  clear hw1
  go_wp2_with (go_at_call 66; refine HK.out.mono ?_; rintro o w3 ⟨rfl, hb3⟩)
  have HQ3 := Hid.mk' (HQ.out.call hb3)
  have HR3 := Hid.mk' (HR.out.nqb hb3)
  clear c0 c1 c2 c3 c4 c5 c6 c7 hb3 HQ HR HK
  go_loopw [13, 12] (fun v13 v12 wr => ∃ i : Nat, v13 = .int .i64 i ∧ i ≤ an ∧ wr.ownsRow w3.heap.size 9 1 v12 (lvN l (s.H.take i)).length (sc (lvN l (s.H.take i))) ∧ Below w3.heap.size w3 wr) (fun v13 _ _ => an + 1 - (intOf v13).toNat)
  case atStart => exact ⟨0, rfl, Nat.zero_le _, World.ownsRow_nil _ _ _ _, Below.refl _ _⟩
  case round =>
    obtain ⟨i, rfl, hi1, hown, hbr⟩ := hrel
    have HQr := Hid.mk' (HQ3.out.call hbr)
    have HRr := Hid.mk' (HR3.out.nqb hbr)
    have HBr := Hid.mk' hbr
    have HOW := Hid.mk' hown
    have hLr := HL.out wr HQr.out.hb
    have hs3 := hbr.size
    have hq2 : wr.heap[w.heap.size]? = some (.cells #[.int .i64 e, .int .i64 gd, .slice aa an ak, .slice b.a b.n b.c, .slice ca cn ck, .slice x.a x.n x.c, .slice y.a y.n y.c, .slice z.a z.n z.c] 33 (0, 0)) := HQr.out.g2
    obtain ⟨c0, c1, c2, c3, c4, c5, c6, c7⟩ := blk8 hq2
    clear hq2
    by_cases hc : i < an
    · have hi : i < s.H.length := by have := HAN.out.1; omega
      obtain ⟨-, b1, p1, e1, x1⟩ := HRr.out.nmi hi
      obtain ⟨hic, b3, p3, e3, x3⟩ := HRr.out.lvi hi
      obtain rfl : aa = some ⟨b1, p1, none⟩ := e1
      obtain rfl : ca = some ⟨b3, p3, none⟩ := e3
      dsimp only at hic
      have hia' : (i : Int) < (an : Int) := by omega
      have hic' : (i : Int) < (cn : Int) := by omega
      have hTK := lvN_take (l := l) hi
      have hO : (lvN l (s.H.take i)).length ≤ 4000 := by
        have := lvN_len l (s.H.take i)
        simp at this
        omega
      obtain ⟨X, hX⟩ : ∃ X, X = (atH s.H i).nm := ⟨_, rfl⟩
      obtain ⟨V, hV⟩ : ∃ V, V = (atH s.H i).lv := ⟨_, rfl⟩
      rw [← hX] at x1
      rw [← hV] at x3
      have HHas := Hid.mk' (Df.has_any la ln lk l X wr (df_strs hLr))
      clear hbr hown hLr
      cases hB : Df.hasB l X with
      | true =>
        have e0 : lvNow l (atH s.H i) = false := by unfold lvNow; rw [← hX]; have : hasB l X = true := hB; rw [this]; rfl
        rw [hB] at HHas
        clear hX hV hi hB
        have HTK : Hid (lvN l (s.H.take (i + 1)) = lvN l (s.H.take i)) := by
          show _ = _
          rw [hTK, e0]
          simp
        clear hTK e0
        go_wp2_with (go_at_call 26; refine HHas.out.mono ?_; rintro o w5 ⟨rfl, hw5⟩; have hw5 := hw5.symm; subst hw5)
        refine ⟨⟨i + 1, by simp, by omega, ?_, HBr.out⟩, by simp [intOf]; omega⟩
        rw [HTK.out]
        exact HOW.out
      | false =>
        rw [hB] at HHas
        have hB' : hasB l X = false := hB
        cases V with
        | true =>
          have e0 : lvNow l (atH s.H i) = false := by unfold lvNow; rw [← hV]; simp
          clear hX hV hi hB hB'
          have HTK : Hid (lvN l (s.H.take (i + 1)) = lvN l (s.H.take i)) := by
            show _ = _
            rw [hTK, e0]
            simp
          clear hTK e0
          go_wp2_with (go_at_call 26; refine HHas.out.mono ?_; rintro o w5 ⟨rfl, hw5⟩; have hw5 := hw5.symm; subst hw5)
          refine ⟨⟨i + 1, by simp, by omega, ?_, HBr.out⟩, by simp [intOf]; omega⟩
          rw [HTK.out]
          exact HOW.out
        | false =>
          have e0 : lvNow l (atH s.H i) = true := by unfold lvNow; rw [← hX, ← hV, hB']; rfl
          have HTK : Hid (lvN l (s.H.take (i + 1)) = lvN l (s.H.take i) ++ [X]) := by
            show _ = _
            rw [hTK, e0, if_pos rfl, hX]
          clear hTK e0 hX hV hi hB hB'
          generalize lvN l (s.H.take i) = O at *
          have hown' := HOW.out.alloc (.cells #[.string X] 9)
          go_wp2_with (first
            | (go_at_call 26; refine HHas.out.mono ?_; rintro o w5 ⟨rfl, hw5⟩; have hw5 := hw5.symm; subst hw5)
            | (at_builtin; refine wpList_str1 _ rfl _ _ rfl w3.heap.size _ O.length O X rfl hown' _ 1 rfl (news_one wr (.string X) 9 0 _ rfl) hO (by simp; omega) ?_; intro g5 c6 w8 o8 gr8 at8))
          have hl1 : (O ++ [X]).length = O.length + 1 := by simp
          refine ⟨⟨i + 1, by simp, by omega, by rw [HTK.out, hl1]; exact o8, ?_⟩, by simp [intOf]; omega⟩
          exact (HBr.out.alloc HBr.out.size _).grown gr8 (by have := HBr.out.size; simp; omega) (fun k hk => (HOW.out.lt k hk).1)
    · obtain rfl : an = i := by omega
      have e9 : s.H.take an = s.H := by rw [HAN.out.1]; exact List.take_length
      rw [e9] at HOW hown
      obtain ⟨oa, oc, rfl, -, -⟩ := owns_strs hown
      have HT12 := Hid.mk' (TxAt.own HOW.out)
      have HIS : Hid (∀ j, j < (lvN l s.H).length → isH ((lvN l s.H).getD j ⟨#[]⟩) (rls d s (lvN l s.H) j).H = true) := fun j hj => rls_is d HWs.out l hj
      have HQZ : Hid (∀ j, j < (lvN l s.H).length → ((lvN l s.H).getD j ⟨#[]⟩).size ≤ maxLen) := fun j hj => by
        obtain ⟨l', g, e1, hw⟩ := HWs.out
        have h1 : (lvN l s.H).getD j ⟨#[]⟩ ∈ hn s.H := by
          refine (lvN_sub l s.H).subset ?_
          simp [List.getD, hj]
        rw [e1, hn_sta, ← e1] at h1
        have := nameB_size (hw.hg _ h1)
        unfold maxLen
        omega
      have HLE : Hid (∀ j, j ≤ (lvN l s.H).length → (rls d s (lvN l s.H) j).H.length ≤ 4000 ∧ (rls d s (lvN l s.H) j).L.length ≤ 3500 ∧ (rls d s (lvN l s.H) j).M.length ≤ 3500) := fun j hj => by
        have h1 := rls_lens d s (lvN l s.H) j hj
        have h2 := HWs.out.few3
        have h3 := lvN_len l s.H
        omega
      have HEND : Hid (rls d s (lvN l s.H) (lvN l s.H).length = lvS l d s) := rls_end HWs.out l d
      have hNl : (lvN l s.H).length ≤ 4000 := Nat.le_trans (lvN_len l s.H) (by omega)
      generalize hN : lvN l s.H = N at *
      have HNN := Hid.mk' hN
      clear hN hown hbr hLr e9 hc hi1 HOW
      go_wp2
      clear c0 c1 c2 c3 c4 c5 c6 c7
      generalize wr = w4 at *
      go_loopw [15] (fun v15 wr => ∃ j : Nat, ∃ ja jb jc jx jy jz : Sl, v15 = .int .i64 j ∧ j ≤ N.length ∧ Bo w wr e gd ja jb jc jx jy jz ∧ RL6 wr (nq A (w.heap.size + 2) wr) ja jb jc jx jy jz (rls d s N j) ∧ TxAt wr (.slice oa N.length oc) N ∧ w4.heap.size ≤ wr.heap.size) (fun v15 _ => N.length + 1 - (intOf v15).toNat)
      case atStart => exact ⟨0, _, _, _, _, _, _, rfl, Nat.zero_le _, HQr.out, HRr.out, HT12.out.1, Nat.le_refl _⟩
      case round =>
        obtain ⟨j, ja, jb, jc, jx, jy, jz, rfl, hj1, hQ, hR, hT, hsw⟩ := hrel
        have HQj := Hid.mk' hQ
        have HRj := Hid.mk' hR
        have HTj := Hid.mk' hT
        clear hQ hR
        have hq2 : wr.heap[w.heap.size]? = some (.cells #[.int .i64 e, .int .i64 gd, .slice ja.a ja.n ja.c, .slice jb.a jb.n jb.c, .slice jc.a jc.n jc.c, .slice jx.a jx.n jx.c, .slice jy.a jy.n jy.c, .slice jz.a jz.n jz.c] 33 (0, 0)) := HQj.out.g2
        obtain ⟨c0, c1, c2, c3, c4, c5, c6, c7⟩ := blk8 hq2
        clear hq2
        by_cases hc : j < N.length
        · obtain ⟨oa', oc', eo, hoS, -⟩ := hT
          injection eo with eo1 _ eo2
          subst eo1 eo2
          obtain ⟨ob, oo, eob, -, xo⟩ := hoS.at_ j hc
          subst eob
          have hisJ := HIS.out j hc
          have hqz := HQZ.out j hc
          have hle := HLE.out j (Nat.le_of_lt hc)
          have HNX := Hid.mk' (rls_next (d := d) (s := s) hc)
          have hcj : (j : Int) < (N.length : Int) := by omega
          generalize N.getD j ⟨#[]⟩ = q at *
          generalize rls d s N j = sj at *
          have hbd : Below wr.heap.size wr wr.drew := below_drewN (Below.refl _ wr) 1
          have HBD := Hid.mk' hbd
          have HQd := Hid.mk' (HQj.out.call hbd)
          have HRd := Hid.mk' (HRj.out.nqb hbd)
          have HGd : Hid (∀ k, nq A (w.heap.size + 2) wr.drew k → k < wr.drew.heap.size) := fun _ hk => nq_lt hG HQd.out.hb.size hk
          have HLV := Hid.mk' (rleave_f q d (e := e) (gd := gd) HRd.out HGd.out hqz hisJ hle.1 hle.2.1 hle.2.2)
          clear hoS hbd hisJ hqz hle
          go_upto_region 14 with fail
          go_region_with ((go_at_call 67; refine HLV.out.mono ?_; rintro o w6 ⟨v6, rfl, ka, kb, kc, kx, ky, kz, rfl, h6, hb6⟩; have HQ6 := Hid.mk' (HQd.out.call hb6); have hq2 : w6.heap[w.heap.size]? = some (.cells #[.int .i64 e, .int .i64 gd, .slice ja.a ja.n ja.c, .slice jb.a jb.n jb.c, .slice jc.a jc.n jc.c, .slice jx.a jx.n jx.c, .slice jy.a jy.n jy.c, .slice jz.a jz.n jz.c] 33 (0, 0)) := HQ6.out.g2; obtain ⟨c0, c1, c2, c3, c4, c5, c6, c7⟩ := blk8 hq2; have z0 := fz8 hq2 0; have z1 := fz8 hq2 1; have z2 := fz8 hq2 2; have z3 := fz8 hq2 3; have z4 := fz8 hq2 4; have z5 := fz8 hq2 5; have z6 := fz8 hq2 6; have z7 := fz8 hq2 7; clear hq2))
          all_goals (
            have HR6 := Hid.mk' (h6.nqc HQd.out.sz hb6.size)
            have HQ7 := Hid.mk' (HQ6.out.store ka kb kc kx ky kz)
            have HR7 := Hid.mk' (HR6.out.st8 (e := e) (gd := gd) hG)
            have HT7 := Hid.mk' (((HTj.out.below HBD.out).below hb6).fin w.heap.size (fun k hk => by have := (HT12.out.2 k hk).1; have := HQ3.out.sz; omega) (.int .i64 e) (.int .i64 gd) (.slice ka.a ka.n ka.c) (.slice kb.a kb.n kb.c) (.slice kc.a kc.n kc.c) (.slice kx.a kx.n kx.c) (.slice ky.a ky.n ky.c) (.slice kz.a kz.n kz.c))
            have hs7 : w4.heap.size ≤ ((((((((w6.setCell ⟨w.heap.size, 0, none⟩ (.int .i64 e)).setCell ⟨w.heap.size, 1, none⟩ (.int .i64 gd)).setCell ⟨w.heap.size, 2, none⟩ (.slice ka.a ka.n ka.c)).setCell ⟨w.heap.size, 3, none⟩ (.slice kb.a kb.n kb.c)).setCell ⟨w.heap.size, 4, none⟩ (.slice kc.a kc.n kc.c)).setCell ⟨w.heap.size, 5, none⟩ (.slice kx.a kx.n kx.c)).setCell ⟨w.heap.size, 6, none⟩ (.slice ky.a ky.n ky.c)).setCell ⟨w.heap.size, 7, none⟩ (.slice kz.a kz.n kz.c)).heap.size := Nat.le_trans (Nat.le_trans hsw hb6.size) (put8_rest w6 0 w.heap.size (Nat.zero_le _) (.int .i64 e) (.int .i64 gd) (.slice ka.a ka.n ka.c) (.slice kb.a kb.n kb.c) (.slice kc.a kc.n kc.c) (.slice kx.a kx.n kx.c) (.slice ky.a ky.n ky.c) (.slice kz.a kz.n kz.c)).1.size
            clear c0 c1 c2 c3 c4 c5 c6 c7 z0 z1 z2 z3 z4 z5 z6 z7 h6 xo
            generalize ((((((((w6.setCell ⟨w.heap.size, 0, none⟩ (.int .i64 e)).setCell ⟨w.heap.size, 1, none⟩ (.int .i64 gd)).setCell ⟨w.heap.size, 2, none⟩ (.slice ka.a ka.n ka.c)).setCell ⟨w.heap.size, 3, none⟩ (.slice kb.a kb.n kb.c)).setCell ⟨w.heap.size, 4, none⟩ (.slice kc.a kc.n kc.c)).setCell ⟨w.heap.size, 5, none⟩ (.slice kx.a kx.n kx.c)).setCell ⟨w.heap.size, 6, none⟩ (.slice ky.a ky.n ky.c)).setCell ⟨w.heap.size, 7, none⟩ (.slice kz.a kz.n kz.c)) = w7 at *
            go_wp2
            refine ⟨⟨j + 1, ka, kb, kc, kx, ky, kz, by simp, by omega, HQ7.out, ?_, HT7.out, hs7⟩, by simp [intOf]; omega⟩
            rw [HNX.out]
            exact HR7.out)
        · obtain rfl : N.length = j := by omega
          obtain ⟨S1, hS1⟩ : ∃ S1, S1 = lvS l d s := ⟨_, rfl⟩
          have hRe := HRj.out
          rw [HEND.out] at hRe
          rw [← hS1] at hRe HX
          have HR0 := Hid.mk' hRe
          have HW1 : Hid (W S1 ∧ S1.H.length ≤ 1600) := ⟨by rw [hS1]; exact HWs.out.leave l d, by rw [hS1]; exact Nat.le_trans (lvS_len l d s) hlen⟩
          have HLF : Hid (∀ k, (Value.slice oa N.length oc).ownBlock = some k → w.heap.size + 2 ≤ k ∧ k < wr.heap.size) := fun k hk => ⟨Nat.le_trans HQ3.out.sz (HT12.out.2 k hk).1, Nat.lt_of_lt_of_le (HT12.out.2 k hk).2 hsw⟩
          clear hRe hS1 hT hj1 hc HEND HIS HQZ HLE HRj HR3 HT12 HNN
          go_upto_block 4 with fail
          clear c0 c1 c2 c3 c4 c5 c6 c7 hsw HQr HRr HBr hs3
          generalize wr = w5 at *
          have HS5 : Hid (w.heap.size + 2 ≤ w5.heap.size) := HQj.out.sz
          refine loop3 w w5 hG (HL.out w (Below.refl _ _)) HNM.out hln16 HW1.out.1 HW1.out.2 HQj.out HR0.out HTj.out HLF.out ?_
          iterate 76 intro _
          intro w6 v11 ka kb kc kx ky kz hQ6 hR6 hO6 hT6
          have HQ6 := Hid.mk' hQ6
          have HR6 := Hid.mk' (hR6.mono (fun _ hk => hk.1))
          have HO6 := Hid.mk' hO6
          have HT6 := Hid.mk' hT6
          clear hQ6 hR6 hO6 hT6 HR0 HW1 HQj HTj
          have hq2 : w6.heap[w.heap.size]? = some (.cells #[.int .i64 e, .int .i64 gd, .slice ka.a ka.n ka.c, .slice kb.a kb.n kb.c, .slice kc.a kc.n kc.c, .slice kx.a kx.n kx.c, .slice ky.a ky.n ky.c, .slice kz.a kz.n kz.c] 33 (0, 0)) := HQ6.out.g2
          obtain ⟨c0, c1, c2, c3, c4, c5, c6, c7⟩ := blk8 hq2
          clear hq2
          have hq4 : w6.heap[w.heap.size + 1]? = some (.cells #[.int .i64 0, .int .i64 0, .slice none 0 0, .slice none 0 0, .slice none 0 0, .slice none 0 0, .slice none 0 0, .slice none 0 0] 33 (0, 0)) := HQ6.out.g4
          obtain ⟨d0, d1, d2, d3, d4, d5, d6, d7⟩ := blk8 hq4
          have f0 := fz8 hq4 0
          have f1 := fz8 hq4 1
          have f2 := fz8 hq4 2
          have f3 := fz8 hq4 3
          have f4 := fz8 hq4 4
          have f5 := fz8 hq4 5
          have f6 := fz8 hq4 6
          have f7 := fz8 hq4 7
          clear hq4
          go_wp2
          obtain ⟨g8, h8, hb8⟩ := HQ6.out.res hG HR6.out
          try dsimp only at g8 h8 hb8
          have ht8 := (TxAt.own HO6.out).1.fin (w.heap.size + 1) (fun k hk => by have := (HO6.out.lt k hk).1; have := HS5.out; omega) (.int .i64 e) (.int .i64 gd) (.slice ka.a ka.n ka.c) (.slice kb.a kb.n kb.c) (.slice kc.a kc.n kc.c) (.slice kx.a kx.n kx.c) (.slice ky.a ky.n ky.c) (.slice kz.a kz.n kz.c)
          have ht9 := HT6.out.fin (w.heap.size + 1) (fun k hk => by have := (HLF.out k hk).1; omega) (.int .i64 e) (.int .i64 gd) (.slice ka.a ka.n ka.c) (.slice kb.a kb.n kb.c) (.slice kc.a kc.n kc.c) (.slice kx.a kx.n kx.c) (.slice ky.a ky.n ky.c) (.slice kz.a kz.n kz.c)
          clear d0 d1 d2 d3 d4 d5 d6 d7 f0 f1 f2 f3 f4 f5 f6 f7
          generalize ((((((((w6.setCell _ _).setCell _ _).setCell _ _).setCell _ _).setCell _ _).setCell _ _).setCell _ _).setCell _ _) = w8 at *
          obtain ⟨d0, d1, d2, d3, d4, d5, d6, d7⟩ := blk8 g8
          refine bodyPost_ret (v := .tuple #[.agg #[.int .i64 e, .int .i64 gd, .slice ka.a ka.n ka.c, .slice kb.a kb.n kb.c, .slice kc.a kc.n kc.c, .slice kx.a kx.n kx.c, .slice ky.a ky.n ky.c, .slice kz.a kz.n kz.c], v11, .slice oa N.length oc, .int .i64 0]) (by simp [results, Tryd.results39, go_sem, d0, d1, d2, d3, d4, d5, d6, d7]) rfl ?_
          rw [HX.out.1, HX.out.2.1, HX.out.2.2]
          exact ⟨_, _, _, rfl, RP.mk h8 hb8, ht8, ht9⟩
theorem rres_f {w : World} {A : Nat → Prop} {e gd : Int} {a b c x y z : Sl} {s : Fl} (la : Option Addr) (ln lk : Nat) (l : List ByteArray) (d : Int) (h : RL6 w A a b c x y z s) (hG : ∀ k, A k → k < w.heap.size) (hl : StrsAt w la ln lk l) (hz : ∀ x ∈ l, x.size ≤ maxLen) (hW : W s) (hlen : s.H.length ≤ 1600) :
    Calls Tryd.prog 39 #[.agg #[.int .i64 e, .int .i64 gd, .slice a.a a.n a.c, .slice b.a b.n b.c, .slice c.a c.n c.c, .slice x.a x.n x.c, .slice y.a y.n y.c, .slice z.a z.n z.c], .slice la ln lk, .int .i64 d] w fun o w' => ∃ v u1 u2, o = .returned (.tuple #[v, u1, u2, .int .i64 (reE l)]) ∧ RP w w' A e gd (reS l d s) v ∧ TxAt w' u1 (reC l d s) ∧ TxAt w' u2 (reN l s) := by
  by_cases hE : Df.chk l = 0
  · exact rres_o la ln lk l d h hG hl hz hE hW hlen
  · exact rres_e la ln lk l d h hG hl hz hE
end Go.Proofs.YtmlkpfkeeifgeaaDoor
