/-
  Several texts in one: RfA, ResP, RgA.
-/
import Derived.Test.YtmlkpfkeeifgeaaDoorM6
import Derived.Test.YtmlkpfkeeifgeaaDoorFAdm
import Derived.Deep.RegionWith
import Derived.Test.YtmlkpfkeeifgeaaDoorM7
import Derived.Deep.RegionHeld3
import Derived.Deep.RegionLaw
namespace Go.Proofs.YtmlkpfkeeifgeaaDoor
open Go.ChangeShapes Go.WideShapes Go.ChangeAt Go.RowKit Go.Joins Go.Deep

/-- Its own, or laid since, but not of the row v. -/
def NB (A : Nat → Prop) (c : Nat) (v : Value) (w : World) (k : Nat) : Prop := nq A c w k ∧ v.ownBlock ≠ some k
section
variable {w wr wc wa w3 w7 w8 : World} {A : Nat → Prop} {e gd : Int} {a b c x y z : Sl} {s : Fl} {v : Value}
theorem RL6.push {q g n cap : Nat} (h : RL6 w7 (nq (NB A q v wr) wr.heap.size w7) a b c x y z s) (hG : ∀ k, A k → k < wr.heap.size) (hq : q ≤ wr.heap.size) (h7 : wr.heap.size ≤ w7.heap.size) (hb : Below w7.heap.size w7 wa) (hgr : wa.grownBy w8 v.ownBlock) (hv : ∀ k, v.ownBlock = some k → k < wr.heap.size) (hat : v.ownBlock = some g ∨ g = wa.heap.size) :
    RL6 w8 (NB A q (.slice (some ⟨g, 0, none⟩) n cap) w8) a b c x y z s := by
  have hlt : ∀ k, nq (NB A q v wr) wr.heap.size w7 k → k < w7.heap.size := fun k hk => by
    rcases hk with hk | hk
    · rcases hk.1 with h1 | h1
      · have := hG k h1; omega
      · omega
    · exact hk.2
  have hne : ∀ k, nq (NB A q v wr) wr.heap.size w7 k → v.ownBlock ≠ some k := fun k hk => by
    rcases hk with hk | hk
    · exact hk.2
    · intro e
      have := hv k e
      omega
  have hk : Keep (fun k => v.ownBlock ≠ some k) wa w8 := ⟨hgr.os, hgr.tape, hgr.output, hgr.size, fun k hk hA => hgr.block k hk (fun e => hA e.symm)⟩
  have h8 := ((h.below hb (fun _ hk => hk)).keep hk hne)
  refine h8.mono (fun k hk => ⟨?_, ?_⟩)
  · have h1 := hlt k hk
    have h2 := hb.size
    have h3 := hgr.size
    rcases hk with hk | hk
    · rcases hk.1 with h1 | h1
      · exact .inl h1
      · exact .inr ⟨h1.1, by omega⟩
    · exact .inr ⟨by omega, by omega⟩
  · intro e
    have e' : g = k := by simpa [Value.ownBlock] using e
    subst e'
    rcases hat with h1 | h1
    · exact hne _ hk h1
    · have := hlt _ hk
      have := hb.size
      omega
theorem Bo.grown (h : Bo w wc e gd a b c x y z) {row : Option Nat} (hgr : wc.grownBy w3 row) (hr : ∀ k, row = some k → w.heap.size + 2 ≤ k) : Bo w w3 e gd a b c x y z := by
  have hne : ∀ k, k < w.heap.size + 2 → some k ≠ row := fun k hk e => by have := hr k e.symm; omega
  have hsz := h.sz
  refine ⟨⟨hgr.os.trans h.hb.os, hgr.tape.trans h.hb.tape, hgr.output.trans h.hb.output, Nat.le_trans h.hb.size hgr.size, fun k hk => (hgr.block k (by omega) (hne k (by omega))).trans (h.hb.block k hk)⟩, Nat.le_trans h.sz hgr.size, (hgr.block _ (by omega) (hne _ (by omega))).trans h.g2, (hgr.block _ (by omega) (hne _ (by omega))).trans h.g4⟩
theorem TxAt.fin {u : Value} {l : List ByteArray} (h : TxAt w u l) (g : Nat) (hA : ∀ k, u.ownBlock = some k → k ≠ g) (p0 p1 p2 p3 p4 p5 p6 p7 : Value) : TxAt ((((((((w.setCell ⟨g, 0, none⟩ p0).setCell ⟨g, 1, none⟩ p1).setCell ⟨g, 2, none⟩ p2).setCell ⟨g, 3, none⟩ p3).setCell ⟨g, 4, none⟩ p4).setCell ⟨g, 5, none⟩ p5).setCell ⟨g, 6, none⟩ p6).setCell ⟨g, 7, none⟩ p7) u l := by
  have h8 := put8_rest w 0 g (Nat.zero_le _) p0 p1 p2 p3 p4 p5 p6 p7
  exact h.keep (A := fun k => k ≠ g) ⟨h8.1.os, h8.1.tape, h8.1.output, h8.1.size, fun k _ hk => h8.2 k hk⟩ hA
theorem wo_cons {p : Dr} {L : List Dr} (h : p.1 ∉ nms L) : wo p.1 (p :: L) = L := by
  have e1 : wo p.1 (p :: L) = wo p.1 L := by unfold wo; simp
  rw [e1, wo_not h]
theorem RL6.hd {p : Dr} {L M : List Dr} {H : List Hs} (h : RL6 w A a b c x y z ⟨H, p :: L, M⟩) : x.n = L.length + 1 ∧ ∃ b2 p2, x.a = some ⟨b2, p2, none⟩ ∧ w.cell? ⟨b2, p2, none⟩ = some (.string p.1) := by
  obtain ⟨a0, c0, e0, hs, -⟩ := h.dr.wt
  have e1 : x.a = a0 ∧ x.n = (nms (p :: L)).length := by
    unfold Sl.v at e0
    injection e0 with h1 h2 _
    exact ⟨h1, h2⟩
  obtain ⟨b2, p2, e2, -, q2⟩ := hs.at_ 0 (by simp [nms])
  exact ⟨by rw [e1.2, nms_length]; rfl, b2, p2, by rw [e1.1]; exact e2, q2⟩
theorem RL6.nohd {M : List Dr} {H : List Hs} (h : RL6 w A a b c x y z ⟨H, [], M⟩) : x.n = 0 := by
  obtain ⟨a0, c0, e0, -, -⟩ := h.dr.wt
  unfold Sl.v at e0
  injection e0
theorem RL6.stg {K : Nat → Prop} {q g : Nat} (h : RL6 w (nq K q w) a b c x y z s) (hne : ∀ k, nq K q w k → k ≠ g) (p0 p1 p2 p3 p4 p5 p6 p7 : Value) : RL6 ((((((((w.setCell ⟨g, 0, none⟩ p0).setCell ⟨g, 1, none⟩ p1).setCell ⟨g, 2, none⟩ p2).setCell ⟨g, 3, none⟩ p3).setCell ⟨g, 4, none⟩ p4).setCell ⟨g, 5, none⟩ p5).setCell ⟨g, 6, none⟩ p6).setCell ⟨g, 7, none⟩ p7) (nq K q ((((((((w.setCell ⟨g, 0, none⟩ p0).setCell ⟨g, 1, none⟩ p1).setCell ⟨g, 2, none⟩ p2).setCell ⟨g, 3, none⟩ p3).setCell ⟨g, 4, none⟩ p4).setCell ⟨g, 5, none⟩ p5).setCell ⟨g, 6, none⟩ p6).setCell ⟨g, 7, none⟩ p7)) a b c x y z s :=
  (h.fin g hne p0 p1 p2 p3 p4 p5 p6 p7).mono (fun _ hk => hk.imp id (fun hk => ⟨hk.1, Nat.lt_of_lt_of_le hk.2 (put8_rest w 0 g (Nat.zero_le _) p0 p1 p2 p3 p4 p5 p6 p7).1.size⟩))
/-- A row of the call's own, behind a store into another block. -/
theorem own_put8 {base n : Nat} {t : TypeId} {u : Value} {l : List Value} (h : w.ownsRow base t 1 u n l) (g : Nat) (hg : g < base) (p0 p1 p2 p3 p4 p5 p6 p7 : Value) : ((((((((w.setCell ⟨g, 0, none⟩ p0).setCell ⟨g, 1, none⟩ p1).setCell ⟨g, 2, none⟩ p2).setCell ⟨g, 3, none⟩ p3).setCell ⟨g, 4, none⟩ p4).setCell ⟨g, 5, none⟩ p5).setCell ⟨g, 6, none⟩ p6).setCell ⟨g, 7, none⟩ p7).ownsRow base t 1 u n l := by
  have h8 := put8_rest w 0 g (Nat.zero_le _) p0 p1 p2 p3 p4 p5 p6 p7
  exact owns_keep h (A := fun k => k ≠ g) ⟨h8.1.os, h8.1.tape, h8.1.output, h8.1.size, fun k _ hk => h8.2 k hk⟩ (fun k hk => by have := (h.lt k hk).1; omega)
end
set_option maxHeartbeats 4000000 in
set_option maxRecDepth 100000 in
theorem radmit_f {w : World} {A : Nat → Prop} {e gd : Int} {a b c x y z : Sl} {s : Fl} (d : Int) (h : RL6 w A a b c x y z s) (hG : ∀ k, A k → k < w.heap.size) (hv : Inv s.L s.M) (hg : ∀ x ∈ nms s.L, nameB x = true) (he : e ≤ 1000) (hlen : s.H.length ≤ 4000) (hml : s.M.length + s.L.length ≤ 3500) :
    Calls Tryd.prog 44 #[.agg #[.int .i64 e, .int .i64 gd, .slice a.a a.n a.c, .slice b.a b.n b.c, .slice c.a c.n c.c, .slice x.a x.n x.c, .slice y.a y.n y.c, .slice z.a z.n z.c], .int .i64 d] w fun o w' => ∃ v u, o = .returned (.tuple #[v, u]) ∧ RP w w' A e gd (adS e gd d s) v ∧ TxAt w' u (adN e gd d s) := by
  obtain ⟨w1, hw1⟩ : ∃ w1, w1 = (w.alloc (.cells #[.int .i64 e, .int .i64 gd, .slice a.a a.n a.c, .slice b.a b.n b.c, .slice c.a c.n c.c, .slice x.a x.n x.c, .slice y.a y.n y.c, .slice z.a z.n z.c] 33)).alloc (.cells #[.int .i64 0, .int .i64 0, .slice none 0 0, .slice none 0 0, .slice none 0 0, .slice none 0 0, .slice none 0 0, .slice none 0 0] 33) := ⟨_, rfl⟩
  have HQ : Hid (Bo w w1 e gd a b c x y z) := by rw [hw1]; exact Bo.start w e gd a b c x y z
  have HR : Hid (RL6 w1 (nq A (w.heap.size + 2) w1) a b c x y z s) := h.nq1 HQ.out.hb
  have hsz := HQ.out.sz
  obtain ⟨F, hF⟩ : ∃ F, adS e gd d s = F := ⟨_, rfl⟩
  obtain ⟨N, hN⟩ : ∃ N, adN e gd d s = N := ⟨_, rfl⟩
  rw [hF, hN]
  have HFN : Hid ((adm e gd d s.H s.L s.M).1 = F ∧ (adm e gd d s.H s.L s.M).2 = N) := ⟨hF, hN⟩
  clear hF hN
  have HV := Hid.mk' hv
  have HG := Hid.mk' hg
  have hfew := hv.few
  obtain ⟨H0, L0, M0⟩ := s
  dsimp only at hlen hml hfew HV HG HFN
  generalize hn1 : H0.length = n1 at *
  generalize hn2 : L0.length = n2 at *
  have HN12 : Hid (H0.length = n1 ∧ L0.length = n2) := ⟨hn1, hn2⟩
  clear hn1 hn2 hv hg
  have hq2 : w1.heap[w.heap.size]? = some (.cells #[.int .i64 e, .int .i64 gd, .slice a.a a.n a.c, .slice b.a b.n b.c, .slice c.a c.n c.c, .slice x.a x.n x.c, .slice y.a y.n y.c, .slice z.a z.n z.c] 33 (0, 0)) := HQ.out.g2
  obtain ⟨c0, c1, c2, c3, c4, c5, c6, c7⟩ := blk8 hq2
  clear hq2
  clear h c0 c1 c2 c3 c4 c5 c6 c7
  go_enter Tryd.func44, Tryd.ntmps44
  go_upto_region 1 with fail
  rw [← hw1]
  clear hw1
  go_wp2
  go_loopw [6] (fun v6 wr => ∃ a b c x y z : Sl, ∃ H L M O, wr.ownsRow (w.heap.size + 2) 9 1 v6 O.length (sc O) ∧ Bo w wr e gd a b c x y z ∧ RL6 wr (NB A (w.heap.size + 2) v6 wr) a b c x y z ⟨H, L, M⟩ ∧ Inv L M ∧ H.length = n1 ∧ O.length + L.length = n2 ∧ M.length + L.length ≤ 3500 ∧ (∀ x ∈ nms L, nameB x = true) ∧ (adm e gd d H L M).1 = F ∧ O ++ (adm e gd d H L M).2 = N) (fun v6 _ => n2 + 1 - lenV v6)
  case atStart =>
    refine ⟨a, b, c, x, y, z, H0, L0, M0, [], World.ownsRow_nil _ _ _ _, HQ.out, HR.out.mono (fun k hk => ⟨hk, fun e => by simp [Value.ownBlock] at e⟩), HV.out, HN12.out.1, by have := HN12.out.2; simpa using this, by have := HN12.out.2; omega, HG.out, HFN.out.1, HFN.out.2⟩
  case round =>
    obtain ⟨ja, jb, jc, jx, jy, jz, H', L', M', O, hown, hQ, hR, hv', hlen', hOL, hML, hgo, had1, had2⟩ := hrel
    obtain ⟨a6, k6, rfl, -, hab⟩ := owns_strs hown
    have HOWN := Hid.mk' hown
    have HQr := Hid.mk' hQ
    have HRr := Hid.mk' hR
    have HGr : Hid (∀ k, NB A (w.heap.size + 2) (.slice a6 O.length k6) wr k → k < wr.heap.size) := fun k hk => nq_lt hG HQr.out.hb.size hk.1
    have HGA : Hid (∀ k, A k → k < wr.heap.size) := fun k hk => Nat.lt_of_lt_of_le (hG k hk) HQr.out.hb.size
    have hszr := HQr.out.sz
    clear hab HR HQ HFN HV HG HN12
    cases L' with
    | nil =>
      obtain ⟨xa, xn, xk⟩ := jx
      have hxn : xn = 0 := hR.nohd
      subst hxn
      have HE : Hid (F = ⟨H', [], M'⟩ ∧ O = N) := ⟨had1.symm, by rw [← had2]; simp [adm]⟩
      clear hown hQ hR hv' hlen' hOL hML hgo had1 had2
      have hq2 : wr.heap[w.heap.size]? = some (.cells #[.int .i64 e, .int .i64 gd, .slice ja.a ja.n ja.c, .slice jb.a jb.n jb.c, .slice jc.a jc.n jc.c, .slice xa 0 xk, .slice jy.a jy.n jy.c, .slice jz.a jz.n jz.c] 33 (0, 0)) := HQr.out.g2
      obtain ⟨c0, c1, c2, c3, c4, c5, c6, c7⟩ := blk8 hq2
      clear hq2
      have hq4 : wr.heap[w.heap.size + 1]? = some (.cells #[.int .i64 0, .int .i64 0, .slice none 0 0, .slice none 0 0, .slice none 0 0, .slice none 0 0, .slice none 0 0, .slice none 0 0] 33 (0, 0)) := HQr.out.g4
      obtain ⟨d0, d1, d2, d3, d4, d5, d6, d7⟩ := blk8 hq4
      have f0 := fz8 hq4 0
      have f1 := fz8 hq4 1
      have f2 := fz8 hq4 2
      have f3 := fz8 hq4 3
      have f4 := fz8 hq4 4
      have f5 := fz8 hq4 5
      have f6 := fz8 hq4 6
      have f7 := fz8 hq4 7
      clear hq4
      go_wp2
      obtain ⟨g8, h8, hb8⟩ := HQr.out.res hG (HRr.out.mono (fun k hk => hk.1))
      try dsimp only at g8 h8 hb8
      have ht8 := (TxAt.own HOWN.out).1.fin (w.heap.size + 1) (fun k hk => by have := (HOWN.out.lt k hk).1; omega) (.int .i64 e) (.int .i64 gd) (.slice ja.a ja.n ja.c) (.slice jb.a jb.n jb.c) (.slice jc.a jc.n jc.c) (.slice xa 0 xk) (.slice jy.a jy.n jy.c) (.slice jz.a jz.n jz.c)
      try dsimp only at ht8
      clear d0 d1 d2 d3 d4 d5 d6 d7 f0 f1 f2 f3 f4 f5 f6 f7
      generalize ((((((((wr.setCell _ _).setCell _ _).setCell _ _).setCell _ _).setCell _ _).setCell _ _).setCell _ _).setCell _ _) = w8 at *
      obtain ⟨d0, d1, d2, d3, d4, d5, d6, d7⟩ := blk8 g8
      refine bodyPost_ret (v := .tuple #[.agg #[.int .i64 e, .int .i64 gd, .slice ja.a ja.n ja.c, .slice jb.a jb.n jb.c, .slice jc.a jc.n jc.c, .slice xa 0 xk, .slice jy.a jy.n jy.c, .slice jz.a jz.n jz.c], .slice a6 O.length k6]) (by simp [results, Tryd.results44, go_sem, d0, d1, d2, d3, d4, d5, d6, d7]) rfl ?_
      obtain ⟨q1, q2⟩ := HE.out
      subst q1 q2
      exact ⟨_, _, rfl, RP.mk h8 hb8, ht8⟩
    | cons p L' =>
      obtain ⟨xa, xn, xk⟩ := jx
      obtain ⟨hxn, bx, px, exa, xq⟩ := hR.hd
      obtain rfl : xa = some ⟨bx, px, none⟩ := exa
      have hx1 : 0 < xn := by have : xn = L'.length + 1 := hxn; omega
      have hx0 : (0 : Int) < (xn : Int) := by omega
      have hOL' : O.length + (L'.length + 1) = n2 := by simpa using hOL
      have hML' : M'.length + (L'.length + 1) ≤ 3500 := by simpa using hML
      have hO3 : O.length ≤ 4000 := by omega
      have hO4 : O.length < n2 := by omega
      have HOL := Hid.mk' hOL'
      clear hxn hOL hOL' hown
      have HM := rmay_x (gd := gd) hR he (by show H'.length ≤ 4000; omega) p.1
      dsimp only at HM
      cases hmy : mayF p.1 H' e gd with
      | false =>
        rw [hmy] at HM
        rw [adm_no hmy] at had1 had2
        have HE : Hid (F = ⟨H', p :: L', M'⟩ ∧ O = N) := ⟨had1.symm, by rw [← had2]; simp⟩
        have HM := Hid.mk' HM
        clear hQ hR hv' hlen' hgo had1 had2 hmy
        have hq2 : wr.heap[w.heap.size]? = some (.cells #[.int .i64 e, .int .i64 gd, .slice ja.a ja.n ja.c, .slice jb.a jb.n jb.c, .slice jc.a jc.n jc.c, .slice (some ⟨bx, px, none⟩)  xn  xk, .slice jy.a jy.n jy.c, .slice jz.a jz.n jz.c] 33 (0, 0)) := HQr.out.g2
        obtain ⟨c0, c1, c2, c3, c4, c5, c6, c7⟩ := blk8 hq2
        clear hq2
        generalize hpx : p.1 = px' at *
        clear hpx
        go_upto_region 6 with (go_at_call 75; refine HM.out.mono ?_; rintro o w3 ⟨rfl, hb3⟩)
        have HQ3 := Hid.mk' (HQr.out.call hb3)
        have HR3 := Hid.mk' ((HRr.out.mono (fun k hk => hk.1)).nqb hb3)
        have HO3 := Hid.mk' (owns_keep HOWN.out (keep_below (A := fun _ => True) hb3) (fun _ _ => trivial))
        clear c0 c1 c2 c3 c4 c5 c6 c7 xq hx0 hx1
        have hq2 : w3.heap[w.heap.size]? = some (.cells #[.int .i64 e, .int .i64 gd, .slice ja.a ja.n ja.c, .slice jb.a jb.n jb.c, .slice jc.a jc.n jc.c, .slice (some ⟨bx, px, none⟩)  xn  xk, .slice jy.a jy.n jy.c, .slice jz.a jz.n jz.c] 33 (0, 0)) := HQ3.out.g2
        obtain ⟨c0, c1, c2, c3, c4, c5, c6, c7⟩ := blk8 hq2
        clear hq2
        have hq4 : w3.heap[w.heap.size + 1]? = some (.cells #[.int .i64 0, .int .i64 0, .slice none 0 0, .slice none 0 0, .slice none 0 0, .slice none 0 0, .slice none 0 0, .slice none 0 0] 33 (0, 0)) := HQ3.out.g4
        obtain ⟨d0, d1, d2, d3, d4, d5, d6, d7⟩ := blk8 hq4
        have f0 := fz8 hq4 0
        have f1 := fz8 hq4 1
        have f2 := fz8 hq4 2
        have f3 := fz8 hq4 3
        have f4 := fz8 hq4 4
        have f5 := fz8 hq4 5
        have f6 := fz8 hq4 6
        have f7 := fz8 hq4 7
        clear hq4
        go_wp2
        obtain ⟨g8, h8, hb8⟩ := HQ3.out.res hG HR3.out
        try dsimp only at g8 h8 hb8
        have ht8 := (TxAt.own HO3.out).1.fin (w.heap.size + 1) (fun k hk => by have := (HO3.out.lt k hk).1; omega) (.int .i64 e) (.int .i64 gd) (.slice ja.a ja.n ja.c) (.slice jb.a jb.n jb.c) (.slice jc.a jc.n jc.c) (.slice (some ⟨bx, px, none⟩)  xn  xk) (.slice jy.a jy.n jy.c) (.slice jz.a jz.n jz.c)
        try dsimp only at ht8
        clear d0 d1 d2 d3 d4 d5 d6 d7 f0 f1 f2 f3 f4 f5 f6 f7
        generalize ((((((((w3.setCell _ _).setCell _ _).setCell _ _).setCell _ _).setCell _ _).setCell _ _).setCell _ _).setCell _ _) = w8 at *
        obtain ⟨d0, d1, d2, d3, d4, d5, d6, d7⟩ := blk8 g8
        refine bodyPost_ret (v := .tuple #[.agg #[.int .i64 e, .int .i64 gd, .slice ja.a ja.n ja.c, .slice jb.a jb.n jb.c, .slice jc.a jc.n jc.c, .slice (some ⟨bx, px, none⟩)  xn  xk, .slice jy.a jy.n jy.c, .slice jz.a jz.n jz.c], .slice a6 O.length k6]) (by simp [results, Tryd.results44, go_sem, d0, d1, d2, d3, d4, d5, d6, d7]) rfl ?_
        obtain ⟨q1, q2⟩ := HE.out
        subst q1 q2
        exact ⟨_, _, rfl, RP.mk h8 hb8, ht8⟩
      | true =>
        rw [hmy] at HM
        rw [adm_yes hmy] at had1 had2
        have HM := Hid.mk' HM
        have hx := may_is hmy
        have hpl := pl_yes hx
        obtain ⟨hvt, hnt, hmt, hbl⟩ := hv'.tail
        have hnm : nameB p.1 = true := hgo _ (by simp [nms])
        have hpz : p.1.size ≤ maxLen := by have := nameB_size hnm; unfold maxLen; omega
        obtain ⟨i, hi0⟩ : ∃ i, i = plN p.1 H' := ⟨_, rfl⟩
        rw [← hi0] at hpl had1 had2
        have hi := hpl.2
        obtain ⟨ba, bn, bk⟩ := jb
        obtain ⟨ca, cn, ck⟩ := jc
        obtain ⟨-, q2, p2, e2, -⟩ := hR.sti hi
        obtain ⟨-, r2, p3, e3, -⟩ := hR.lvi hi
        obtain rfl : ba = some ⟨q2, p2, none⟩ := e2
        obtain rfl : ca = some ⟨r2, p3, none⟩ := e3
        obtain ⟨t, ht⟩ : ∃ t, t = (atH H' i).st := ⟨_, rfl⟩
        obtain ⟨v, hv⟩ : ∃ v, v = (atH H' i).lv := ⟨_, rfl⟩
        have HT : Hid (t = (atH H' i).st ∧ v = (atH H' i).lv ∧ i = plN p.1 H' ∧ i < H'.length) := ⟨ht, hv, hi0, hi⟩
        have HST : Hid ((⟨putH H' i (St.nx t 0) v, begL p.1 (p :: L') M', begM p.1 d M'⟩ : Fl) = ⟨tnH i 0 H', L', begM p.1 d M'⟩) := by
          have e1 := (beg_facts (x := p.1) (L := p :: L') (d := d) hnm (isIn_not.1 hmt)).1
          show _ = _
          rw [e1, wo_cons hnt, ht, hv]
          rfl
        have HNX : Hid (Inv L' (begM p.1 d M') ∧ (tnH i 0 H').length = n1 ∧ (begM p.1 d M').length + L'.length ≤ 3500 ∧ (∀ x ∈ nms L', nameB x = true) ∧ (adm e gd d (tnH i 0 H') L' (begM p.1 d M')).1 = F ∧ (O ++ [p.1]) ++ (adm e gd d (tnH i 0 H') L' (begM p.1 d M')).2 = N) := by
          refine ⟨?_, by rw [tnH_length]; exact hlen', ?_, fun x hx => hgo x (by simp [nms] at hx ⊢; exact .inr hx), had1, by rw [← had2]; simp⟩
          · have := hvt.begun p.1 d
            rwa [hbl] at this
          · have := begM_len p.1 d M'
            omega
        have hH4 : H'.length ≤ 4000 := by omega
        clear hQ hR hv' hlen' hgo had1 had2 hmy ht hv hi0 hvt hnt hmt hbl hnm hx
        have hq2 : wr.heap[w.heap.size]? = some (.cells #[.int .i64 e, .int .i64 gd, .slice ja.a ja.n ja.c, .slice (some ⟨q2, p2, none⟩)  bn  bk, .slice (some ⟨r2, p3, none⟩)  cn  ck, .slice (some ⟨bx, px, none⟩)  xn  xk, .slice jy.a jy.n jy.c, .slice jz.a jz.n jz.c] 33 (0, 0)) := HQr.out.g2
        obtain ⟨c0, c1, c2, c3, c4, c5, c6, c7⟩ := blk8 hq2
        clear hq2
        generalize hpx : p.1 = pq at *
        go_upto_region 7 with (go_at_call 75; refine HM.out.mono ?_; rintro o w3 ⟨rfl, hb3⟩)
        have HQ3 := Hid.mk' (HQr.out.call hb3)
        have HR3 : Hid (RL6 w3 (nq (NB A (w.heap.size + 2) (.slice a6 O.length k6) wr) wr.heap.size w3) ja ⟨some ⟨q2, p2, none⟩, bn, bk⟩ ⟨some ⟨r2, p3, none⟩, cn, ck⟩ ⟨some ⟨bx, px, none⟩, xn, xk⟩ jy jz ⟨H', p :: L', M'⟩) := HRr.out.nq1 hb3
        clear c0 c1 c2 c3 c4 c5 c6 c7 xq hx0 hx1
        have hq2 : w3.heap[w.heap.size]? = some (.cells #[.int .i64 e, .int .i64 gd, .slice ja.a ja.n ja.c, .slice (some ⟨q2, p2, none⟩)  bn  bk, .slice (some ⟨r2, p3, none⟩)  cn  ck, .slice (some ⟨bx, px, none⟩)  xn  xk, .slice jy.a jy.n jy.c, .slice jz.a jz.n jz.c] 33 (0, 0)) := HQ3.out.g2
        obtain ⟨c0, c1, c2, c3, c4, c5, c6, c7⟩ := blk8 hq2
        clear hq2
        have HAT := rat_x e gd HR3.out pq
        rw [hpl.1] at HAT
        have HAT := Hid.mk' HAT
        clear hpl hi
        go_upto_region 8 with (go_at_call 50; refine HAT.out.mono ?_; rintro o w4 ⟨rfl, hb4⟩)
        have HQ4 := Hid.mk' (HQ3.out.call hb4)
        have HR4 := Hid.mk' (HR3.out.nqb hb4)
        clear c0 c1 c2 c3 c4 c5 c6 c7
        have hq2 : w4.heap[w.heap.size]? = some (.cells #[.int .i64 e, .int .i64 gd, .slice ja.a ja.n ja.c, .slice (some ⟨q2, p2, none⟩)  bn  bk, .slice (some ⟨r2, p3, none⟩)  cn  ck, .slice (some ⟨bx, px, none⟩)  xn  xk, .slice jy.a jy.n jy.c, .slice jz.a jz.n jz.c] 33 (0, 0)) := HQ4.out.g2
        obtain ⟨c0, c1, c2, c3, c4, c5, c6, c7⟩ := blk8 hq2
        clear hq2
        obtain ⟨x2, hin2, hib2⟩ := HR4.out.stk (i := i) HT.out.2.2.2
        obtain ⟨x3, hin3, hib3⟩ := HR4.out.lvk (i := i) HT.out.2.2.2
        dsimp only at x2 x3
        rw [← HT.out.1] at x2
        rw [← HT.out.2.1] at x3
        have HN := Hid.mk' (St.rnext_any t 0 w4)
        generalize St.nx t 0 = u at *
        generalize St.did t 0 = g at *
        go_upto_region 9 with (go_at_call 69; refine HN.out.mono ?_; rintro o w5 ⟨rfl, hw5⟩; have hw5 := hw5.symm; subst hw5)
        have hbd : Below w4.heap.size w4 w4.drew := below_drewN (Below.refl _ w4) 1
        have hw34 : wr.heap.size ≤ w4.heap.size := Nat.le_trans hb3.size hb4.size
        have HQd := Hid.mk' (HQ4.out.call hbd)
        have HRd := Hid.mk' (HR4.out.nqb hbd)
        have HGd : Hid (∀ k, nq (NB A (w.heap.size + 2) (.slice a6 O.length k6) wr) wr.heap.size w4.drew k → k < w4.drew.heap.size) := fun _ hk => nq_lt HGr.out hw34 hk
        have HGx : Hid (∀ w', wr.heap.size ≤ w'.heap.size → ∀ k, nq (NB A (w.heap.size + 2) (.slice a6 O.length k6) wr) wr.heap.size w' k → k < w'.heap.size) := fun w' hs k hk => nq_lt HGr.out hs hk
        clear hbd
        go_region_with ((first
          | (go_at_call 71; refine (rput_f HRd.out HGd.out i HT.out.2.2.2 hH4 u v).mono ?_; rintro o w5 ⟨b', c', rfl, h5, hb5⟩)
          | (go_at_call 74; refine (rbeg_x pq d hpz (h5.nqc hw34 hb5.size) (HGx.out _ (Nat.le_trans hw34 hb5.size)) (by show (p :: L').length ≤ 3500; simp; omega) (by show M'.length ≤ 3500; omega)).mono ?_; rintro o w6 ⟨x', y', z', rfl, h6, hb6⟩; have HQ6 := Hid.mk' ((HQd.out.call hb5).call hb6); have hq2 : w6.heap[w.heap.size]? = some (.cells #[.int .i64 e, .int .i64 gd, .slice ja.a ja.n ja.c, .slice (some ⟨q2, p2, none⟩)  bn  bk, .slice (some ⟨r2, p3, none⟩)  cn  ck, .slice (some ⟨bx, px, none⟩)  xn  xk, .slice jy.a jy.n jy.c, .slice jz.a jz.n jz.c] 33 (0, 0)) := HQ6.out.g2; obtain ⟨c0, c1, c2, c3, c4, c5, c6, c7⟩ := blk8 hq2; have z0 := fz8 hq2 0; have z1 := fz8 hq2 1; have z2 := fz8 hq2 2; have z3 := fz8 hq2 3; have z4 := fz8 hq2 4; have z5 := fz8 hq2 5; have z6 := fz8 hq2 6; have z7 := fz8 hq2 7; clear hq2)))
        all_goals (
          have hw45 : wr.heap.size ≤ w5.heap.size := Nat.le_trans hw34 hb5.size
          have HR6 : RL6 w6 (nq (NB A (w.heap.size + 2) (.slice a6 O.length k6) wr) wr.heap.size w6) ja b' c' x' y' z' ⟨putH H' i u v, begL pq (p :: L') M', begM pq d M'⟩ := h6.nqc hw45 hb6.size
          rw [HST.out] at HR6
          have hne : ∀ k, nq (NB A (w.heap.size + 2) (.slice a6 O.length k6) wr) wr.heap.size w6 k → k ≠ w.heap.size := by
            rintro k (hk | hk)
            · exact (nq_ne hG hk.1).1
            · omega
          have hbA : Below wr.heap.size wr w4 := hb3.trans (hb4.mono hb3.size)
          have hbC : Below wr.heap.size wr w6 := ((below_drewN hbA 1).trans (hb5.mono hw34)).trans (hb6.mono hw45)
          have HR7 := Hid.mk' (HR6.stg hne (.int .i64 e) (.int .i64 gd) (.slice ja.a ja.n ja.c) (.slice b'.a b'.n b'.c) (.slice c'.a c'.n c'.c) (.slice x'.a x'.n x'.c) (.slice y'.a y'.n y'.c) (.slice z'.a z'.n z'.c))
          have HQ7 := Hid.mk' (HQ6.out.store ja b' c' x' y' z')
          have HO7 := Hid.mk' (own_put8 (owns_keep HOWN.out (keep_below (A := fun _ => True) hbC) (fun _ _ => trivial)) w.heap.size (by omega) (.int .i64 e) (.int .i64 gd) (.slice ja.a ja.n ja.c) (.slice b'.a b'.n b'.c) (.slice c'.a c'.n c'.c) (.slice x'.a x'.n x'.c) (.slice y'.a y'.n y'.c) (.slice z'.a z'.n z'.c))
          have hs7 : wr.heap.size ≤ ((((((((w6.setCell ⟨w.heap.size, 0, none⟩ (.int .i64 e)).setCell ⟨w.heap.size, 1, none⟩ (.int .i64 gd)).setCell ⟨w.heap.size, 2, none⟩ (.slice ja.a ja.n ja.c)).setCell ⟨w.heap.size, 3, none⟩ (.slice b'.a b'.n b'.c)).setCell ⟨w.heap.size, 4, none⟩ (.slice c'.a c'.n c'.c)).setCell ⟨w.heap.size, 5, none⟩ (.slice x'.a x'.n x'.c)).setCell ⟨w.heap.size, 6, none⟩ (.slice y'.a y'.n y'.c)).setCell ⟨w.heap.size, 7, none⟩ (.slice z'.a z'.n z'.c)).heap.size := Nat.le_trans hbC.size (put8_rest w6 0 w.heap.size (Nat.zero_le _) (.int .i64 e) (.int .i64 gd) (.slice ja.a ja.n ja.c) (.slice b'.a b'.n b'.c) (.slice c'.a c'.n c'.c) (.slice x'.a x'.n x'.c) (.slice y'.a y'.n y'.c) (.slice z'.a z'.n z'.c)).1.size
          clear c0 c1 c2 c3 c4 c5 c6 c7 z0 z1 z2 z3 z4 z5 z6 z7 x2 x3 h5 h6 HR6 hne hbA hbC
          generalize ((((((((w6.setCell ⟨w.heap.size, 0, none⟩ (.int .i64 e)).setCell ⟨w.heap.size, 1, none⟩ (.int .i64 gd)).setCell ⟨w.heap.size, 2, none⟩ (.slice ja.a ja.n ja.c)).setCell ⟨w.heap.size, 3, none⟩ (.slice b'.a b'.n b'.c)).setCell ⟨w.heap.size, 4, none⟩ (.slice c'.a c'.n c'.c)).setCell ⟨w.heap.size, 5, none⟩ (.slice x'.a x'.n x'.c)).setCell ⟨w.heap.size, 6, none⟩ (.slice y'.a y'.n y'.c)).setCell ⟨w.heap.size, 7, none⟩ (.slice z'.a z'.n z'.c)) = w7 at *
          have hown7 := HO7.out.alloc (.cells #[.string pq] 9)
          have hba : Below w7.heap.size w7 (w7.alloc (.cells #[.string pq] 9)) := (Below.refl _ w7).alloc (Nat.le_refl _) _
          have HBA := Hid.mk' hba
          have HS7 := Hid.mk' hs7
          clear hba
          go_wp2_with (at_builtin; refine wpList_str1 _ rfl _ _ rfl (w.heap.size + 2) (.slice a6 O.length k6) O.length O pq rfl hown7 _ 1 rfl (news_one w7 (.string pq) 9 0 _ rfl) hO3 (by simp; omega) ?_; intro g5 c6 w8 o8 gr8 at8)
          have HR8 := HR7.out.push (n := O.length + 1) (cap := c6) HGA.out hszr HS7.out HBA.out gr8 (fun k hk => (HOWN.out.lt k hk).2) at8
          have HQ8 := (HQ7.out.call HBA.out).grown gr8 (fun k hk => (HOWN.out.lt k hk).1)
          have hl1 : (O ++ [pq]).length = O.length + 1 := by simp
          have HOLs := HOL.out
          refine ⟨⟨ja, b', c', x', y', z', tnH i 0 H', L', begM pq d M', O ++ [pq], by rw [hl1]; exact o8, HQ8, HR8, HNX.out.1, HNX.out.2.1, by rw [hl1]; omega, HNX.out.2.2.1, HNX.out.2.2.2.1, HNX.out.2.2.2.2.1, HNX.out.2.2.2.2.2⟩, by simp [lenV]; omega⟩)
end Go.Proofs.YtmlkpfkeeifgeaaDoor
namespace Go.Proofs.YtmlkpfkeeifgeaaDoor

theorem nmD {l : List ByteArray} {j : Nat} (h : j < l.length) : l.take (j + 1) = l.take j ++ [l.getD j ⟨#[]⟩] := by
  rw [List.take_succ_eq_append_getElem h]
  simp [List.getD, h]
theorem lvN_take {l : List ByteArray} {H : List Hs} {i : Nat} (h : i < H.length) : lvN l (H.take (i + 1)) = lvN l (H.take i) ++ (if lvNow l (atH H i) = true then [(atH H i).nm] else []) := by
  rw [takeH_snoc h, lvN_append]
  simp [lvN]
theorem lvN_sub (l : List ByteArray) : ∀ H, (lvN l H).Sublist (hn H)
  | [] => List.Sublist.slnil
  | h :: H => by
    have ih := lvN_sub l H
    show ((if lvNow l h = true then [h.nm] else []) ++ lvN l H).Sublist (h.nm :: hn H)
    split
    · exact ih.cons_cons _
    · exact ih.cons _
theorem W.nodup {s : Fl} (h : W s) : (hn s.H).Nodup := by
  obtain ⟨l, g, e1, hw⟩ := h
  rw [e1, hn_sta]
  exact hw.nd
theorem begL_len (x : ByteArray) (L M : List Dr) : (begL x L M).length ≤ L.length := by
  unfold begL
  split
  · exact Nat.le_refl _
  · split
    · exact Nat.le_refl _
    · exact wo_len _ _
theorem rlv_lens (d : Int) (s : Fl) (x : ByteArray) : (rlv d s x).H.length ≤ s.H.length ∧ (rlv d s x).L.length ≤ s.L.length ∧ (rlv d s x).M.length ≤ s.M.length + 1 := by
  have hL : (if isIn x s.L = true then wo x s.L else s.L).length ≤ s.L.length := by
    split
    · exact wo_len _ _
    · exact Nat.le_refl _
  have hM : (if isIn x s.L = true then wo x s.M else s.M).length ≤ s.M.length := by
    split
    · exact wo_len _ _
    · exact Nat.le_refl _
  unfold rlv
  dsimp only
  split
  · exact ⟨List.length_eraseIdx_le .., hL, by dsimp only; omega⟩
  · split
    · refine ⟨by simp [setV_length, tnH_length], Nat.le_trans (begL_len _ _ _) hL, ?_⟩
      have := begM_len x d (if isIn x s.L = true then wo x s.M else s.M)
      dsimp only
      omega
    · exact ⟨by simp [setV_length, tnH_length], hL, by dsimp only; omega⟩
theorem rlv_keeps (d : Int) (s : Fl) {x y : ByteArray} (hx : x ∈ hn s.H) (hy : y ∈ hn s.H) (hne : y ≠ x) : y ∈ hn (rlv d s x).H := by
  have hi : plN x s.H < s.H.length := (pl_yes (isH_iff.2 hx)).2
  have h2 : hn (setV (tnH (plN x s.H) 5 s.H) (plN x s.H) true) = hn s.H := by
    rw [hn_setV (by rw [tnH_length]; exact hi), hn_tnH hi]
  unfold rlv
  dsimp only
  split
  · have e1 : hn (s.H.eraseIdx (plN x s.H)) = (hn s.H).eraseIdx (plN x s.H) := by unfold hn; simp [List.eraseIdx_eq_take_drop_succ, List.map_take, List.map_drop]
    show y ∈ hn (s.H.eraseIdx (plN x s.H))
    rw [e1, List.mem_eraseIdx_iff_getElem?]
    obtain ⟨j, hj⟩ := List.getElem?_of_mem hy
    refine ⟨j, fun e => hne ?_, hj⟩
    have h3 := fidx_at x (hn s.H) (by rw [hn_length]; exact hi)
    have e2 : j = fidx x (hn s.H) := e
    rw [← e2] at h3
    rw [← h3]
    simp [List.getD, hj]
  · split
    · show y ∈ hn (setV _ _ _)
      rw [h2]
      exact hy
    · show y ∈ hn (setV _ _ _)
      rw [h2]
      exact hy
/-- The state when j have left. -/
def rls (d : Int) (s : Fl) (N : List ByteArray) (j : Nat) : Fl := (N.take j).foldl (rlv d) s
theorem rls_next {d : Int} {s : Fl} {N : List ByteArray} {j : Nat} (h : j < N.length) : rls d s N (j + 1) = rlv d (rls d s N j) (N.getD j ⟨#[]⟩) := by
  unfold rls
  rw [nmD h, List.foldl_append]
  rfl
theorem rls_all (d : Int) (s : Fl) (N : List ByteArray) : rls d s N N.length = N.foldl (rlv d) s := by unfold rls; rw [List.take_length]
theorem rls_lens (d : Int) (s : Fl) (N : List ByteArray) : ∀ j, j ≤ N.length → (rls d s N j).H.length ≤ s.H.length ∧ (rls d s N j).L.length ≤ s.L.length ∧ (rls d s N j).M.length ≤ s.M.length + j
  | 0, _ => ⟨Nat.le_refl _, Nat.le_refl _, Nat.le_refl _⟩
  | j + 1, hj => by
    have ih := rls_lens d s N j (by omega)
    have h1 := rlv_lens d (rls d s N j) (N.getD j ⟨#[]⟩)
    rw [rls_next (by omega)]
    omega
theorem rls_in (d : Int) {s : Fl} {N : List ByteArray} (hN : N.Nodup) (hs : ∀ y ∈ N, y ∈ hn s.H) : ∀ j, j ≤ N.length → ∀ y ∈ N.drop j, y ∈ hn (rls d s N j).H
  | 0, _ => fun y hy => hs y (by simpa using hy)
  | j + 1, hj => fun y hy => by
    have hjl : j < N.length := by omega
    have ih := rls_in d hN hs j (by omega)
    have e1 : N.drop j = N[j] :: N.drop (j + 1) := List.drop_eq_getElem_cons hjl
    have e2 : N.getD j ⟨#[]⟩ = N[j] := by simp [List.getD, hjl]
    rw [rls_next hjl, e2]
    rw [e1] at ih
    refine rlv_keeps d _ (ih _ List.mem_cons_self) (ih y (List.mem_cons_of_mem _ hy)) ?_
    intro e
    have h3 : (N.drop j).Nodup := hN.sublist (List.drop_sublist j N)
    rw [e1, List.nodup_cons] at h3
    exact h3.1 (e ▸ hy)
theorem rls_is (d : Int) {s : Fl} (hW : W s) (l : List ByteArray) {j : Nat} (hj : j < (lvN l s.H).length) : isH ((lvN l s.H).getD j ⟨#[]⟩) (rls d s (lvN l s.H) j).H = true := by
  refine isH_iff.2 (rls_in d (hW.nodup.sublist (lvN_sub l s.H)) (fun y hy => (lvN_sub l s.H).subset hy) j (by omega) _ ?_)
  rw [List.drop_eq_getElem_cons hj]
  have e2 : (lvN l s.H).getD j ⟨#[]⟩ = (lvN l s.H)[j] := by simp [List.getD, hj]
  rw [e2]
  exact List.mem_cons_self
theorem rls_end {s : Fl} (hW : W s) (l : List ByteArray) (d : Int) : rls d s (lvN l s.H) (lvN l s.H).length = lvS l d s := by
  rw [rls_all]
  exact hW.rlv l d
theorem enS_next {l : List ByteArray} {s : Fl} {j : Nat} (h : j < l.length) : enS (l.take (j + 1)) s = en1 (l.getD j ⟨#[]⟩) (enS (l.take j) s) := by
  rw [nmD h, enS_append]
  rfl
theorem enN_next {l : List ByteArray} {s : Fl} {j : Nat} (h : j < l.length) : enN (l.take (j + 1)) s = enN (l.take j) s ++ enN1 (l.getD j ⟨#[]⟩) (enS (l.take j) s) := by
  rw [nmD h, enN_append]
  show _ ++ (_ ++ []) = _
  rw [List.append_nil]
theorem en_1 {x : ByteArray} {s : Fl} (h1 : isH x s.H = true) (hv : (ofN x s.H).lv = false) : en1 x s = s ∧ enN1 x s = [] := by
  simp [en1, enN1, h1, hv]
theorem en_2 {x : ByteArray} {s : Fl} (h1 : isH x s.H = false) : en1 x s = ⟨s.H ++ [⟨x, 0, false⟩], s.L, s.M⟩ ∧ enN1 x s = [x] := by
  simp [en1, enN1, h1]
theorem putW {H : List Hs} {i : Nat} (h : i < H.length) : tnH i 6 (setV H i false) = putH H i (St.nx (atH H i).st 6) false := by
  have e1 : atH (setV H i false) i = ⟨(atH H i).nm, (atH H i).st, false⟩ := by
    unfold setV atH
    simp [List.getD, h]
  unfold tnH setS
  rw [e1]
  unfold setV putH
  rw [List.set_set]
theorem en_3 {x : ByteArray} {s : Fl} (h1 : isH x s.H = true) (hv : (ofN x s.H).lv = true) : en1 x s = ⟨putH s.H (plN x s.H) (St.nx (ofN x s.H).st 6) false, wo x s.L, wo x s.M⟩ ∧ enN1 x s = [x] := by
  have e1 := putW (pl_yes h1).2
  simp [en1, enN1, h1, hv, e1]
  rfl
theorem W.few3 {s : Fl} (h : W s) : s.L.length ≤ s.H.length ∧ s.M.length ≤ s.H.length := by
  obtain ⟨l, g, e1, hw⟩ := h
  have h1 := sub_len (k := nms s.L) (l := l) hw.inv.n1 (fun x hx => (hw.lw x hx).1)
  have h2 := sub_len (k := nms s.M) (l := l) hw.inv.n2 (fun x hx => (hw.mw x hx).1)
  rw [nms_length] at h1 h2
  rw [e1, sta_length]
  exact ⟨h1, h2⟩
theorem W.ens {s : Fl} (h : W s) {l : List ByteArray} (hl : ∀ x ∈ l, nameB x = true) (j : Nat) : W (enS (l.take j) s) := h.enter (fun x hx => hl x (List.mem_of_mem_take hx))
theorem ens_len (l : List ByteArray) (s : Fl) (j : Nat) : (enS (l.take j) s).H.length ≤ s.H.length + l.length := by
  have h1 := enS_len (l.take j) s
  have h2 : (l.take j).length ≤ l.length := by simp; omega
  omega
theorem lvS_len (l : List ByteArray) (d : Int) (s : Fl) : (lvS l d s).H.length ≤ s.H.length := lvH_len l s.H
end Go.Proofs.YtmlkpfkeeifgeaaDoor
namespace Go.Proofs.YtmlkpfkeeifgeaaDoor
open Go.ChangeShapes Go.WideShapes Go.ChangeAt Go.RowKit Go.Joins Go.Deep

section
variable {w wr wc wa w3 w7 w8 : World} {A : Nat → Prop} {e gd : Int} {a b c x y z : Sl} {s : Fl} {v : Value} {q : Nat}
theorem RL6.nbb (h : RL6 wr (NB A q v wr) a b c x y z s) (hb : Below wr.heap.size wr w7) : RL6 w7 (NB A q v w7) a b c x y z s := h.below hb (fun k hk => ⟨by
  have := hb.size
  rcases hk.1 with h1 | h1
  · exact .inl h1
  · exact .inr ⟨h1.1, by omega⟩, hk.2⟩)
theorem RL6.nbo (h : RL6 w7 (nq (NB A q v wr) wr.heap.size w7) a b c x y z s) (hv : ∀ k, v.ownBlock = some k → k < wr.heap.size) (hq : q ≤ wr.heap.size) (hs : wr.heap.size ≤ w7.heap.size) : RL6 w7 (NB A q v w7) a b c x y z s := h.mono (fun k hk => by
  rcases hk with hk | hk
  · refine ⟨?_, hk.2⟩
    rcases hk.1 with h1 | h1
    · exact .inl h1
    · exact .inr ⟨h1.1, by omega⟩
  · refine ⟨.inr ⟨by omega, hk.2⟩, fun e => ?_⟩
    have := hv k e
    omega)
theorem TxAt.grown {u : Value} {l : List ByteArray} (h : TxAt wa u l) (hg : wa.grownBy w3 v.ownBlock) (hne : ∀ k, u.ownBlock = some k → v.ownBlock ≠ some k) : TxAt w3 u l :=
  h.keep (A := fun k => v.ownBlock ≠ some k) ⟨hg.os, hg.tape, hg.output, hg.size, fun k hk hA => hg.block k hk (fun e => hA e.symm)⟩ hne
end
theorem wpList_int1l (w : World) {ops : Array Oper} {rest : List Oper} {o : Oper} {a : Act} {Q : Exit → Act → World → Prop} (hgd : o.guard = none) (s x : Operand)
    (ho : o.op = .call { callee := .builtin .append, args := #[s, x], argTypes := #[28, 28] }) (base : Nat) (v : Value) (n : Nat) (l : List Value) (z : Int) (hs : a.eval s = v) (hown : w.ownsRow base 3 1 v n l) (ad : Addr) (c : Nat)
    (hx : a.eval x = .slice (some ad) 1 c) (hc : w.cell? (ad.add 0) = some (.int .i64 z)) (hn : n ≤ 4000) (hbase : base ≤ w.heap.size)
    (h : ∀ g cap w', w'.ownsRow base 3 1 (.slice (some ⟨g, 0, none⟩) (n + 1) cap) (n + 1) (l ++ [.int .i64 z]) → w.grownBy w' v.ownBlock → ((Value.slice (some ⟨g, 0, none⟩) (n + 1) cap).ownBlock = v.ownBlock ∨ (Value.slice (some ⟨g, 0, none⟩) (n + 1) cap).ownBlock = some w.heap.size) → wpList Tryd.prog ops Q rest (a.put o.dst (.slice (some ⟨g, 0, none⟩) (n + 1) cap)) w') : wpList Tryd.prog ops Q (o :: rest) a w := by
  obtain ⟨i, hi, hz0, hz1, hz2⟩ := info_parts info3
  refine wpList_append_lies w hgd s x 28 ho base 3 i (.int .i64 0) 1 8 Tryd.underlying28 hi hz0 hz1 hz2 rfl (by decide) v n _ hs hown ad 1 c [.int .i64 z] hx rfl (fun j u hj => ?_) (by simp [Value.oneCell']) (by decide) (by unfold maxLen; omega) (by omega) hbase _ rfl ?_
  · match j, hj with
    | 0, hj => simp at hj; subst hj; exact hc
  · intro g cap w' h1 h2 h3 _
    refine h g cap w' h1 h2 ?_
    rcases h3 with h3 | h3
    · exact .inl (by rw [h3]; rfl)
    · exact .inr (by rw [h3]; rfl)
theorem wpList_flag1l (w : World) {ops : Array Oper} {rest : List Oper} {o : Oper} {a : Act} {Q : Exit → Act → World → Prop} (hgd : o.guard = none) (s x : Operand)
    (ho : o.op = .call { callee := .builtin .append, args := #[s, x], argTypes := #[29, 29] }) (base : Nat) (v : Value) (n : Nat) (l : List Value) (z : Bool) (hs : a.eval s = v) (hown : w.ownsRow base 4 1 v n l) (ad : Addr) (c : Nat)
    (hx : a.eval x = .slice (some ad) 1 c) (hc : w.cell? (ad.add 0) = some (.bool z)) (hn : n ≤ 4000) (hbase : base ≤ w.heap.size)
    (h : ∀ g cap w', w'.ownsRow base 4 1 (.slice (some ⟨g, 0, none⟩) (n + 1) cap) (n + 1) (l ++ [.bool z]) → w.grownBy w' v.ownBlock → ((Value.slice (some ⟨g, 0, none⟩) (n + 1) cap).ownBlock = v.ownBlock ∨ (Value.slice (some ⟨g, 0, none⟩) (n + 1) cap).ownBlock = some w.heap.size) → wpList Tryd.prog ops Q rest (a.put o.dst (.slice (some ⟨g, 0, none⟩) (n + 1) cap)) w') : wpList Tryd.prog ops Q (o :: rest) a w := by
  obtain ⟨i, hi, hz0, hz1, hz2⟩ := info_parts info4
  refine wpList_append_lies w hgd s x 29 ho base 4 i (.bool false) 1 1 Tryd.underlying29 hi hz0 hz1 hz2 rfl (by decide) v n _ hs hown ad 1 c [.bool z] hx rfl (fun j u hj => ?_) (by simp [Value.oneCell']) (by decide) (by unfold maxLen; omega) (by omega) hbase _ rfl ?_
  · match j, hj with
    | 0, hj => simp at hj; subst hj; exact hc
  · intro g cap w' h1 h2 h3 _
    refine h g cap w' h1 h2 ?_
    rcases h3 with h3 | h3
    · exact .inl (by rw [h3]; rfl)
    · exact .inr (by rw [h3]; rfl)
/-- Region n, block n of a function's code. -/
def regOf (n : Nat) : Code → Option Code
  | .region k ops d => if k = n then some (.region k ops d) else none
  | .seq a b => match regOf n a with
    | some c => some c
    | none => regOf n b
  | .block _ c => regOf n c
  | .scope c => regOf n c
  | .loop c => regOf n c
  | .cond _ a b => match regOf n a with
    | some c => some c
    | none => regOf n b
  | _ => none
def blkOf (n : Nat) : Code → Option Code
  | .seq a b => match blkOf n a with
    | some c => some c
    | none => blkOf n b
  | .block k c => if k = n then some (.block k c) else blkOf n c
  | .scope c => blkOf n c
  | .loop c => blkOf n c
  | .cond _ a b => match blkOf n a with
    | some c => some c
    | none => blkOf n b
  | _ => none
set_option maxHeartbeats 4000000 in
set_option maxRecDepth 1000000 in
theorem reg18 (w wr : World) {A : Nat → Prop} {e gd : Int} {ja jb jc jx jy jz : Sl} {sj : Fl} {q : ByteArray} {lb lo ln lk j : Nat} {ret : Int} (hQ : Bo w wr e gd ja jb jc jx jy jz) (hR : RL6 wr A ja jb jc jx jy jz sj) (hc : j < ln) (hlb : lb < w.heap.size) (hxw : w.cell? ⟨lb, lo + j, none⟩ = some (.string q)) (hpl : pl q sj.H = ret)
    {Q : Exit → Act → World → Prop} {s0 s2 s4 s5 s6 s7 s8 s9 s10 s11 s12 s13 s14 s15 s17 s18 s19 s20 s21 s22 s23 s24 s25 s26 s27 s28 s29 s30 s31 s32 s33 s34 s35 s36 s37 s38 s39 s40 s41 s42 s43 s44 s45 s46 s47 s48 s49 s50 s51 s52 s53 s54 s55 s56 s57 s58 s59 s60 s61 s62 s63 s64 s65 s66 s67 s68 s69 s70 s71 s72 s73 s74 s75 s76 s77 s78 s79 s80 s81 s82 s83 s84 s85 s86 s87 s88 s89 s90 s91 s92 s93 s94 s95 s96 s97 s98 s99 s100 s101 s102 s103 s104 s105 s106 s107 s108 s109 s110 s111 s112 s113 s114 s115 s116 s117 s118 s119 s120 s121 s122 s123 s124 s125 s126 s127 s128 s129 s130 s131 s132 s133 s134 s135 s136 s137 s138 s139 s140 s141 s142 s143 s144 s145 : Value}
    (hK : ∀ (u78 u79 u80 u81 u82 u83 : Value) (wx : World), Below wr.heap.size wr wx → Q .normal ⟨#[s0, .slice (some ⟨lb, lo, none⟩) ln lk, s2, .pointer (some ⟨w.heap.size, 0, none⟩), s4, s5, s6, s7, s8, s9, s10, s11, s12, s13, s14, s15, .int .i64 j, .int .i64 ret, s18, s19, s20, s21, s22, s23, s24, s25, s26, s27, s28, s29, s30, s31, s32, s33, s34, s35, s36, s37, s38, s39, s40, s41, s42, s43, s44, s45, s46, s47, s48, s49, s50, s51, s52, s53, s54, s55, s56, s57, s58, s59, s60, s61, s62, s63, s64, s65, s66, s67, s68, s69, s70, s71, s72, s73, s74, s75, s76, s77, u78, u79, u80, u81, u82, u83, s84, s85, s86, s87, s88, s89, s90, s91, s92, s93, s94, s95, s96, s97, s98, s99, s100, s101, s102, s103, s104, s105, s106, s107, s108, s109, s110, s111, s112, s113, s114, s115, s116, s117, s118, s119, s120, s121, s122, s123, s124, s125, s126, s127, s128, s129, s130, s131, s132, s133, s134, s135, s136, s137, s138, s139, s140, s141, s142, s143, s144, s145], []⟩ wx) :
    Code.wp Tryd.prog ((Tryd.f39.body.bind (regOf 18)).getD .skip) Q ⟨#[s0, .slice (some ⟨lb, lo, none⟩) ln lk, s2, .pointer (some ⟨w.heap.size, 0, none⟩), s4, s5, s6, s7, s8, s9, s10, s11, s12, s13, s14, s15, .int .i64 j, s17, s18, s19, s20, s21, s22, s23, s24, s25, s26, s27, s28, s29, s30, s31, s32, s33, s34, s35, s36, s37, s38, s39, s40, s41, s42, s43, s44, s45, s46, s47, s48, s49, s50, s51, s52, s53, s54, s55, s56, s57, s58, s59, s60, s61, s62, s63, s64, s65, s66, s67, s68, s69, s70, s71, s72, s73, s74, s75, s76, s77, s78, s79, s80, s81, s82, s83, s84, s85, s86, s87, s88, s89, s90, s91, s92, s93, s94, s95, s96, s97, s98, s99, s100, s101, s102, s103, s104, s105, s106, s107, s108, s109, s110, s111, s112, s113, s114, s115, s116, s117, s118, s119, s120, s121, s122, s123, s124, s125, s126, s127, s128, s129, s130, s131, s132, s133, s134, s135, s136, s137, s138, s139, s140, s141, s142, s143, s144, s145], []⟩ wr := by
  refine wp_mono (Q := Exit.then (fun a w => Q .normal a w) (fun _ _ _ => False)) ?_ (fun e a w h => by cases e with | normal => exact h | _ => exact False.elim h)
  conv => arg 2; whnf
  have HKK := Hid.mk' hK
  have HQj := Hid.mk' hQ
  have HRj := Hid.mk' hR
  have HLB := Hid.mk' hlb
  have HXW := Hid.mk' hxw
  have HC : Hid (∀ w', Below wr.heap.size wr w' → (fun w' => w'.cell? ⟨w.heap.size, 0, none⟩ = some (.int .i64 e) ∧ w'.cell? ⟨w.heap.size, 1, none⟩ = some (.int .i64 gd) ∧ w'.cell? ⟨w.heap.size, 2, none⟩ = some (.slice ja.a ja.n ja.c) ∧ w'.cell? ⟨w.heap.size, 3, none⟩ = some (.slice jb.a jb.n jb.c) ∧ w'.cell? ⟨w.heap.size, 4, none⟩ = some (.slice jc.a jc.n jc.c) ∧ w'.cell? ⟨w.heap.size, 5, none⟩ = some (.slice jx.a jx.n jx.c) ∧ w'.cell? ⟨w.heap.size, 6, none⟩ = some (.slice jy.a jy.n jy.c) ∧ w'.cell? ⟨w.heap.size, 7, none⟩ = some (.slice jz.a jz.n jz.c) ∧ w'.cell? ⟨lb, lo + j, none⟩ = some (.string q) ∧ Below wr.heap.size wr w') w') := fun w' hb => by
    have hq2 : w'.heap[w.heap.size]? = some (.cells #[.int .i64 e, .int .i64 gd, .slice ja.a ja.n ja.c, .slice jb.a jb.n jb.c, .slice jc.a jc.n jc.c, .slice jx.a jx.n jx.c, .slice jy.a jy.n jy.c, .slice jz.a jz.n jz.c] 33 (0, 0)) := (HQj.out.call hb).g2
    obtain ⟨y0, y1, y2, y3, y4, y5, y6, y7⟩ := blk8 hq2
    exact ⟨y0, y1, y2, y3, y4, y5, y6, y7, ((HQj.out.call hb).hb.cell (p := ⟨lb, lo + j, none⟩) HLB.out).trans HXW.out, hb⟩
  have HAT : Hid (∀ w', Below wr.heap.size wr w' → Calls Tryd.prog 50 #[.agg #[.int .i64 e, .int .i64 gd, .slice ja.a ja.n ja.c, .slice jb.a jb.n jb.c, .slice jc.a jc.n jc.c, .slice jx.a jx.n jx.c, .slice jy.a jy.n jy.c, .slice jz.a jz.n jz.c], .string q] w' fun o w'' => o = .returned (.int .i64 ret) ∧ Below w'.heap.size w' w'') := fun w' hb => by
    have := rat_x e gd (HRj.out.below hb (fun k hk => hk)) q
    rw [hpl] at this
    exact this
  have h0 := HC.out wr.drew (below_drewN (Below.refl _ wr) 1)
  dsimp only at h0
  have hcj : (j : Int) < (ln : Int) := by omega
  clear hK hQ hR hlb hxw hpl
  go_wp2_with fail
  go_region_held3 (fun w' => w'.cell? ⟨w.heap.size, 0, none⟩ = some (.int .i64 e) ∧ w'.cell? ⟨w.heap.size, 1, none⟩ = some (.int .i64 gd) ∧ w'.cell? ⟨w.heap.size, 2, none⟩ = some (.slice ja.a ja.n ja.c) ∧ w'.cell? ⟨w.heap.size, 3, none⟩ = some (.slice jb.a jb.n jb.c) ∧ w'.cell? ⟨w.heap.size, 4, none⟩ = some (.slice jc.a jc.n jc.c) ∧ w'.cell? ⟨w.heap.size, 5, none⟩ = some (.slice jx.a jx.n jx.c) ∧ w'.cell? ⟨w.heap.size, 6, none⟩ = some (.slice jy.a jy.n jy.c) ∧ w'.cell? ⟨w.heap.size, 7, none⟩ = some (.slice jz.a jz.n jz.c) ∧ w'.cell? ⟨lb, lo + j, none⟩ = some (.string q) ∧ Below wr.heap.size wr w')
    (first | exact h0 | assumption | exact HC.out _ (Below.trans (and9 (by assumption)) (hbx.mono (Below.size (and9 (by assumption))))) | go_keep)
    ((go_at_call 50; refine (HAT.out _ (and9 (by assumption))).mono ?_; rintro o w7 ⟨rfl, hbx⟩))
  all_goals (
    have hbz : Below wr.heap.size wr w7 := and9 (by assumption)
    have HB := Hid.mk' hbz
    clear h0 HC HAT hbx hbz
    go_wp2_with fail
    apply HKK.out
    exact HB.out)
set_option maxHeartbeats 4000000 in
set_option maxRecDepth 1000000 in
theorem reg28 (w w8 : World) {A : Nat → Prop} {e gd : Int} {ja jb jc jx jy jz : Sl} {sj : Fl} {q : ByteArray} {lb lo ln lk j i : Nat} {u : Int} (hQ : Bo w w8 e gd ja jb jc jx jy jz) (hR : RL6 w8 A ja jb jc jx jy jz sj) (hA : ∀ k, A k → k < w8.heap.size ∧ k ≠ w.heap.size) (hi : i < sj.H.length) (hj4 : sj.H.length ≤ 4000) (hjl2 : sj.L.length ≤ 3500) (hjm2 : sj.M.length ≤ 3500) (hc : j < ln) (hlb : lb < w.heap.size) (hxw : w.cell? ⟨lb, lo + j, none⟩ = some (.string q))
    {Q : Exit → Act → World → Prop} {s0 s2 s4 s5 s6 s7 s8 s9 s10 s11 s12 s13 s14 s15 s18 s20 s21 s22 s23 s24 s25 s26 s27 s28 s29 s30 s31 s32 s33 s34 s35 s36 s37 s38 s39 s40 s41 s42 s43 s44 s45 s46 s47 s48 s49 s50 s51 s52 s53 s54 s55 s56 s57 s58 s59 s60 s61 s62 s63 s64 s65 s66 s67 s68 s69 s70 s71 s72 s73 s74 s75 s76 s77 s78 s79 s80 s81 s82 s83 s84 s85 s86 s87 s88 s89 s90 s91 s92 s93 s94 s95 s96 s97 s98 s99 s100 s101 s102 s103 s104 s105 s106 s107 s108 s109 s110 s111 s112 s113 s114 s115 s116 s117 s118 s119 s120 s121 s122 s123 s124 s125 s126 s127 s128 s129 s130 s131 s132 s133 s134 s135 s136 s137 s138 s139 s140 s141 s142 s143 s144 s145 : Value}
    (hK : ∀ (u134 u135 u136 u137 u138 u139 u140 u141 u142 : Value) (wx : World) (b' c' x' y' z' : Sl), Bo w wx e gd ja b' c' x' y' z' → RL6 wx (nq A w8.heap.size wx) ja b' c' x' y' z' ⟨putH sj.H i u false, wo q sj.L, wo q sj.M⟩ → Keep (fun k => k < w8.heap.size ∧ k ≠ w.heap.size) w8 wx → Q .normal ⟨#[s0, .slice (some ⟨lb, lo, none⟩) ln lk, s2, .pointer (some ⟨w.heap.size, 0, none⟩), s4, s5, s6, s7, s8, s9, s10, s11, s12, s13, s14, s15, .int .i64 j, .int .i64 i, s18, .int .i64 u, s20, s21, s22, s23, s24, s25, s26, s27, s28, s29, s30, s31, s32, s33, s34, s35, s36, s37, s38, s39, s40, s41, s42, s43, s44, s45, s46, s47, s48, s49, s50, s51, s52, s53, s54, s55, s56, s57, s58, s59, s60, s61, s62, s63, s64, s65, s66, s67, s68, s69, s70, s71, s72, s73, s74, s75, s76, s77, s78, s79, s80, s81, s82, s83, s84, s85, s86, s87, s88, s89, s90, s91, s92, s93, s94, s95, s96, s97, s98, s99, s100, s101, s102, s103, s104, s105, s106, s107, s108, s109, s110, s111, s112, s113, s114, s115, s116, s117, s118, s119, s120, s121, s122, s123, s124, s125, s126, s127, s128, s129, s130, s131, s132, s133, u134, u135, u136, u137, u138, u139, u140, u141, u142, s143, s144, s145], []⟩ wx) :
    Code.wp Tryd.prog ((Tryd.f39.body.bind (regOf 28)).getD .skip) Q ⟨#[s0, .slice (some ⟨lb, lo, none⟩) ln lk, s2, .pointer (some ⟨w.heap.size, 0, none⟩), s4, s5, s6, s7, s8, s9, s10, s11, s12, s13, s14, s15, .int .i64 j, .int .i64 i, s18, .int .i64 u, s20, s21, s22, s23, s24, s25, s26, s27, s28, s29, s30, s31, s32, s33, s34, s35, s36, s37, s38, s39, s40, s41, s42, s43, s44, s45, s46, s47, s48, s49, s50, s51, s52, s53, s54, s55, s56, s57, s58, s59, s60, s61, s62, s63, s64, s65, s66, s67, s68, s69, s70, s71, s72, s73, s74, s75, s76, s77, s78, s79, s80, s81, s82, s83, s84, s85, s86, s87, s88, s89, s90, s91, s92, s93, s94, s95, s96, s97, s98, s99, s100, s101, s102, s103, s104, s105, s106, s107, s108, s109, s110, s111, s112, s113, s114, s115, s116, s117, s118, s119, s120, s121, s122, s123, s124, s125, s126, s127, s128, s129, s130, s131, s132, s133, s134, s135, s136, s137, s138, s139, s140, s141, s142, s143, s144, s145], []⟩ w8 := by
  refine wp_mono (Q := Exit.then (fun a w => Q .normal a w) (fun _ _ _ => False)) ?_ (fun e a w h => by cases e with | normal => exact h | _ => exact False.elim h)
  conv => arg 2; whnf
  have HKK := Hid.mk' hK
  have HQ8 := Hid.mk' hQ
  have HR8 := Hid.mk' hR
  have HA := Hid.mk' hA
  have HLB := Hid.mk' hlb
  have HXW := Hid.mk' hxw
  have HI := Hid.mk' hi
  have hbd : Below w8.heap.size w8 w8.drew := below_drewN (Below.refl _ w8) 1
  have HBD := Hid.mk' hbd
  have HQd := Hid.mk' (HQ8.out.call hbd)
  have HRd : Hid (RL6 w8.drew (nq A w8.heap.size w8.drew) ja jb jc jx jy jz sj) := HR8.out.nq1 hbd
  have HGx : Hid (∀ w', w8.heap.size ≤ w'.heap.size → ∀ k, nq A w8.heap.size w' k → k < w'.heap.size) := fun w' hs k hk => nq_lt (fun k hk => (HA.out k hk).1) hs hk
  have x1 := (HQ8.out.hb.cell (p := ⟨lb, lo + j, none⟩) HLB.out).trans HXW.out
  have hq2 : w8.heap[w.heap.size]? = some (.cells #[.int .i64 e, .int .i64 gd, .slice ja.a ja.n ja.c, .slice jb.a jb.n jb.c, .slice jc.a jc.n jc.c, .slice jx.a jx.n jx.c, .slice jy.a jy.n jy.c, .slice jz.a jz.n jz.c] 33 (0, 0)) := HQ8.out.g2
  obtain ⟨c0, c1, c2, c3, c4, c5, c6, c7⟩ := blk8 hq2
  clear hq2
  have hcj : (j : Int) < (ln : Int) := by omega
  have hsz := HQ8.out.sz
  clear hK hQ hR hA hlb hxw hi hbd
  go_wp2_with fail
  go_region_with ((first
    | (go_at_call 71; refine (rput_f HRd.out (HGx.out _ (Nat.le_refl _)) i HI.out hj4 u false).mono ?_; rintro o w9 ⟨b', c', rfl, h9, hb9⟩; have x1' := ((HQd.out.call hb9).hb.cell (p := ⟨lb, lo + j, none⟩) HLB.out).trans HXW.out)
    | (go_at_call 70; refine (rend_x q (h9.nqc (Nat.le_refl _) hb9.size) (HGx.out _ hb9.size) hjl2 hjm2).mono ?_; rintro o w10 ⟨x', y', z', rfl, h10, hb10⟩; have HQ10 := Hid.mk' ((HQd.out.call hb9).call hb10); have hq2 : w10.heap[w.heap.size]? = some (.cells #[.int .i64 e, .int .i64 gd, .slice ja.a ja.n ja.c, .slice jb.a jb.n jb.c, .slice jc.a jc.n jc.c, .slice jx.a jx.n jx.c, .slice jy.a jy.n jy.c, .slice jz.a jz.n jz.c] 33 (0, 0)) := HQ10.out.g2; obtain ⟨c0, c1, c2, c3, c4, c5, c6, c7⟩ := blk8 hq2; have z0 := fz8 hq2 0; have z1 := fz8 hq2 1; have z2 := fz8 hq2 2; have z3 := fz8 hq2 3; have z4 := fz8 hq2 4; have z5 := fz8 hq2 5; have z6 := fz8 hq2 6; have z7 := fz8 hq2 7; clear hq2)))
  all_goals (
    have hs89 : w8.heap.size ≤ w9.heap.size := hb9.size
    have HR10 : RL6 w10 (nq A w8.heap.size w10) ja b' c' x' y' z' ⟨putH sj.H i u false, wo q sj.L, wo q sj.M⟩ := h10.nqc hs89 hb10.size
    have hb8A : Below w8.heap.size w8 w10 := (HBD.out.trans (hb9.mono (Nat.le_refl _))).trans (hb10.mono hs89)
    have hne : ∀ k, nq A w8.heap.size w10 k → k ≠ w.heap.size := by
      rintro k (hk | hk)
      · exact (HA.out k hk).2
      · omega
    have HR11 := Hid.mk' (HR10.stg hne (.int .i64 e) (.int .i64 gd) (.slice ja.a ja.n ja.c) (.slice b'.a b'.n b'.c) (.slice c'.a c'.n c'.c) (.slice x'.a x'.n x'.c) (.slice y'.a y'.n y'.c) (.slice z'.a z'.n z'.c))
    have HQ11 := Hid.mk' (HQ10.out.store ja b' c' x' y' z')
    have hr8 := put8_rest w10 0 w.heap.size (Nat.zero_le _) (.int .i64 e) (.int .i64 gd) (.slice ja.a ja.n ja.c) (.slice b'.a b'.n b'.c) (.slice c'.a c'.n c'.c) (.slice x'.a x'.n x'.c) (.slice y'.a y'.n y'.c) (.slice z'.a z'.n z'.c)
    have HK11 : Hid (Keep (fun k => k < w8.heap.size ∧ k ≠ w.heap.size) w8 ((((((((w10.setCell ⟨w.heap.size, 0, none⟩ (.int .i64 e)).setCell ⟨w.heap.size, 1, none⟩ (.int .i64 gd)).setCell ⟨w.heap.size, 2, none⟩ (.slice ja.a ja.n ja.c)).setCell ⟨w.heap.size, 3, none⟩ (.slice b'.a b'.n b'.c)).setCell ⟨w.heap.size, 4, none⟩ (.slice c'.a c'.n c'.c)).setCell ⟨w.heap.size, 5, none⟩ (.slice x'.a x'.n x'.c)).setCell ⟨w.heap.size, 6, none⟩ (.slice y'.a y'.n y'.c)).setCell ⟨w.heap.size, 7, none⟩ (.slice z'.a z'.n z'.c))) := by
      have k1 : Keep (fun k => k < w8.heap.size ∧ k ≠ w.heap.size) w8 w10 := keep_below hb8A
      have k2 : Keep (fun k => k < w8.heap.size ∧ k ≠ w.heap.size) w10 ((((((((w10.setCell ⟨w.heap.size, 0, none⟩ (.int .i64 e)).setCell ⟨w.heap.size, 1, none⟩ (.int .i64 gd)).setCell ⟨w.heap.size, 2, none⟩ (.slice ja.a ja.n ja.c)).setCell ⟨w.heap.size, 3, none⟩ (.slice b'.a b'.n b'.c)).setCell ⟨w.heap.size, 4, none⟩ (.slice c'.a c'.n c'.c)).setCell ⟨w.heap.size, 5, none⟩ (.slice x'.a x'.n x'.c)).setCell ⟨w.heap.size, 6, none⟩ (.slice y'.a y'.n y'.c)).setCell ⟨w.heap.size, 7, none⟩ (.slice z'.a z'.n z'.c)) := ⟨hr8.1.os, hr8.1.tape, hr8.1.output, hr8.1.size, fun k _ hk => hr8.2 k hk.2⟩
      exact k1.trans k2
    clear c0 c1 c2 c3 c4 c5 c6 c7 z0 z1 z2 z3 z4 z5 z6 z7 x1 x1' h9 h10 HR10 hne hr8 hb8A
    generalize ((((((((w10.setCell ⟨w.heap.size, 0, none⟩ (.int .i64 e)).setCell ⟨w.heap.size, 1, none⟩ (.int .i64 gd)).setCell ⟨w.heap.size, 2, none⟩ (.slice ja.a ja.n ja.c)).setCell ⟨w.heap.size, 3, none⟩ (.slice b'.a b'.n b'.c)).setCell ⟨w.heap.size, 4, none⟩ (.slice c'.a c'.n c'.c)).setCell ⟨w.heap.size, 5, none⟩ (.slice x'.a x'.n x'.c)).setCell ⟨w.heap.size, 6, none⟩ (.slice y'.a y'.n y'.c)).setCell ⟨w.heap.size, 7, none⟩ (.slice z'.a z'.n z'.c)) = w11 at *
    go_wp2_with fail
    apply HKK.out
    · exact HQ11.out
    · exact HR11.out
    · exact HK11.out)
set_option maxHeartbeats 4000000 in
set_option maxRecDepth 1000000 in
theorem reg23 (wr : World) {e gd : Int} {q : ByteArray} {lb lo ln lk j B tb n1 n2 n3 : Nat} {k1 k2 k3 xv yv zv : Value} {l1 l2 l3 : List Value} (hO : OF wr B tb e gd k1 k2 k3 xv yv zv n1 n2 n3 l1 l2 l3) (hn : n1 ≤ 4000) (hB : B ≤ wr.heap.size) (hc : j < ln) (hx : wr.cell? ⟨lb, lo + j, none⟩ = some (.string q))
    {Q : Exit → Act → World → Prop} {s0 s2 s3 s4 s5 s6 s7 s8 s9 s10 s11 s12 s13 s14 s15 s17 s19 s20 s21 s22 s23 s24 s25 s26 s27 s28 s29 s30 s31 s32 s33 s34 s35 s36 s37 s38 s39 s40 s41 s42 s43 s44 s45 s46 s47 s48 s49 s50 s51 s52 s53 s54 s55 s56 s57 s58 s59 s60 s61 s62 s63 s64 s65 s66 s67 s68 s69 s70 s71 s72 s73 s74 s75 s76 s77 s78 s79 s80 s81 s82 s83 s84 s85 s86 s87 s88 s89 s90 s91 s92 s93 s94 s95 s96 s97 s98 s99 s100 s101 s102 s103 s104 s105 s106 s107 s108 s109 s110 s111 s112 s113 s114 s115 s116 s117 s118 s119 s120 s121 s122 s123 s124 s125 s126 s127 s128 s129 s130 s131 s132 s133 s134 s135 s136 s137 s138 s139 s140 s141 s142 s143 s144 s145 : Value}
    (hK : ∀ (u105 u106 u107 u108 u109 u110 u111 u112 u113 : Value) (wx : World) (k1' : Value), OF wx B tb e gd k1' k2 k3 xv yv zv (n1 + 1) n2 n3 (l1 ++ [.string q]) l2 l3 → Keep (fun k => k < B ∧ k ≠ tb) wr wx → Q .normal ⟨#[s0, .slice (some ⟨lb, lo, none⟩) ln lk, s2, s3, s4, s5, s6, s7, s8, s9, s10, s11, s12, s13, s14, s15, .int .i64 j, s17, .pointer (some ⟨tb, 0, none⟩), s19, s20, s21, s22, s23, s24, s25, s26, s27, s28, s29, s30, s31, s32, s33, s34, s35, s36, s37, s38, s39, s40, s41, s42, s43, s44, s45, s46, s47, s48, s49, s50, s51, s52, s53, s54, s55, s56, s57, s58, s59, s60, s61, s62, s63, s64, s65, s66, s67, s68, s69, s70, s71, s72, s73, s74, s75, s76, s77, s78, s79, s80, s81, s82, s83, s84, s85, s86, s87, s88, s89, s90, s91, s92, s93, s94, s95, s96, s97, s98, s99, s100, s101, s102, s103, s104, u105, u106, u107, u108, u109, u110, u111, u112, u113, s114, s115, s116, s117, s118, s119, s120, s121, s122, s123, s124, s125, s126, s127, s128, s129, s130, s131, s132, s133, s134, s135, s136, s137, s138, s139, s140, s141, s142, s143, s144, s145], []⟩ wx) :
    Code.wp Tryd.prog ((Tryd.f39.body.bind (regOf 23)).getD .skip) Q ⟨#[s0, .slice (some ⟨lb, lo, none⟩) ln lk, s2, s3, s4, s5, s6, s7, s8, s9, s10, s11, s12, s13, s14, s15, .int .i64 j, s17, .pointer (some ⟨tb, 0, none⟩), s19, s20, s21, s22, s23, s24, s25, s26, s27, s28, s29, s30, s31, s32, s33, s34, s35, s36, s37, s38, s39, s40, s41, s42, s43, s44, s45, s46, s47, s48, s49, s50, s51, s52, s53, s54, s55, s56, s57, s58, s59, s60, s61, s62, s63, s64, s65, s66, s67, s68, s69, s70, s71, s72, s73, s74, s75, s76, s77, s78, s79, s80, s81, s82, s83, s84, s85, s86, s87, s88, s89, s90, s91, s92, s93, s94, s95, s96, s97, s98, s99, s100, s101, s102, s103, s104, s105, s106, s107, s108, s109, s110, s111, s112, s113, s114, s115, s116, s117, s118, s119, s120, s121, s122, s123, s124, s125, s126, s127, s128, s129, s130, s131, s132, s133, s134, s135, s136, s137, s138, s139, s140, s141, s142, s143, s144, s145], []⟩ wr := by
  refine wp_mono (Q := Exit.then (fun a w => Q .normal a w) (fun _ _ _ => False)) ?_ (fun e a w h => by cases e with | normal => exact h | _ => exact False.elim h)
  conv => arg 2; whnf
  have HKK := Hid.mk' hK
  have HO := Hid.mk' hO
  have d1 := hO.cell1
  have d1a : (wr.alloc (.cells #[.string q] 9)).cell? ⟨tb, 2, none⟩ = some k1 := (((Keep.refl (fun _ => True) wr).alloc _).cell (a := ⟨tb, 2, none⟩) d1 trivial)
  have hcj : (j : Int) < (ln : Int) := by omega
  clear hK hO
  go_wp2_with fail
  go_region_law ((refine step_str1 rfl _ _ rfl B k1 n1 l1 q rfl wr HO.out.o1 rfl ((Keep.refl _ wr).alloc _).drew (heap_alloc_new _ _) (by omega) (by omega) ?_; intro gg cp w3 hown3 hgrow hat; have hmid := HO.out.mid1 ((Keep.refl _ wr).alloc _).drew hgrow; have d3 := hmid.1; have f3 := hmid.2))
  all_goals (
    obtain ⟨q1, q2⟩ := HO.out.push1 ((Keep.refl _ wr).alloc _).drew hgrow hown3 hat
    have Q1 := Hid.mk' q1
    have Q2 := Hid.mk' q2
    clear q1 q2 hown3 hgrow hat hmid d3 f3 d1 d1a hx
    go_wp2_with fail
    apply HKK.out
    · exact Q1.out
    · exact Q2.out)
end Go.Proofs.YtmlkpfkeeifgeaaDoor
