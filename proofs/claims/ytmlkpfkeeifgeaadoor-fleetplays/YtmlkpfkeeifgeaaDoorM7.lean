/-
  Several texts in one: RfT, RfL, RfH.
-/
import Derived.Test.YtmlkpfkeeifgeaaDoorM5
import Derived.Test.YtmlkpfkeeifgeaaDoorM6
import Derived.Deep.Onto
namespace Go.Proofs.YtmlkpfkeeifgeaaDoor
open Go.ChangeShapes Go.WideShapes Go.ChangeAt Go.RowKit Go.Joins Go.Deep

theorem put5 {w : World} {g : Nat} {a b c d e f x y : Value} {t : TypeId} (h : w.heap[g]? = some (.cells #[a, b, c, d, e, f, x, y] t (0, 0))) (p q r u v : Value) :
    (((((w.setCell ⟨g, 0, none⟩ p).setCell ⟨g, 1, none⟩ q).setCell ⟨g, 5, none⟩ r).setCell ⟨g, 6, none⟩ u).setCell ⟨g, 7, none⟩ v).heap[g]? = some (.cells #[p, q, c, d, e, r, u, v] t (0, 0)) := by
  have h0 := heap_setCell_same w g 0 _ t p h
  have h1 := heap_setCell_same _ g 1 _ t q h0
  have h2 := heap_setCell_same _ g 5 _ t r h1
  have h3 := heap_setCell_same _ g 6 _ t u h2
  have h4 := heap_setCell_same _ g 7 _ t v h3
  rw [h4]
  simp
theorem put5_rest (w : World) (B g : Nat) (hB : B ≤ g) (p q r u v : Value) : Below B w (((((w.setCell ⟨g, 0, none⟩ p).setCell ⟨g, 1, none⟩ q).setCell ⟨g, 5, none⟩ r).setCell ⟨g, 6, none⟩ u).setCell ⟨g, 7, none⟩ v) ∧ ∀ k, k ≠ g → (((((w.setCell ⟨g, 0, none⟩ p).setCell ⟨g, 1, none⟩ q).setCell ⟨g, 5, none⟩ r).setCell ⟨g, 6, none⟩ u).setCell ⟨g, 7, none⟩ v).heap[k]? = w.heap[k]? := by
  have h0 : Below B w (w.setCell ⟨g, 0, none⟩ p) := (Below.refl B w).setCell (p := ⟨g, 0, none⟩) hB p
  have h1 := h0.setCell (p := ⟨g, 1, none⟩) hB q
  have h2 := h1.setCell (p := ⟨g, 5, none⟩) hB r
  have h3 := h2.setCell (p := ⟨g, 6, none⟩) hB u
  have h4 := h3.setCell (p := ⟨g, 7, none⟩) hB v
  refine ⟨h4, fun k hk => ?_⟩
  exact (Below.heap_setCell _ ⟨g, 7, none⟩ v k hk).trans ((Below.heap_setCell _ ⟨g, 6, none⟩ u k hk).trans ((Below.heap_setCell _ ⟨g, 5, none⟩ r k hk).trans ((Below.heap_setCell _ ⟨g, 1, none⟩ q k hk).trans (Below.heap_setCell _ ⟨g, 0, none⟩ p k hk))))
section
variable {w w' : World} {A : Nat → Prop} {a b c x y z : Sl} {s : Fl}
theorem RL6.lens (h : RL6 w A a b c x y z s) : a.n = s.H.length ∧ b.n = s.H.length ∧ c.n = s.H.length := by
  have h1 := h.nm.hlen
  have h2 := h.st.hlen
  have h3 := h.lv.hlen
  rw [hn_length] at h1
  rw [hz_length] at h2
  rw [hl_length] at h3
  exact ⟨h1.symm, h2.symm, h3.symm⟩
theorem RL6.nmi (h : RL6 w A a b c x y z s) {i : Nat} (hi : i < s.H.length) : i < a.n ∧ ∃ c2 p3, a.a = some ⟨c2, p3, none⟩ ∧ w.cell? ⟨c2, p3 + i, none⟩ = some (.string (atH s.H i).nm) := by
  have hb : i < a.n := by have := h.lens.1; omega
  obtain ⟨b2, p2, e2, -, q2⟩ := h.nm.at_ i hb
  rw [hn_getD] at q2
  exact ⟨hb, b2, p2, e2, q2⟩
/-- Three rows of the call's own that hold the hosts H. -/
structure Own3 (w : World) (base : Nat) (a b c : Sl) (H : List Hs) : Prop where
  n1 : a.n = H.length
  n2 : b.n = H.length
  n3 : c.n = H.length
  o1 : w.ownsRow base 9 1 (.slice a.a a.n a.c) H.length (sc (hn H))
  o2 : w.ownsRow base 3 1 (.slice b.a b.n b.c) H.length (ic (hz H))
  o3 : w.ownsRow base 4 1 (.slice c.a c.n c.c) H.length (bc (hl H))
  a12 : ∀ k, bk a.a k → ¬ bk b.a k
  a13 : ∀ k, bk a.a k → ¬ bk c.a k
  a23 : ∀ k, bk b.a k → ¬ bk c.a k
theorem Own3.mono {base base' : Nat} {R : List Hs} (h : Own3 w base a b c R) (hb : base' ≤ base) : Own3 w base' a b c R := ⟨h.n1, h.n2, h.n3, h.o1.mono hb, h.o2.mono hb, h.o3.mono hb, h.a12, h.a13, h.a23⟩
theorem Own3.keep {base : Nat} {R : List Hs} (h : Own3 w base a b c R) (hk : Keep A w w') (hA : ∀ k, base ≤ k → A k) : Own3 w' base a b c R := ⟨h.n1, h.n2, h.n3, owns_keep h.o1 hk (fun k q => hA k (h.o1.lt k q).1), owns_keep h.o2 hk (fun k q => hA k (h.o2.lt k q).1), owns_keep h.o3 hk (fun k q => hA k (h.o3.lt k q).1), h.a12, h.a13, h.a23⟩
theorem Own3.fin {base : Nat} {R : List Hs} (h : Own3 w base a b c R) (g : Nat) (hg : g < base) (p0 p1 p2 p3 p4 p5 p6 p7 : Value) : Own3 ((((((((w.setCell ⟨g, 0, none⟩ p0).setCell ⟨g, 1, none⟩ p1).setCell ⟨g, 2, none⟩ p2).setCell ⟨g, 3, none⟩ p3).setCell ⟨g, 4, none⟩ p4).setCell ⟨g, 5, none⟩ p5).setCell ⟨g, 6, none⟩ p6).setCell ⟨g, 7, none⟩ p7) base a b c R := by
  have h8 := put8_rest w 0 g (Nat.zero_le _) p0 p1 p2 p3 p4 p5 p6 p7
  exact h.keep (A := fun k => k ≠ g) ⟨h8.1.os, h8.1.tape, h8.1.output, h8.1.size, fun k _ hk => h8.2 k hk⟩ (fun k hk => by omega)
theorem OF.cast {B b : Nat} {e gd : Int} {k1 k2 k3 xv yv zv : Value} {n1 n2 n3 m1 m2 m3 : Nat} {l1 l2 l3 r1 r2 r3 : List Value} (h : OF w B b e gd k1 k2 k3 xv yv zv n1 n2 n3 l1 l2 l3) (e1 : n1 = m1) (e2 : n2 = m2) (e3 : n3 = m3) (f1 : l1 = r1) (f2 : l2 = r2) (f3 : l3 = r3) : OF w B b e gd k1 k2 k3 xv yv zv m1 m2 m3 r1 r2 r3 := by
  subst e1 e2 e3 f1 f2 f3
  exact h
/-- The rows of a fleet in a block, as hosts. -/
def OH (w : World) (B b : Nat) (e gd : Int) (k1 k2 k3 xv yv zv : Value) (R : List Hs) : Prop := OF w B b e gd k1 k2 k3 xv yv zv R.length R.length R.length (sc (hn R)) (ic (hz R)) (bc (hl R))
theorem OH.next {B b : Nat} {e gd : Int} {k1 k2 k3 xv yv zv : Value} {R : List Hs} {h : Hs} (hh : OF w B b e gd k1 k2 k3 xv yv zv (R.length + 1) (R.length + 1) (R.length + 1) (sc (hn R) ++ [.string h.nm]) (ic (hz R) ++ [.int .i64 h.st]) (bc (hl R) ++ [.bool h.lv])) : OH w B b e gd k1 k2 k3 xv yv zv (R ++ [h]) :=
  OF.cast hh (by simp) (by simp) (by simp) (by rw [hn_snoc, sc_snoc]) (by rw [hz_snoc, ic_snoc]) (by rw [hl_snoc, bc_snoc])
theorem OH.start {B b : Nat} {e gd : Int} {xv yv zv : Value} (h : w.heap[b]? = some (.cells #[.int .i64 e, .int .i64 gd, .slice none 0 0, .slice none 0 0, .slice none 0 0, xv, yv, zv] 33 (0, 0))) : OH w B b e gd (.slice none 0 0) (.slice none 0 0) (.slice none 0 0) xv yv zv [] :=
  ⟨h, World.ownsRow_nil _ _ _ _, World.ownsRow_nil _ _ _ _, World.ownsRow_nil _ _ _ _, fun k e => by simp [Value.ownBlock] at e, fun k e => by simp [Value.ownBlock] at e, fun k e => by simp [Value.ownBlock] at e, fun k e => by simp [Value.ownBlock] at e⟩
/-- .. as three slices. -/
theorem OH.own {B b : Nat} {e gd : Int} {k1 k2 k3 xv yv zv : Value} {R : List Hs} (h : OH w B b e gd k1 k2 k3 xv yv zv R) : ∃ a b c : Sl, k1 = .slice a.a a.n a.c ∧ k2 = .slice b.a b.n b.c ∧ k3 = .slice c.a c.n c.c ∧ Own3 w B a b c R ∧ StrsAt w a.a a.n a.c (hn R) ∧ IntsAt w b.a b.n b.c (hz R) ∧ FlagsAt w c.a c.n c.c (hl R) ∧ ∀ k, (bk a.a k ∨ bk b.a k ∨ bk c.a k) → B ≤ k ∧ k < w.heap.size := by
  have h0 := h
  obtain ⟨-, o1, o2, o3, a12, a13, a23, -⟩ := h
  obtain ⟨a1, c1, rfl, q1, -⟩ := owns_strs o1
  obtain ⟨a2, c2, rfl, q2, -⟩ := owns_ints o2
  obtain ⟨a3, c3, rfl, q3, -⟩ := owns_flags o3
  refine ⟨⟨a1, R.length, c1⟩, ⟨a2, R.length, c2⟩, ⟨a3, R.length, c3⟩, rfl, rfl, rfl, ⟨rfl, rfl, rfl, o1, o2, o3, fun k p q => a12 k (own_bk.2 p) (own_bk.2 q), fun k p q => a13 k (own_bk.2 p) (own_bk.2 q), fun k p q => a23 k (own_bk.2 p) (own_bk.2 q)⟩, q1, q2, q3, ?_⟩
  rintro k (hk | hk | hk)
  · exact o1.lt k (own_bk.2 hk)
  · exact o2.lt k (own_bk.2 hk)
  · exact o3.lt k (own_bk.2 hk)
end

set_option maxHeartbeats 4000000 in
set_option maxRecDepth 100000 in
theorem rcut_f {w : World} {A : Nat → Prop} {e gd : Int} {a b c x y z : Sl} {s : Fl} (h : RL6 w A a b c x y z s) (hG : ∀ k, A k → k < w.heap.size) (i0 : Int) (hlen : s.H.length ≤ 4000) :
    Calls Tryd.prog 68 #[.agg #[.int .i64 e, .int .i64 gd, .slice a.a a.n a.c, .slice b.a b.n b.c, .slice c.a c.n c.c, .slice x.a x.n x.c, .slice y.a y.n y.c, .slice z.a z.n z.c], .int .i64 i0] w fun o w' => ∃ a' b' c' : Sl, o = .returned (.agg #[.int .i64 e, .int .i64 gd, .slice a'.a a'.n a'.c, .slice b'.a b'.n b'.c, .slice c'.a c'.n c'.c, .slice x.a x.n x.c, .slice y.a y.n y.c, .slice z.a z.n z.c]) ∧ RL6 w' (nw A w w') a' b' c' x y z ⟨rmH s.H i0, s.L, s.M⟩ ∧ Own3 w' w.heap.size a' b' c' (rmH s.H i0) ∧ Below w.heap.size w w' := by
  obtain ⟨aa, an, ak⟩ := a
  obtain ⟨ba, bn, bq⟩ := b
  obtain ⟨ca, cn, ck⟩ := c
  obtain ⟨w1, hw1⟩ : ∃ w1, w1 = (w.alloc (.cells #[.int .i64 e, .int .i64 gd, .slice aa an ak, .slice ba bn bq, .slice ca cn ck, .slice x.a x.n x.c, .slice y.a y.n y.c, .slice z.a z.n z.c] 33)).alloc (.cells #[.int .i64 0, .int .i64 0, .slice none 0 0, .slice none 0 0, .slice none 0 0, .slice none 0 0, .slice none 0 0, .slice none 0 0] 33) := ⟨_, rfl⟩
  have HQ : Hid (Bo w w1 e gd ⟨aa, an, ak⟩ ⟨ba, bn, bq⟩ ⟨ca, cn, ck⟩ x y z) := by rw [hw1]; exact Bo.start w e gd ⟨aa, an, ak⟩ ⟨ba, bn, bq⟩ ⟨ca, cn, ck⟩ x y z
  have hs1 : w1.heap.size = w.heap.size + 2 := by rw [hw1]; simp
  obtain ⟨w2, hw2⟩ : ∃ w2, w2 = w1.alloc (.cells #[.int .i64 0, .int .i64 0, .slice none 0 0, .slice none 0 0, .slice none 0 0, .slice none 0 0, .slice none 0 0, .slice none 0 0] 33) := ⟨_, rfl⟩
  have hb2 : Below w1.heap.size w1 w2 := by rw [hw2]; exact (Below.refl _ w1).alloc (Nat.le_refl _) _
  have hs2 : w2.heap.size = w.heap.size + 3 := by rw [hw2]; simp [hs1]
  have hq5 : w2.heap[w.heap.size + 2]? = some (.cells #[.int .i64 0, .int .i64 0, .slice none 0 0, .slice none 0 0, .slice none 0 0, .slice none 0 0, .slice none 0 0, .slice none 0 0] 33 (0, 0)) := by
    rw [hw2, ← hs1]
    exact heap_alloc_new w1 _
  have HQ2 : Hid (Bo w w2 e gd ⟨aa, an, ak⟩ ⟨ba, bn, bq⟩ ⟨ca, cn, ck⟩ x y z) := HQ.out.call hb2
  have HR2 : Hid (RL6 w2 A ⟨aa, an, ak⟩ ⟨ba, bn, bq⟩ ⟨ca, cn, ck⟩ x y z s) := h.below HQ2.out.hb (fun k hk => hk)
  have hq2 : w2.heap[w.heap.size]? = some (.cells #[.int .i64 e, .int .i64 gd, .slice aa an ak, .slice ba bn bq, .slice ca cn ck, .slice x.a x.n x.c, .slice y.a y.n y.c, .slice z.a z.n z.c] 33 (0, 0)) := HQ2.out.g2
  have HN : Hid (an = s.H.length ∧ bn = s.H.length ∧ cn = s.H.length) := h.lens
  have han : an ≤ 4000 := by have := HN.out.1; omega
  obtain ⟨c0, c1, c2, c3, c4, c5, c6, c7⟩ := blk8 hq2
  obtain ⟨k0, k1, k2, k3, k4, k5, k6, k7⟩ := blk8 hq5
  have f0 := fz8 hq5 0
  have f1 := fz8 hq5 1
  have f5 := fz8 hq5 5
  have f6 := fz8 hq5 6
  have f7 := fz8 hq5 7
  clear h hb2
  go_enter Tryd.func68, Tryd.ntmps68
  go_upto_region 1 with fail
  rw [← hw1]
  clear hw1
  go_upto_region 2 with fail
  rw [← hw2]
  try rw [hs1]
  clear hw2 hs1
  go_upto_region 5 with fail
  obtain ⟨w5, hw5⟩ : ∃ w5, w5 = (((((w2.setCell ⟨w.heap.size + 2, 0, none⟩ (.int .i64 e)).setCell ⟨w.heap.size + 2, 1, none⟩ (.int .i64 gd)).setCell ⟨w.heap.size + 2, 5, none⟩ (.slice x.a x.n x.c)).setCell ⟨w.heap.size + 2, 6, none⟩ (.slice y.a y.n y.c)).setCell ⟨w.heap.size + 2, 7, none⟩ (.slice z.a z.n z.c)) := ⟨_, rfl⟩
  rw [← hw5]
  have hq55 := put5 hq5 (.int .i64 e) (.int .i64 gd) (.slice x.a x.n x.c) (.slice y.a y.n y.c) (.slice z.a z.n z.c)
  obtain ⟨hb5, hk5⟩ := put5_rest w2 (w.heap.size + 2) (w.heap.size + 2) (Nat.le_refl _) (.int .i64 e) (.int .i64 gd) (.slice x.a x.n x.c) (.slice y.a y.n y.c) (.slice z.a z.n z.c)
  rw [← hw5] at hq55 hb5 hk5
  have hs5 := hb5.size
  have hK25 : Keep (fun k => k ≠ w.heap.size + 2) w2 w5 := ⟨hb5.os, hb5.tape, hb5.output, hb5.size, fun k _ hk => hk5 k hk⟩
  have HR5 := Hid.mk' (HR2.out.keep hK25 (fun k hk => by have := hG k hk; omega))
  have HG2 : Hid (w5.heap[w.heap.size]? = some (.cells #[.int .i64 e, .int .i64 gd, .slice aa an ak, .slice ba bn bq, .slice ca cn ck, .slice x.a x.n x.c, .slice y.a y.n y.c, .slice z.a z.n z.c] 33 (0, 0))) := (hk5 _ (by omega)).trans hq2
  have HG4 : Hid (w5.heap[w.heap.size + 1]? = some (.cells #[.int .i64 0, .int .i64 0, .slice none 0 0, .slice none 0 0, .slice none 0 0, .slice none 0 0, .slice none 0 0, .slice none 0 0] 33 (0, 0))) := (hk5 _ (by omega)).trans HQ2.out.g4
  have HB5 : Hid (Below w.heap.size w w5) := HQ2.out.hb.trans (hb5.mono (by omega))
  have HO5 : Hid (OH w5 (w.heap.size + 3) (w.heap.size + 2) e gd (.slice none 0 0) (.slice none 0 0) (.slice none 0 0) (.slice x.a x.n x.c) (.slice y.a y.n y.c) (.slice z.a z.n z.c) []) := OH.start hq55
  have HS5 : Hid (w.heap.size + 3 ≤ w5.heap.size) := by show _ ≤ _; omega
  clear hw5 hq55 hb5 hk5 hK25 hq5 hq2 HQ HQ2 HR2 hs2 hs5 c0 c1 c2 c3 c4 c5 c6 c7 k0 k1 k2 k3 k4 k5 k6 k7 f0 f1 f5 f6 f7
  go_wp2
  go_loopw [6] (fun vi wr => ∃ i : Nat, ∃ k1 k2 k3 : Value, vi = .int .i64 i ∧ i ≤ an ∧ OH wr (w.heap.size + 3) (w.heap.size + 2) e gd k1 k2 k3 (.slice x.a x.n x.c) (.slice y.a y.n y.c) (.slice z.a z.n z.c) (rmH (s.H.take i) i0) ∧ Keep (fun k => k < w.heap.size + 3 ∧ k ≠ w.heap.size + 2) w5 wr) (fun vi _ => an + 1 - (intOf vi).toNat)
  case atStart =>
    refine ⟨0, .slice none 0 0, .slice none 0 0, .slice none 0 0, rfl, Nat.zero_le _, ?_, Keep.refl _ _⟩
    have e0 : rmH (s.H.take 0) i0 = [] := by unfold rmH; simp
    rw [e0]
    exact HO5.out
  case round =>
    obtain ⟨i, k1, k2, k3, rfl, hi1, hOr, hkr⟩ := hrel
    have hq2 := (hkr.block w.heap.size (by have := HS5.out; omega) (by omega)).trans HG2.out
    obtain ⟨c0, c1, c2, c3, c4, c5, c6, c7⟩ := blk8 hq2
    have HO := Hid.mk' hOr
    have HKr := Hid.mk' hkr
    have HRr := Hid.mk' (HR5.out.keep hkr (fun k hk => by have := hG k hk; omega))
    by_cases hc : i < an
    · have hi : i < s.H.length := by have := HN.out.1; omega
      obtain ⟨-, b1, p1, e1, x1⟩ := HRr.out.nmi hi
      obtain ⟨hib, b2, p2, e2, x2⟩ := HRr.out.sti hi
      obtain ⟨hic, b3, p3, e3, x3⟩ := HRr.out.lvi hi
      obtain rfl : aa = some ⟨b1, p1, none⟩ := e1
      obtain rfl : ba = some ⟨b2, p2, none⟩ := e2
      obtain rfl : ca = some ⟨b3, p3, none⟩ := e3
      dsimp only at hib hic
      have hib' : (i : Int) < (bn : Int) := by omega
      have hic' : (i : Int) < (cn : Int) := by omega
      have hia' : (i : Int) < (an : Int) := by omega
      by_cases hq : (i : Int) = i0
      · have hq' : ((i : Int) != i0) = false := by simp [hq]
        have HRE : Hid (rmH (s.H.take (i + 1)) i0 = rmH (s.H.take i) i0) := rmH_hit hi hq
        clear hq hi hq2 hOr hkr x1 x2 x3
        go_wp2
        refine ⟨⟨i + 1, k1, k2, k3, by simp, by omega, ?_, HKr.out⟩, by simp [intOf]; omega⟩
        rw [HRE.out]
        exact HO.out
      · have hq' : ((i : Int) != i0) = true := by simp [hq]
        have HRE : Hid (rmH (s.H.take (i + 1)) i0 = rmH (s.H.take i) i0 ++ [atH s.H i]) := rmH_miss hi hq
        have hRl : (rmH (s.H.take i) i0).length ≤ 4000 := Nat.le_trans (rmH_len _ _) (by simp; omega)
        obtain ⟨X, hX⟩ : ∃ X, X = (atH s.H i).nm := ⟨_, rfl⟩
        obtain ⟨Y, hY⟩ : ∃ Y, Y = (atH s.H i).st := ⟨_, rfl⟩
        obtain ⟨Z, hZ⟩ : ∃ Z, Z = (atH s.H i).lv := ⟨_, rfl⟩
        rw [← hX] at x1
        rw [← hY] at x2
        rw [← hZ] at x3
        have HXYZ : Hid (X = (atH s.H i).nm ∧ Y = (atH s.H i).st ∧ Z = (atH s.H i).lv) := ⟨hX, hY, hZ⟩
        generalize hRR : rmH (s.H.take i) i0 = R at *
        have hRn : R.length ≤ 4000 := hRl
        have HI := Hid.mk' hi
        have HHO : Hid (OF wr (w.heap.size + 3) (w.heap.size + 2) e gd k1 k2 k3 (.slice x.a x.n x.c) (.slice y.a y.n y.c) (.slice z.a z.n z.c) R.length R.length R.length (sc (hn R)) (ic (hz R)) (bc (hl R))) := HO.out
        have hsr : w.heap.size + 3 ≤ wr.heap.size := Nat.le_trans HS5.out HKr.out.size
        have HRR := Hid.mk' hRR
        clear hX hY hZ hq hi hq2 hOr hkr hRR hRl HO
        generalize hg1 : sc (hn R) = l1 at *
        generalize hg2 : ic (hz R) = l2 at *
        generalize hg3 : bc (hl R) = l3 at *
        generalize hg4 : R.length = N at *
        have HL : Hid (sc (hn R) = l1 ∧ ic (hz R) = l2 ∧ bc (hl R) = l3 ∧ R.length = N) := ⟨hg1, hg2, hg3, hg4⟩
        clear hg1 hg2 hg3 hg4
        have d1 := HHO.out.cell1
        have d1a : (wr.alloc (.cells #[.string X] 9)).cell? ⟨w.heap.size + 2, 2, none⟩ = some k1 := (((Keep.refl (fun _ => True) wr).alloc _).cell (a := ⟨w.heap.size + 2, 2, none⟩) d1 trivial)
        go_upto_region 9 with fail
        go_cut [] from 26 to 35 (fun wx => ∃ k1' : Value, OF wx (w.heap.size + 3) (w.heap.size + 2) e gd k1' k2 k3 (.slice x.a x.n x.c) (.slice y.a y.n y.c) (.slice z.a z.n z.c) (N + 1) N N (l1 ++ [.string X]) l2 l3 ∧ Keep (fun k => k < w.heap.size + 3 ∧ k ≠ w.heap.size + 2) wr wx)
        case first =>
          go_region_law ((refine step_str1 rfl _ _ rfl (w.heap.size + 3) k1 N l1 X rfl wr HHO.out.o1 rfl ((Keep.refl _ wr).alloc _).drew (heap_alloc_new _ _) (by omega) (by omega) ?_; intro gg cp w3 hown3 hgrow hat; have hmid := HHO.out.mid1 ((Keep.refl _ wr).alloc _).drew hgrow; have d3 := hmid.1; have f3 := hmid.2))
          all_goals (
            go_wp2
            go_meet
            obtain ⟨q1, q2⟩ := HHO.out.push1 ((Keep.refl _ wr).alloc _).drew hgrow hown3 hat
            exact ⟨_, q1, q2⟩)
        case rest =>
          obtain ⟨k1', hO1, hK1⟩ := hcut
          have HO1 := Hid.mk' hO1
          have HK1 := Hid.mk' (HKr.out.trans hK1)
          clear d1 d1a x1 x2 x3 c0 c1 c2 c3 c4 c5 c6 c7 hO1 hK1 HHO HRr hsr
          have hq2 := (HK1.out.block w.heap.size (by have := HS5.out; omega) (by omega)).trans HG2.out
          obtain ⟨c0, c1, c2, c3, c4, c5, c6, c7⟩ := blk8 hq2
          have HRc := Hid.mk' (HR5.out.keep HK1.out (fun k hk => by have := hG k hk; omega))
          obtain ⟨x2, -, -⟩ := HRc.out.stk HI.out
          obtain ⟨x3, -, -⟩ := HRc.out.lvk HI.out
          rw [← HXYZ.out.2.1] at x2
          rw [← HXYZ.out.2.2] at x3
          have hsr : w.heap.size + 3 ≤ wc.heap.size := Nat.le_trans HS5.out HK1.out.size
          clear hq2
          have d1 := HO1.out.cell2
          have d1a : (wc.alloc (.cells #[.int .i64 Y] 3)).cell? ⟨w.heap.size + 2, 3, none⟩ = some k2 := (((Keep.refl (fun _ => True) wc).alloc _).cell (a := ⟨w.heap.size + 2, 3, none⟩) d1 trivial)
          go_upto_region 10 with fail
          go_cut [] from 36 to 45 (fun wx => ∃ k2' : Value, OF wx (w.heap.size + 3) (w.heap.size + 2) e gd k1' k2' k3 (.slice x.a x.n x.c) (.slice y.a y.n y.c) (.slice z.a z.n z.c) (N + 1) (N + 1) N (l1 ++ [.string X]) (l2 ++ [.int .i64 Y]) l3 ∧ Keep (fun k => k < w.heap.size + 3 ∧ k ≠ w.heap.size + 2) w5 wx)
          case first =>
            go_region_law ((refine step_int1 rfl _ _ rfl (w.heap.size + 3) k2 N l2 Y rfl wc HO1.out.o2 rfl ((Keep.refl _ wc).alloc _).drew (heap_alloc_new _ _) (by omega) (by omega) ?_; intro gg cp w3 hown3 hgrow hat; have hmid := HO1.out.mid2 ((Keep.refl _ wc).alloc _).drew hgrow; have d3 := hmid.1; have f3 := hmid.2))
            all_goals (
              go_wp2
              go_meet
              obtain ⟨q1, q2⟩ := HO1.out.push2 ((Keep.refl _ wc).alloc _).drew hgrow hown3 hat
              exact ⟨_, q1, HK1.out.trans q2⟩)
          case rest =>
            obtain ⟨k2', hO2, hK2⟩ := hcut
            have HO2 := Hid.mk' hO2
            have HK2 := Hid.mk' hK2
            clear d1 d1a x2 x3 c0 c1 c2 c3 c4 c5 c6 c7 hO2 hK2 HO1 HRc hsr HK1
            have hq2 := (HK2.out.block w.heap.size (by have := HS5.out; omega) (by omega)).trans HG2.out
            obtain ⟨c0, c1, c2, c3, c4, c5, c6, c7⟩ := blk8 hq2
            have HRc := Hid.mk' (HR5.out.keep HK2.out (fun k hk => by have := hG k hk; omega))
            obtain ⟨x2, -, -⟩ := HRc.out.stk HI.out
            obtain ⟨x3, -, -⟩ := HRc.out.lvk HI.out
            rw [← HXYZ.out.2.1] at x2
            rw [← HXYZ.out.2.2] at x3
            have hsr : w.heap.size + 3 ≤ wc.heap.size := Nat.le_trans HS5.out HK2.out.size
            clear hq2
            have d1 := HO2.out.cell3
            have d1a : (wc.alloc (.cells #[.bool Z] 4)).cell? ⟨w.heap.size + 2, 4, none⟩ = some k3 := (((Keep.refl (fun _ => True) wc).alloc _).cell (a := ⟨w.heap.size + 2, 4, none⟩) d1 trivial)
            go_upto_region 11 with fail
            go_region_law ((refine step_flag1 rfl _ _ rfl (w.heap.size + 3) k3 N l3 Z rfl wc HO2.out.o3 rfl ((Keep.refl _ wc).alloc _).drew (heap_alloc_new _ _) (by omega) (by omega) ?_; intro gg cp w3 hown3 hgrow hat; have hmid := HO2.out.mid3 ((Keep.refl _ wc).alloc _).drew hgrow; have d3 := hmid.1; have f3 := hmid.2))
            all_goals (
              go_wp2
              obtain ⟨q1, q2⟩ := HO2.out.push3 ((Keep.refl _ wc).alloc _).drew hgrow hown3 hat
              obtain ⟨rfl, rfl, rfl, rfl⟩ := HL.out
              refine ⟨⟨i + 1, k1', k2', .slice (some ⟨gg, 0, none⟩) (R.length + 1) cp, by simp, by omega, ?_, HK2.out.trans q2⟩, by simp [intOf]; omega⟩
              rw [HXYZ.out.1, HXYZ.out.2.1, HXYZ.out.2.2] at q1
              rw [HRE.out]
              exact OH.next q1)
    · obtain rfl : an = i := by omega
      have e9 : s.H.take an = s.H := by rw [HN.out.1]; exact List.take_length
      rw [e9] at HO
      obtain ⟨a', b', c', rfl, rfl, rfl, hown, q1, q2, q3, hbk⟩ := HO.out.own
      have hbr : Below w.heap.size w5 wr := ⟨hkr.os, hkr.tape, hkr.output, hkr.size, fun k hk => hkr.block k (by have := HS5.out; omega) (by omega)⟩
      have hq4 := (hkr.block (w.heap.size + 1) (by have := HS5.out; omega) (by omega)).trans HG4.out
      have hq5 := HO.out.blk
      have HQr : Hid (Bo w wr e gd ⟨aa, an, ak⟩ ⟨ba, bn, bq⟩ ⟨ca, cn, ck⟩ x y z) := ⟨HB5.out.trans hbr, by have := HS5.out; have := hkr.size; omega, hq2, hq4⟩
      have HRn : Hid (RL6 wr (nq A (w.heap.size + 2) wr) a' b' c' x y z ⟨rmH s.H i0, s.L, s.M⟩) := ⟨q1, q2, q3, HRr.out.dr, fun k hk => .inr ⟨by have := hbk k hk; omega, (hbk k hk).2⟩, fun k hk => .inl (HRr.out.bd k hk)⟩
      have HOW := Hid.mk' hown
      obtain ⟨k0, k1, k2, k3, k4, k5, k6, k7⟩ := blk8 hq5
      obtain ⟨d0, d1, d2, d3, d4, d5, d6, d7⟩ := blk8 hq4
      have f0 := fz8 hq4 0
      have f1 := fz8 hq4 1
      have f2 := fz8 hq4 2
      have f3 := fz8 hq4 3
      have f4 := fz8 hq4 4
      have f5 := fz8 hq4 5
      have f6 := fz8 hq4 6
      have f7 := fz8 hq4 7
      clear hown q1 q2 q3 hbk hq2 hOr hkr e9 hq5 hc HO hbr hq4 hi1
      go_wp2
      have hb8 := HQr.out.res hG HRn.out
      obtain ⟨g8, h8, hb8⟩ := hb8
      have ho8 := (HOW.out.mono (base' := w.heap.size + 2) (by omega)).fin (w.heap.size + 1) (by omega) (.int .i64 e) (.int .i64 gd) (.slice a'.a a'.n a'.c) (.slice b'.a b'.n b'.c) (.slice c'.a c'.n c'.c) (.slice x.a x.n x.c) (.slice y.a y.n y.c) (.slice z.a z.n z.c)
      clear d0 d1 d2 d3 d4 d5 d6 d7 f0 f1 f2 f3 f4 f5 f6 f7 k0 k1 k2 k3 k4 k5 k6 k7
      generalize ((((((((wr.setCell _ _).setCell _ _).setCell _ _).setCell _ _).setCell _ _).setCell _ _).setCell _ _).setCell _ _) = w8 at *
      obtain ⟨d0, d1, d2, d3, d4, d5, d6, d7⟩ := blk8 g8
      refine bodyPost_ret (v := .agg #[.int .i64 e, .int .i64 gd, .slice a'.a a'.n a'.c, .slice b'.a b'.n b'.c, .slice c'.a c'.n c'.c, .slice x.a x.n x.c, .slice y.a y.n y.c, .slice z.a z.n z.c]) (by simp [results, Tryd.results68, go_sem, d0, d1, d2, d3, d4, d5, d6, d7]) rfl ?_
      exact ⟨a', b', c', rfl, h8, ho8.mono (by omega), hb8⟩
end Go.Proofs.YtmlkpfkeeifgeaaDoor
namespace Go.Proofs.YtmlkpfkeeifgeaaDoor
open Go.ChangeShapes Go.WideShapes Go.ChangeAt Go.RowKit Go.Joins Go.Deep

theorem putV {H : List Hs} {i : Nat} (h : i < H.length) (u : Int) : setV (setS H i u) i true = putH H i u true := by
  have e1 : atH (setS H i u) i = ⟨(atH H i).nm, u, (atH H i).lv⟩ := by
    unfold setS atH
    simp [List.getD, h]
  unfold setV
  rw [e1]
  unfold setS putH
  rw [List.set_set]
theorem rlv_eq {q : ByteArray} {d : Int} {s : Fl} {L1 M1 : List Dr} (hL : L1 = if isIn q s.L = true then wo q s.L else s.L) (hM : M1 = if isIn q s.L = true then wo q s.M else s.M) (h1 : isH q s.H = true) :
    ((ofN q s.H).st = 3 → rlv d s q = ⟨rmH s.H (plN q s.H : Nat), L1, M1⟩) ∧
    (¬ (ofN q s.H).st = 3 → St.did (ofN q s.H).st 5 = true → rlv d s q = ⟨putH s.H (plN q s.H) (St.nx (ofN q s.H).st 5) true, begL q L1 M1, begM q d M1⟩) ∧
    (¬ (ofN q s.H).st = 3 → St.did (ofN q s.H).st 5 = false → rlv d s q = ⟨putH s.H (plN q s.H) (St.nx (ofN q s.H).st 5) true, L1, M1⟩) := by
  subst hL hM
  refine ⟨fun h3 => ?_, fun h3 hd => ?_, fun h3 hd => ?_⟩
  · unfold rlv
    dsimp only
    rw [if_pos h3, rmH_yes]
  · unfold rlv
    dsimp only
    rw [if_neg h3, if_pos hd]
    unfold tnH
    rw [putV (pl_yes h1).2]
    rfl
  · unfold rlv
    dsimp only
    rw [if_neg h3, if_neg (by rw [hd]; simp)]
    unfold tnH
    rw [putV (pl_yes h1).2]
    rfl
set_option maxHeartbeats 4000000 in
set_option maxRecDepth 100000 in
theorem rleave_f {w : World} {A : Nat → Prop} {e gd : Int} {a b c x y z : Sl} {s : Fl} (q : ByteArray) (d : Int) (h : RL6 w A a b c x y z s) (hG : ∀ k, A k → k < w.heap.size) (hq : q.size ≤ maxLen) (hisH : isH q s.H = true) (hlen : s.H.length ≤ 4000) (hl : s.L.length ≤ 3500) (hm : s.M.length ≤ 3500) :
    Calls Tryd.prog 67 #[.agg #[.int .i64 e, .int .i64 gd, .slice a.a a.n a.c, .slice b.a b.n b.c, .slice c.a c.n c.c, .slice x.a x.n x.c, .slice y.a y.n y.c, .slice z.a z.n z.c], .string q, .int .i64 d] w fun o w' => ∃ v, o = .returned v ∧ RP w w' A e gd (rlv d s q) v := by
  have hpl := pl_yes hisH
  obtain ⟨i, hi0⟩ : ∃ i, i = plN q s.H := ⟨_, rfl⟩
  rw [← hi0] at hpl
  have hi := hpl.2
  obtain ⟨ba, bn, bk⟩ := b
  obtain ⟨ca, cn, ck⟩ := c
  obtain ⟨-, q2, p2, e2, -⟩ := h.sti hi
  obtain ⟨-, r2, p3, e3, -⟩ := h.lvi hi
  obtain rfl : ba = some ⟨q2, p2, none⟩ := e2
  obtain rfl : ca = some ⟨r2, p3, none⟩ := e3
  dsimp only
  obtain ⟨t, ht⟩ : ∃ t, t = (atH s.H i).st := ⟨_, rfl⟩
  obtain ⟨v, hv⟩ : ∃ v, v = (atH s.H i).lv := ⟨_, rfl⟩
  have HT : Hid (t = (atH s.H i).st ∧ v = (atH s.H i).lv ∧ i = plN q s.H ∧ i < s.H.length ∧ isH q s.H = true) := ⟨ht, hv, hi0, hi, hisH⟩
  clear ht hv
  obtain ⟨w1, hw1⟩ : ∃ w1, w1 = (w.alloc (.cells #[.int .i64 e, .int .i64 gd, .slice a.a a.n a.c, .slice (some ⟨q2, p2, none⟩)  bn  bk, .slice (some ⟨r2, p3, none⟩)  cn  ck, .slice x.a x.n x.c, .slice y.a y.n y.c, .slice z.a z.n z.c] 33)).alloc (.cells #[.int .i64 0, .int .i64 0, .slice none 0 0, .slice none 0 0, .slice none 0 0, .slice none 0 0, .slice none 0 0, .slice none 0 0] 33) := ⟨_, rfl⟩
  have HQ : Hid (Bo w w1 e gd a ⟨some ⟨q2, p2, none⟩, bn, bk⟩ ⟨some ⟨r2, p3, none⟩, cn, ck⟩ x y z) := by rw [hw1]; exact Bo.start w e gd a ⟨some ⟨q2, p2, none⟩, bn, bk⟩ ⟨some ⟨r2, p3, none⟩, cn, ck⟩ x y z
  have HR : Hid (RL6 w1 (nq A (w.heap.size + 2) w1) a ⟨some ⟨q2, p2, none⟩, bn, bk⟩ ⟨some ⟨r2, p3, none⟩, cn, ck⟩ x y z s) := h.nq1 HQ.out.hb
  have hsz := HQ.out.sz
  have HAT := Hid.mk' (rat_x e gd HR.out q)
  rw [hpl.1] at HAT
  have hq2 : w1.heap[w.heap.size]? = some (.cells #[.int .i64 e, .int .i64 gd, .slice a.a a.n a.c, .slice (some ⟨q2, p2, none⟩)  bn  bk, .slice (some ⟨r2, p3, none⟩)  cn  ck, .slice x.a x.n x.c, .slice y.a y.n y.c, .slice z.a z.n z.c] 33 (0, 0)) := HQ.out.g2
  obtain ⟨c0, c1, c2, c3, c4, c5, c6, c7⟩ := blk8 hq2
  clear hq2
  clear h
  go_enter Tryd.func67, Tryd.ntmps67
  go_upto_region 1 with fail
  rw [← hw1]
  clear hw1
  clear hpl hi0 hisH
  go_upto_region 2 with (go_at_call 50; refine HAT.out.mono ?_; rintro o w4 ⟨rfl, hb4⟩)
  have HQ4 : Hid (Bo w w4 e gd a ⟨some ⟨q2, p2, none⟩, bn, bk⟩ ⟨some ⟨r2, p3, none⟩, cn, ck⟩ x y z) := HQ.out.call hb4
  have HR4 := Hid.mk' (HR.out.nqb hb4)
  clear c0 c1 c2 c3 c4 c5 c6 c7
  have hq2 : w4.heap[w.heap.size]? = some (.cells #[.int .i64 e, .int .i64 gd, .slice a.a a.n a.c, .slice (some ⟨q2, p2, none⟩)  bn  bk, .slice (some ⟨r2, p3, none⟩)  cn  ck, .slice x.a x.n x.c, .slice y.a y.n y.c, .slice z.a z.n z.c] 33 (0, 0)) := HQ4.out.g2
  obtain ⟨c0, c1, c2, c3, c4, c5, c6, c7⟩ := blk8 hq2
  clear hq2
  obtain ⟨x2, hin2, hib2⟩ := HR4.out.stk HT.out.2.2.2.1
  obtain ⟨x3, hin3, hib3⟩ := HR4.out.lvk HT.out.2.2.2.1
  rw [← HT.out.1] at x2
  rw [← HT.out.2.1] at x3
  have hlv : (ofN q s.H).lv = v := by show (atH s.H (plN q s.H)).lv = v; rw [← HT.out.2.2.1]; exact HT.out.2.1.symm
  have hst : (ofN q s.H).st = t := by show (atH s.H (plN q s.H)).st = t; rw [← HT.out.2.2.1]; exact HT.out.1.symm
  have HLS : Hid ((ofN q s.H).lv = v ∧ (ofN q s.H).st = t) := ⟨hlv, hst⟩
  clear hlv hst
  have HG4 : Hid (∀ k, nq A (w.heap.size + 2) w4 k → k < w4.heap.size) := fun _ hk => nq_lt hG HQ4.out.hb.size hk
  obtain ⟨L1, hL1⟩ : ∃ L1, L1 = if isIn q s.L = true then wo q s.L else s.L := ⟨_, rfl⟩
  obtain ⟨M1, hM1⟩ : ∃ M1, M1 = if isIn q s.L = true then wo q s.M else s.M := ⟨_, rfl⟩
  have HRL := Hid.mk' (rlv_eq (d := d) hL1 hM1 HT.out.2.2.2.2)
  rw [HLS.out.2, ← HT.out.2.2.1] at HRL
  have hl1 : L1.length ≤ 3500 := by
    rw [hL1]
    split
    · exact Nat.le_trans (wo_len _ _) hl
    · exact hl
  have hm1 : M1.length ≤ 3500 := by
    rw [hM1]
    split
    · exact Nat.le_trans (wo_len _ _) hm
    · exact hm
  have HP := Hid.mk' (rplace_x HR4.out q)
  have HLM : Hid (L1 = (if isIn q s.L = true then wo q s.L else s.L) ∧ M1 = (if isIn q s.L = true then wo q s.M else s.M)) := ⟨hL1, hM1⟩
  clear hL1 hM1
  cases hk : isIn q s.L with
  | true =>
    rw [plc_mem (isIn_iff.1 hk)] at HP
    generalize fidx q (nms s.L) = k at *
    have e1 : L1 = wo q s.L := HLM.out.1.trans (if_pos hk)
    have e2 : M1 = wo q s.M := HLM.out.2.trans (if_pos hk)
    subst e1 e2
    clear hk HLM
    go_upto_region 4 with (first
      | (go_at_call 49; refine HP.out.mono ?_; rintro o w5 ⟨rfl, hw5⟩; have hw5 := hw5.symm; subst hw5)
      | (go_at_call 70; refine (rend_x q HR4.out HG4.out hl hm).mono ?_; rintro o w5 ⟨x', y', z', rfl, h5, hb5⟩; have HQ5 := Hid.mk' (HQ4.out.call hb5); have hq2 : w5.heap[w.heap.size]? = some (.cells #[.int .i64 e, .int .i64 gd, .slice a.a a.n a.c, .slice (some ⟨q2, p2, none⟩)  bn  bk, .slice (some ⟨r2, p3, none⟩)  cn  ck, .slice x.a x.n x.c, .slice y.a y.n y.c, .slice z.a z.n z.c] 33 (0, 0)) := HQ5.out.g2; obtain ⟨c0, c1, c2, c3, c4, c5, c6, c7⟩ := blk8 hq2; have z0 := fz8 hq2 0; have z1 := fz8 hq2 1; have z2 := fz8 hq2 2; have z3 := fz8 hq2 3; have z4 := fz8 hq2 4; have z5 := fz8 hq2 5; have z6 := fz8 hq2 6; have z7 := fz8 hq2 7; clear hq2))
    have HR5 := Hid.mk' (h5.nqc HQ4.out.sz hb5.size)
    have HQg : Hid (Bo w ((((((((w5.setCell ⟨w.heap.size, 0, none⟩ (.int .i64 e)).setCell ⟨w.heap.size, 1, none⟩ (.int .i64 gd)).setCell ⟨w.heap.size, 2, none⟩ (.slice a.a a.n a.c)).setCell ⟨w.heap.size, 3, none⟩ (.slice (some ⟨q2, p2, none⟩)  bn  bk)).setCell ⟨w.heap.size, 4, none⟩ (.slice (some ⟨r2, p3, none⟩)  cn  ck)).setCell ⟨w.heap.size, 5, none⟩ (.slice x'.a x'.n x'.c)).setCell ⟨w.heap.size, 6, none⟩ (.slice y'.a y'.n y'.c)).setCell ⟨w.heap.size, 7, none⟩ (.slice z'.a z'.n z'.c)) e gd a ⟨some ⟨q2, p2, none⟩, bn, bk⟩ ⟨some ⟨r2, p3, none⟩, cn, ck⟩ x' y' z') := HQ5.out.store a ⟨some ⟨q2, p2, none⟩, bn, bk⟩ ⟨some ⟨r2, p3, none⟩, cn, ck⟩ x' y' z'
    have HRg : Hid (RL6 ((((((((w5.setCell ⟨w.heap.size, 0, none⟩ (.int .i64 e)).setCell ⟨w.heap.size, 1, none⟩ (.int .i64 gd)).setCell ⟨w.heap.size, 2, none⟩ (.slice a.a a.n a.c)).setCell ⟨w.heap.size, 3, none⟩ (.slice (some ⟨q2, p2, none⟩)  bn  bk)).setCell ⟨w.heap.size, 4, none⟩ (.slice (some ⟨r2, p3, none⟩)  cn  ck)).setCell ⟨w.heap.size, 5, none⟩ (.slice x'.a x'.n x'.c)).setCell ⟨w.heap.size, 6, none⟩ (.slice y'.a y'.n y'.c)).setCell ⟨w.heap.size, 7, none⟩ (.slice z'.a z'.n z'.c)) (nq A (w.heap.size + 2) ((((((((w5.setCell ⟨w.heap.size, 0, none⟩ (.int .i64 e)).setCell ⟨w.heap.size, 1, none⟩ (.int .i64 gd)).setCell ⟨w.heap.size, 2, none⟩ (.slice a.a a.n a.c)).setCell ⟨w.heap.size, 3, none⟩ (.slice (some ⟨q2, p2, none⟩)  bn  bk)).setCell ⟨w.heap.size, 4, none⟩ (.slice (some ⟨r2, p3, none⟩)  cn  ck)).setCell ⟨w.heap.size, 5, none⟩ (.slice x'.a x'.n x'.c)).setCell ⟨w.heap.size, 6, none⟩ (.slice y'.a y'.n y'.c)).setCell ⟨w.heap.size, 7, none⟩ (.slice z'.a z'.n z'.c))) a ⟨some ⟨q2, p2, none⟩, bn, bk⟩ ⟨some ⟨r2, p3, none⟩, cn, ck⟩ x' y' z' ⟨s.H, wo q s.L, wo q s.M⟩) := HR5.out.st8 hG
    clear c0 c1 c2 c3 c4 c5 c6 c7 z0 z1 z2 z3 z4 z5 z6 z7 x2 x3 h5 hin2 hib2 hin3 hib3
    generalize ((((((((w5.setCell ⟨w.heap.size, 0, none⟩ (.int .i64 e)).setCell ⟨w.heap.size, 1, none⟩ (.int .i64 gd)).setCell ⟨w.heap.size, 2, none⟩ (.slice a.a a.n a.c)).setCell ⟨w.heap.size, 3, none⟩ (.slice (some ⟨q2, p2, none⟩)  bn  bk)).setCell ⟨w.heap.size, 4, none⟩ (.slice (some ⟨r2, p3, none⟩)  cn  ck)).setCell ⟨w.heap.size, 5, none⟩ (.slice x'.a x'.n x'.c)).setCell ⟨w.heap.size, 6, none⟩ (.slice y'.a y'.n y'.c)).setCell ⟨w.heap.size, 7, none⟩ (.slice z'.a z'.n z'.c)) = wg at *
    have hq2 : wg.heap[w.heap.size]? = some (.cells #[.int .i64 e, .int .i64 gd, .slice a.a a.n a.c, .slice (some ⟨q2, p2, none⟩)  bn  bk, .slice (some ⟨r2, p3, none⟩)  cn  ck, .slice x'.a x'.n x'.c, .slice y'.a y'.n y'.c, .slice z'.a z'.n z'.c] 33 (0, 0)) := HQg.out.g2
    obtain ⟨c0, c1, c2, c3, c4, c5, c6, c7⟩ := blk8 hq2
    clear hq2
    have HGc : Hid (∀ k, nq A (w.heap.size + 2) wg k → k < wg.heap.size) := fun _ hk => nq_lt hG HQg.out.hb.size hk
    obtain ⟨x2, hin2, hib2⟩ := HRg.out.stk (i := i) HT.out.2.2.2.1
    try dsimp only at x2
    rw [← HT.out.1] at x2
    by_cases h3 : t = 3
    · have HE := Hid.mk' (HRL.out.1 h3)
      subst h3
      go_wp2_with (go_at_call 68; refine (rcut_f HRg.out HGc.out (i : Int) hlen).mono ?_; rintro o w7 ⟨a', b', c', rfl, h7, -, hb7⟩; have HQ7 := Hid.mk' (HQg.out.call hb7); have hq4 : w7.heap[w.heap.size + 1]? = some (.cells #[.int .i64 0, .int .i64 0, .slice none 0 0, .slice none 0 0, .slice none 0 0, .slice none 0 0, .slice none 0 0, .slice none 0 0] 33 (0, 0)) := HQ7.out.g4; obtain ⟨d0, d1, d2, d3, d4, d5, d6, d7⟩ := blk8 hq4; have f0 := fz8 hq4 0; have f1 := fz8 hq4 1; have f2 := fz8 hq4 2; have f3 := fz8 hq4 3; have f4 := fz8 hq4 4; have f5 := fz8 hq4 5; have f6 := fz8 hq4 6; have f7 := fz8 hq4 7; clear hq4)
      have HR7 := Hid.mk' (h7.nqc HQg.out.sz hb7.size)
      obtain ⟨g8, h8, hb8⟩ := HQ7.out.res hG HR7.out
      try dsimp only at g8 h8 hb8
      clear d0 d1 d2 d3 d4 d5 d6 d7 f0 f1 f2 f3 f4 f5 f6 f7
      generalize ((((((((w7.setCell _ _).setCell _ _).setCell _ _).setCell _ _).setCell _ _).setCell _ _).setCell _ _).setCell _ _) = w8 at *
      obtain ⟨d0, d1, d2, d3, d4, d5, d6, d7⟩ := blk8 g8
      refine bodyPost_ret (v := .agg #[.int .i64 e, .int .i64 gd, .slice a'.a a'.n a'.c, .slice b'.a b'.n b'.c, .slice c'.a c'.n c'.c, .slice x'.a x'.n x'.c, .slice y'.a y'.n y'.c, .slice z'.a z'.n z'.c]) (by simp [results, Tryd.results67, go_sem, d0, d1, d2, d3, d4, d5, d6, d7]) rfl ?_
      rw [HE.out]
      exact ⟨_, rfl, a', b', c', x', y', z', rfl, h8, hb8⟩
    · have k3 : (t == 3) = false := by simp [h3]
      have HN := Hid.mk' (St.rnext_any t 5 wg)
      have HE2 := Hid.mk' (HRL.out.2.1 h3)
      have HE3 := Hid.mk' (HRL.out.2.2 h3)
      generalize St.nx t 5 = u at *
      clear HRL h3
      go_upto_region 8 with (first
        | (go_at_call 69; refine HN.out.mono ?_; rintro o w5 ⟨rfl, hw5⟩; have hw5 := hw5.symm; subst hw5)
        | (go_at_call 71; refine (rput_f HRg.out HGc.out i HT.out.2.2.2.1 hlen u true).mono ?_; rintro o w6 ⟨b', c', rfl, h6, hb6⟩; have HQ6 := Hid.mk' (HQg.out.call hb6); have hq2 : w6.heap[w.heap.size]? = some (.cells #[.int .i64 e, .int .i64 gd, .slice a.a a.n a.c, .slice (some ⟨q2, p2, none⟩)  bn  bk, .slice (some ⟨r2, p3, none⟩)  cn  ck, .slice x'.a x'.n x'.c, .slice y'.a y'.n y'.c, .slice z'.a z'.n z'.c] 33 (0, 0)) := HQ6.out.g2; obtain ⟨c0, c1, c2, c3, c4, c5, c6, c7⟩ := blk8 hq2; have z0 := fz8 hq2 0; have z1 := fz8 hq2 1; have z2 := fz8 hq2 2; have z3 := fz8 hq2 3; have z4 := fz8 hq2 4; have z5 := fz8 hq2 5; have z6 := fz8 hq2 6; have z7 := fz8 hq2 7; clear hq2))
      have HR6 := Hid.mk' (h6.nqc HQg.out.sz hb6.size)
      have HQ7 : Hid (Bo w ((((((((w6.setCell ⟨w.heap.size, 0, none⟩ (.int .i64 e)).setCell ⟨w.heap.size, 1, none⟩ (.int .i64 gd)).setCell ⟨w.heap.size, 2, none⟩ (.slice a.a a.n a.c)).setCell ⟨w.heap.size, 3, none⟩ (.slice b'.a b'.n b'.c)).setCell ⟨w.heap.size, 4, none⟩ (.slice c'.a c'.n c'.c)).setCell ⟨w.heap.size, 5, none⟩ (.slice x'.a x'.n x'.c)).setCell ⟨w.heap.size, 6, none⟩ (.slice y'.a y'.n y'.c)).setCell ⟨w.heap.size, 7, none⟩ (.slice z'.a z'.n z'.c)) e gd a b' c' x' y' z') := HQ6.out.store a b' c' x' y' z'
      have HR7 : Hid (RL6 ((((((((w6.setCell ⟨w.heap.size, 0, none⟩ (.int .i64 e)).setCell ⟨w.heap.size, 1, none⟩ (.int .i64 gd)).setCell ⟨w.heap.size, 2, none⟩ (.slice a.a a.n a.c)).setCell ⟨w.heap.size, 3, none⟩ (.slice b'.a b'.n b'.c)).setCell ⟨w.heap.size, 4, none⟩ (.slice c'.a c'.n c'.c)).setCell ⟨w.heap.size, 5, none⟩ (.slice x'.a x'.n x'.c)).setCell ⟨w.heap.size, 6, none⟩ (.slice y'.a y'.n y'.c)).setCell ⟨w.heap.size, 7, none⟩ (.slice z'.a z'.n z'.c)) (nq A (w.heap.size + 2) ((((((((w6.setCell ⟨w.heap.size, 0, none⟩ (.int .i64 e)).setCell ⟨w.heap.size, 1, none⟩ (.int .i64 gd)).setCell ⟨w.heap.size, 2, none⟩ (.slice a.a a.n a.c)).setCell ⟨w.heap.size, 3, none⟩ (.slice b'.a b'.n b'.c)).setCell ⟨w.heap.size, 4, none⟩ (.slice c'.a c'.n c'.c)).setCell ⟨w.heap.size, 5, none⟩ (.slice x'.a x'.n x'.c)).setCell ⟨w.heap.size, 6, none⟩ (.slice y'.a y'.n y'.c)).setCell ⟨w.heap.size, 7, none⟩ (.slice z'.a z'.n z'.c))) a b' c' x' y' z' ⟨putH s.H i u true, (wo q s.L), (wo q s.M)⟩) := HR6.out.st8 hG
      clear c0 c1 c2 c3 c4 c5 c6 c7 z0 z1 z2 z3 z4 z5 z6 z7 x2 h6
      generalize ((((((((w6.setCell ⟨w.heap.size, 0, none⟩ (.int .i64 e)).setCell ⟨w.heap.size, 1, none⟩ (.int .i64 gd)).setCell ⟨w.heap.size, 2, none⟩ (.slice a.a a.n a.c)).setCell ⟨w.heap.size, 3, none⟩ (.slice b'.a b'.n b'.c)).setCell ⟨w.heap.size, 4, none⟩ (.slice c'.a c'.n c'.c)).setCell ⟨w.heap.size, 5, none⟩ (.slice x'.a x'.n x'.c)).setCell ⟨w.heap.size, 6, none⟩ (.slice y'.a y'.n y'.c)).setCell ⟨w.heap.size, 7, none⟩ (.slice z'.a z'.n z'.c)) = w7 at *
      have hq2 : w7.heap[w.heap.size]? = some (.cells #[.int .i64 e, .int .i64 gd, .slice a.a a.n a.c, .slice b'.a b'.n b'.c, .slice c'.a c'.n c'.c, .slice x'.a x'.n x'.c, .slice y'.a y'.n y'.c, .slice z'.a z'.n z'.c] 33 (0, 0)) := HQ7.out.g2
      obtain ⟨c0, c1, c2, c3, c4, c5, c6, c7⟩ := blk8 hq2
      clear hq2
      have HG7 : Hid (∀ k, nq A (w.heap.size + 2) w7 k → k < w7.heap.size) := fun _ hk => nq_lt hG HQ7.out.hb.size hk
      cases hd : St.did t 5 with
      | false =>
        have HE := Hid.mk' (HE3.out hd)
        clear HE2 HE3
        rw [hd] at HN
        have hq4 : w7.heap[w.heap.size + 1]? = some (.cells #[.int .i64 0, .int .i64 0, .slice none 0 0, .slice none 0 0, .slice none 0 0, .slice none 0 0, .slice none 0 0, .slice none 0 0] 33 (0, 0)) := HQ7.out.g4
        obtain ⟨d0, d1, d2, d3, d4, d5, d6, d7⟩ := blk8 hq4
        have f0 := fz8 hq4 0
        have f1 := fz8 hq4 1
        have f2 := fz8 hq4 2
        have f3 := fz8 hq4 3
        have f4 := fz8 hq4 4
        have f5 := fz8 hq4 5
        have f6 := fz8 hq4 6
        have f7 := fz8 hq4 7
        clear hq4
        go_wp2
        obtain ⟨g8, h8, hb8⟩ := HQ7.out.res hG HR7.out
        try dsimp only at g8 h8 hb8
        clear d0 d1 d2 d3 d4 d5 d6 d7 f0 f1 f2 f3 f4 f5 f6 f7
        generalize ((((((((w7.setCell _ _).setCell _ _).setCell _ _).setCell _ _).setCell _ _).setCell _ _).setCell _ _).setCell _ _) = w8 at *
        obtain ⟨d0, d1, d2, d3, d4, d5, d6, d7⟩ := blk8 g8
        refine bodyPost_ret (v := .agg #[.int .i64 e, .int .i64 gd, .slice a.a a.n a.c, .slice b'.a b'.n b'.c, .slice c'.a c'.n c'.c, .slice x'.a x'.n x'.c, .slice y'.a y'.n y'.c, .slice z'.a z'.n z'.c]) (by simp [results, Tryd.results67, go_sem, d0, d1, d2, d3, d4, d5, d6, d7]) rfl ?_
        rw [HE.out]
        exact ⟨_, rfl, a, b', c', x', y', z', rfl, h8, hb8⟩
      | true =>
        have HE := Hid.mk' (HE2.out hd)
        clear HE2 HE3
        rw [hd] at HN
        go_upto_region 10 with (go_at_call 74; refine (rbeg_x q d hq HR7.out HG7.out hl1 hm1).mono ?_; rintro o w8 ⟨x2', y2', z2', rfl, h8, hb8⟩; have HQ8 := Hid.mk' (HQ7.out.call hb8); have hq2 : w8.heap[w.heap.size]? = some (.cells #[.int .i64 e, .int .i64 gd, .slice a.a a.n a.c, .slice b'.a b'.n b'.c, .slice c'.a c'.n c'.c, .slice x'.a x'.n x'.c, .slice y'.a y'.n y'.c, .slice z'.a z'.n z'.c] 33 (0, 0)) := HQ8.out.g2; obtain ⟨c0, c1, c2, c3, c4, c5, c6, c7⟩ := blk8 hq2; have z0 := fz8 hq2 0; have z1 := fz8 hq2 1; have z2 := fz8 hq2 2; have z3 := fz8 hq2 3; have z4 := fz8 hq2 4; have z5 := fz8 hq2 5; have z6 := fz8 hq2 6; have z7 := fz8 hq2 7; clear hq2)
        have HR8 := Hid.mk' (h8.nqc HQ7.out.sz hb8.size)
        have HQ9 : Hid (Bo w ((((((((w8.setCell ⟨w.heap.size, 0, none⟩ (.int .i64 e)).setCell ⟨w.heap.size, 1, none⟩ (.int .i64 gd)).setCell ⟨w.heap.size, 2, none⟩ (.slice a.a a.n a.c)).setCell ⟨w.heap.size, 3, none⟩ (.slice b'.a b'.n b'.c)).setCell ⟨w.heap.size, 4, none⟩ (.slice c'.a c'.n c'.c)).setCell ⟨w.heap.size, 5, none⟩ (.slice x2'.a x2'.n x2'.c)).setCell ⟨w.heap.size, 6, none⟩ (.slice y2'.a y2'.n y2'.c)).setCell ⟨w.heap.size, 7, none⟩ (.slice z2'.a z2'.n z2'.c)) e gd a b' c' x2' y2' z2') := HQ8.out.store a b' c' x2' y2' z2'
        have HR9 : Hid (RL6 ((((((((w8.setCell ⟨w.heap.size, 0, none⟩ (.int .i64 e)).setCell ⟨w.heap.size, 1, none⟩ (.int .i64 gd)).setCell ⟨w.heap.size, 2, none⟩ (.slice a.a a.n a.c)).setCell ⟨w.heap.size, 3, none⟩ (.slice b'.a b'.n b'.c)).setCell ⟨w.heap.size, 4, none⟩ (.slice c'.a c'.n c'.c)).setCell ⟨w.heap.size, 5, none⟩ (.slice x2'.a x2'.n x2'.c)).setCell ⟨w.heap.size, 6, none⟩ (.slice y2'.a y2'.n y2'.c)).setCell ⟨w.heap.size, 7, none⟩ (.slice z2'.a z2'.n z2'.c)) (nq A (w.heap.size + 2) ((((((((w8.setCell ⟨w.heap.size, 0, none⟩ (.int .i64 e)).setCell ⟨w.heap.size, 1, none⟩ (.int .i64 gd)).setCell ⟨w.heap.size, 2, none⟩ (.slice a.a a.n a.c)).setCell ⟨w.heap.size, 3, none⟩ (.slice b'.a b'.n b'.c)).setCell ⟨w.heap.size, 4, none⟩ (.slice c'.a c'.n c'.c)).setCell ⟨w.heap.size, 5, none⟩ (.slice x2'.a x2'.n x2'.c)).setCell ⟨w.heap.size, 6, none⟩ (.slice y2'.a y2'.n y2'.c)).setCell ⟨w.heap.size, 7, none⟩ (.slice z2'.a z2'.n z2'.c))) a b' c' x2' y2' z2' ⟨putH s.H i u true, begL q (wo q s.L) (wo q s.M), begM q d (wo q s.M)⟩) := HR8.out.st8 hG
        clear c0 c1 c2 c3 c4 c5 c6 c7 z0 z1 z2 z3 z4 z5 z6 z7 h8
        generalize ((((((((w8.setCell ⟨w.heap.size, 0, none⟩ (.int .i64 e)).setCell ⟨w.heap.size, 1, none⟩ (.int .i64 gd)).setCell ⟨w.heap.size, 2, none⟩ (.slice a.a a.n a.c)).setCell ⟨w.heap.size, 3, none⟩ (.slice b'.a b'.n b'.c)).setCell ⟨w.heap.size, 4, none⟩ (.slice c'.a c'.n c'.c)).setCell ⟨w.heap.size, 5, none⟩ (.slice x2'.a x2'.n x2'.c)).setCell ⟨w.heap.size, 6, none⟩ (.slice y2'.a y2'.n y2'.c)).setCell ⟨w.heap.size, 7, none⟩ (.slice z2'.a z2'.n z2'.c)) = w9 at *
        have hq2 : w9.heap[w.heap.size]? = some (.cells #[.int .i64 e, .int .i64 gd, .slice a.a a.n a.c, .slice b'.a b'.n b'.c, .slice c'.a c'.n c'.c, .slice x2'.a x2'.n x2'.c, .slice y2'.a y2'.n y2'.c, .slice z2'.a z2'.n z2'.c] 33 (0, 0)) := HQ9.out.g2
        obtain ⟨c0, c1, c2, c3, c4, c5, c6, c7⟩ := blk8 hq2
        clear hq2
        have hq4 : w9.heap[w.heap.size + 1]? = some (.cells #[.int .i64 0, .int .i64 0, .slice none 0 0, .slice none 0 0, .slice none 0 0, .slice none 0 0, .slice none 0 0, .slice none 0 0] 33 (0, 0)) := HQ9.out.g4
        obtain ⟨d0, d1, d2, d3, d4, d5, d6, d7⟩ := blk8 hq4
        have f0 := fz8 hq4 0
        have f1 := fz8 hq4 1
        have f2 := fz8 hq4 2
        have f3 := fz8 hq4 3
        have f4 := fz8 hq4 4
        have f5 := fz8 hq4 5
        have f6 := fz8 hq4 6
        have f7 := fz8 hq4 7
        clear hq4
        go_wp2
        obtain ⟨g8, h8, hb8⟩ := HQ9.out.res hG HR9.out
        try dsimp only at g8 h8 hb8
        clear d0 d1 d2 d3 d4 d5 d6 d7 f0 f1 f2 f3 f4 f5 f6 f7
        generalize ((((((((w9.setCell _ _).setCell _ _).setCell _ _).setCell _ _).setCell _ _).setCell _ _).setCell _ _).setCell _ _) = w8 at *
        obtain ⟨d0, d1, d2, d3, d4, d5, d6, d7⟩ := blk8 g8
        refine bodyPost_ret (v := .agg #[.int .i64 e, .int .i64 gd, .slice a.a a.n a.c, .slice b'.a b'.n b'.c, .slice c'.a c'.n c'.c, .slice x2'.a x2'.n x2'.c, .slice y2'.a y2'.n y2'.c, .slice z2'.a z2'.n z2'.c]) (by simp [results, Tryd.results67, go_sem, d0, d1, d2, d3, d4, d5, d6, d7]) rfl ?_
        rw [HE.out]
        exact ⟨_, rfl, a, b', c', x2', y2', z2', rfl, h8, hb8⟩
  | false =>
    rw [isIn_plc.2 hk] at HP
    have e1 : L1 = s.L := HLM.out.1.trans (if_neg (by rw [hk]; simp))
    have e2 : M1 = s.M := HLM.out.2.trans (if_neg (by rw [hk]; simp))
    subst e1 e2
    clear hk HLM
    go_upto_region 4 with (go_at_call 49; refine HP.out.mono ?_; rintro o w5 ⟨rfl, hw5⟩; have hw5 := hw5.symm; subst hw5)
    clear c0 c1 c2 c3 c4 c5 c6 c7 x2 x3 hin2 hib2 hin3 hib3
    have hq2 : w4.heap[w.heap.size]? = some (.cells #[.int .i64 e, .int .i64 gd, .slice a.a a.n a.c, .slice (some ⟨q2, p2, none⟩)  bn  bk, .slice (some ⟨r2, p3, none⟩)  cn  ck, .slice x.a x.n x.c, .slice y.a y.n y.c, .slice z.a z.n z.c] 33 (0, 0)) := HQ4.out.g2
    obtain ⟨c0, c1, c2, c3, c4, c5, c6, c7⟩ := blk8 hq2
    clear hq2
    have HGc : Hid (∀ k, nq A (w.heap.size + 2) w4 k → k < w4.heap.size) := fun _ hk => nq_lt hG HQ4.out.hb.size hk
    obtain ⟨x2, hin2, hib2⟩ := HR4.out.stk (i := i) HT.out.2.2.2.1
    try dsimp only at x2
    rw [← HT.out.1] at x2
    by_cases h3 : t = 3
    · have HE := Hid.mk' (HRL.out.1 h3)
      subst h3
      go_wp2_with (go_at_call 68; refine (rcut_f HR4.out HGc.out (i : Int) hlen).mono ?_; rintro o w7 ⟨a', b', c', rfl, h7, -, hb7⟩; have HQ7 := Hid.mk' (HQ4.out.call hb7); have hq4 : w7.heap[w.heap.size + 1]? = some (.cells #[.int .i64 0, .int .i64 0, .slice none 0 0, .slice none 0 0, .slice none 0 0, .slice none 0 0, .slice none 0 0, .slice none 0 0] 33 (0, 0)) := HQ7.out.g4; obtain ⟨d0, d1, d2, d3, d4, d5, d6, d7⟩ := blk8 hq4; have f0 := fz8 hq4 0; have f1 := fz8 hq4 1; have f2 := fz8 hq4 2; have f3 := fz8 hq4 3; have f4 := fz8 hq4 4; have f5 := fz8 hq4 5; have f6 := fz8 hq4 6; have f7 := fz8 hq4 7; clear hq4)
      have HR7 := Hid.mk' (h7.nqc HQ4.out.sz hb7.size)
      obtain ⟨g8, h8, hb8⟩ := HQ7.out.res hG HR7.out
      try dsimp only at g8 h8 hb8
      clear d0 d1 d2 d3 d4 d5 d6 d7 f0 f1 f2 f3 f4 f5 f6 f7
      generalize ((((((((w7.setCell _ _).setCell _ _).setCell _ _).setCell _ _).setCell _ _).setCell _ _).setCell _ _).setCell _ _) = w8 at *
      obtain ⟨d0, d1, d2, d3, d4, d5, d6, d7⟩ := blk8 g8
      refine bodyPost_ret (v := .agg #[.int .i64 e, .int .i64 gd, .slice a'.a a'.n a'.c, .slice b'.a b'.n b'.c, .slice c'.a c'.n c'.c, .slice x.a x.n x.c, .slice y.a y.n y.c, .slice z.a z.n z.c]) (by simp [results, Tryd.results67, go_sem, d0, d1, d2, d3, d4, d5, d6, d7]) rfl ?_
      rw [HE.out]
      exact ⟨_, rfl, a', b', c', x, y, z, rfl, h8, hb8⟩
    · have k3 : (t == 3) = false := by simp [h3]
      have HN := Hid.mk' (St.rnext_any t 5 w4)
      have HE2 := Hid.mk' (HRL.out.2.1 h3)
      have HE3 := Hid.mk' (HRL.out.2.2 h3)
      generalize St.nx t 5 = u at *
      clear HRL h3
      go_upto_region 8 with (first
        | (go_at_call 69; refine HN.out.mono ?_; rintro o w5 ⟨rfl, hw5⟩; have hw5 := hw5.symm; subst hw5)
        | (go_at_call 71; refine (rput_f HR4.out HGc.out i HT.out.2.2.2.1 hlen u true).mono ?_; rintro o w6 ⟨b', c', rfl, h6, hb6⟩; have HQ6 := Hid.mk' (HQ4.out.call hb6); have hq2 : w6.heap[w.heap.size]? = some (.cells #[.int .i64 e, .int .i64 gd, .slice a.a a.n a.c, .slice (some ⟨q2, p2, none⟩)  bn  bk, .slice (some ⟨r2, p3, none⟩)  cn  ck, .slice x.a x.n x.c, .slice y.a y.n y.c, .slice z.a z.n z.c] 33 (0, 0)) := HQ6.out.g2; obtain ⟨c0, c1, c2, c3, c4, c5, c6, c7⟩ := blk8 hq2; have z0 := fz8 hq2 0; have z1 := fz8 hq2 1; have z2 := fz8 hq2 2; have z3 := fz8 hq2 3; have z4 := fz8 hq2 4; have z5 := fz8 hq2 5; have z6 := fz8 hq2 6; have z7 := fz8 hq2 7; clear hq2))
      have HR6 := Hid.mk' (h6.nqc HQ4.out.sz hb6.size)
      have HQ7 : Hid (Bo w ((((((((w6.setCell ⟨w.heap.size, 0, none⟩ (.int .i64 e)).setCell ⟨w.heap.size, 1, none⟩ (.int .i64 gd)).setCell ⟨w.heap.size, 2, none⟩ (.slice a.a a.n a.c)).setCell ⟨w.heap.size, 3, none⟩ (.slice b'.a b'.n b'.c)).setCell ⟨w.heap.size, 4, none⟩ (.slice c'.a c'.n c'.c)).setCell ⟨w.heap.size, 5, none⟩ (.slice x.a x.n x.c)).setCell ⟨w.heap.size, 6, none⟩ (.slice y.a y.n y.c)).setCell ⟨w.heap.size, 7, none⟩ (.slice z.a z.n z.c)) e gd a b' c' x y z) := HQ6.out.store a b' c' x y z
      have HR7 : Hid (RL6 ((((((((w6.setCell ⟨w.heap.size, 0, none⟩ (.int .i64 e)).setCell ⟨w.heap.size, 1, none⟩ (.int .i64 gd)).setCell ⟨w.heap.size, 2, none⟩ (.slice a.a a.n a.c)).setCell ⟨w.heap.size, 3, none⟩ (.slice b'.a b'.n b'.c)).setCell ⟨w.heap.size, 4, none⟩ (.slice c'.a c'.n c'.c)).setCell ⟨w.heap.size, 5, none⟩ (.slice x.a x.n x.c)).setCell ⟨w.heap.size, 6, none⟩ (.slice y.a y.n y.c)).setCell ⟨w.heap.size, 7, none⟩ (.slice z.a z.n z.c)) (nq A (w.heap.size + 2) ((((((((w6.setCell ⟨w.heap.size, 0, none⟩ (.int .i64 e)).setCell ⟨w.heap.size, 1, none⟩ (.int .i64 gd)).setCell ⟨w.heap.size, 2, none⟩ (.slice a.a a.n a.c)).setCell ⟨w.heap.size, 3, none⟩ (.slice b'.a b'.n b'.c)).setCell ⟨w.heap.size, 4, none⟩ (.slice c'.a c'.n c'.c)).setCell ⟨w.heap.size, 5, none⟩ (.slice x.a x.n x.c)).setCell ⟨w.heap.size, 6, none⟩ (.slice y.a y.n y.c)).setCell ⟨w.heap.size, 7, none⟩ (.slice z.a z.n z.c))) a b' c' x y z ⟨putH s.H i u true, s.L, s.M⟩) := HR6.out.st8 hG
      clear c0 c1 c2 c3 c4 c5 c6 c7 z0 z1 z2 z3 z4 z5 z6 z7 x2 h6
      generalize ((((((((w6.setCell ⟨w.heap.size, 0, none⟩ (.int .i64 e)).setCell ⟨w.heap.size, 1, none⟩ (.int .i64 gd)).setCell ⟨w.heap.size, 2, none⟩ (.slice a.a a.n a.c)).setCell ⟨w.heap.size, 3, none⟩ (.slice b'.a b'.n b'.c)).setCell ⟨w.heap.size, 4, none⟩ (.slice c'.a c'.n c'.c)).setCell ⟨w.heap.size, 5, none⟩ (.slice x.a x.n x.c)).setCell ⟨w.heap.size, 6, none⟩ (.slice y.a y.n y.c)).setCell ⟨w.heap.size, 7, none⟩ (.slice z.a z.n z.c)) = w7 at *
      have hq2 : w7.heap[w.heap.size]? = some (.cells #[.int .i64 e, .int .i64 gd, .slice a.a a.n a.c, .slice b'.a b'.n b'.c, .slice c'.a c'.n c'.c, .slice x.a x.n x.c, .slice y.a y.n y.c, .slice z.a z.n z.c] 33 (0, 0)) := HQ7.out.g2
      obtain ⟨c0, c1, c2, c3, c4, c5, c6, c7⟩ := blk8 hq2
      clear hq2
      have HG7 : Hid (∀ k, nq A (w.heap.size + 2) w7 k → k < w7.heap.size) := fun _ hk => nq_lt hG HQ7.out.hb.size hk
      cases hd : St.did t 5 with
      | false =>
        have HE := Hid.mk' (HE3.out hd)
        clear HE2 HE3
        rw [hd] at HN
        have hq4 : w7.heap[w.heap.size + 1]? = some (.cells #[.int .i64 0, .int .i64 0, .slice none 0 0, .slice none 0 0, .slice none 0 0, .slice none 0 0, .slice none 0 0, .slice none 0 0] 33 (0, 0)) := HQ7.out.g4
        obtain ⟨d0, d1, d2, d3, d4, d5, d6, d7⟩ := blk8 hq4
        have f0 := fz8 hq4 0
        have f1 := fz8 hq4 1
        have f2 := fz8 hq4 2
        have f3 := fz8 hq4 3
        have f4 := fz8 hq4 4
        have f5 := fz8 hq4 5
        have f6 := fz8 hq4 6
        have f7 := fz8 hq4 7
        clear hq4
        go_wp2
        obtain ⟨g8, h8, hb8⟩ := HQ7.out.res hG HR7.out
        try dsimp only at g8 h8 hb8
        clear d0 d1 d2 d3 d4 d5 d6 d7 f0 f1 f2 f3 f4 f5 f6 f7
        generalize ((((((((w7.setCell _ _).setCell _ _).setCell _ _).setCell _ _).setCell _ _).setCell _ _).setCell _ _).setCell _ _) = w8 at *
        obtain ⟨d0, d1, d2, d3, d4, d5, d6, d7⟩ := blk8 g8
        refine bodyPost_ret (v := .agg #[.int .i64 e, .int .i64 gd, .slice a.a a.n a.c, .slice b'.a b'.n b'.c, .slice c'.a c'.n c'.c, .slice x.a x.n x.c, .slice y.a y.n y.c, .slice z.a z.n z.c]) (by simp [results, Tryd.results67, go_sem, d0, d1, d2, d3, d4, d5, d6, d7]) rfl ?_
        rw [HE.out]
        exact ⟨_, rfl, a, b', c', x, y, z, rfl, h8, hb8⟩
      | true =>
        have HE := Hid.mk' (HE2.out hd)
        clear HE2 HE3
        rw [hd] at HN
        go_upto_region 10 with (go_at_call 74; refine (rbeg_x q d hq HR7.out HG7.out hl1 hm1).mono ?_; rintro o w8 ⟨x2', y2', z2', rfl, h8, hb8⟩; have HQ8 := Hid.mk' (HQ7.out.call hb8); have hq2 : w8.heap[w.heap.size]? = some (.cells #[.int .i64 e, .int .i64 gd, .slice a.a a.n a.c, .slice b'.a b'.n b'.c, .slice c'.a c'.n c'.c, .slice x.a x.n x.c, .slice y.a y.n y.c, .slice z.a z.n z.c] 33 (0, 0)) := HQ8.out.g2; obtain ⟨c0, c1, c2, c3, c4, c5, c6, c7⟩ := blk8 hq2; have z0 := fz8 hq2 0; have z1 := fz8 hq2 1; have z2 := fz8 hq2 2; have z3 := fz8 hq2 3; have z4 := fz8 hq2 4; have z5 := fz8 hq2 5; have z6 := fz8 hq2 6; have z7 := fz8 hq2 7; clear hq2)
        have HR8 := Hid.mk' (h8.nqc HQ7.out.sz hb8.size)
        have HQ9 : Hid (Bo w ((((((((w8.setCell ⟨w.heap.size, 0, none⟩ (.int .i64 e)).setCell ⟨w.heap.size, 1, none⟩ (.int .i64 gd)).setCell ⟨w.heap.size, 2, none⟩ (.slice a.a a.n a.c)).setCell ⟨w.heap.size, 3, none⟩ (.slice b'.a b'.n b'.c)).setCell ⟨w.heap.size, 4, none⟩ (.slice c'.a c'.n c'.c)).setCell ⟨w.heap.size, 5, none⟩ (.slice x2'.a x2'.n x2'.c)).setCell ⟨w.heap.size, 6, none⟩ (.slice y2'.a y2'.n y2'.c)).setCell ⟨w.heap.size, 7, none⟩ (.slice z2'.a z2'.n z2'.c)) e gd a b' c' x2' y2' z2') := HQ8.out.store a b' c' x2' y2' z2'
        have HR9 : Hid (RL6 ((((((((w8.setCell ⟨w.heap.size, 0, none⟩ (.int .i64 e)).setCell ⟨w.heap.size, 1, none⟩ (.int .i64 gd)).setCell ⟨w.heap.size, 2, none⟩ (.slice a.a a.n a.c)).setCell ⟨w.heap.size, 3, none⟩ (.slice b'.a b'.n b'.c)).setCell ⟨w.heap.size, 4, none⟩ (.slice c'.a c'.n c'.c)).setCell ⟨w.heap.size, 5, none⟩ (.slice x2'.a x2'.n x2'.c)).setCell ⟨w.heap.size, 6, none⟩ (.slice y2'.a y2'.n y2'.c)).setCell ⟨w.heap.size, 7, none⟩ (.slice z2'.a z2'.n z2'.c)) (nq A (w.heap.size + 2) ((((((((w8.setCell ⟨w.heap.size, 0, none⟩ (.int .i64 e)).setCell ⟨w.heap.size, 1, none⟩ (.int .i64 gd)).setCell ⟨w.heap.size, 2, none⟩ (.slice a.a a.n a.c)).setCell ⟨w.heap.size, 3, none⟩ (.slice b'.a b'.n b'.c)).setCell ⟨w.heap.size, 4, none⟩ (.slice c'.a c'.n c'.c)).setCell ⟨w.heap.size, 5, none⟩ (.slice x2'.a x2'.n x2'.c)).setCell ⟨w.heap.size, 6, none⟩ (.slice y2'.a y2'.n y2'.c)).setCell ⟨w.heap.size, 7, none⟩ (.slice z2'.a z2'.n z2'.c))) a b' c' x2' y2' z2' ⟨putH s.H i u true, begL q s.L s.M, begM q d s.M⟩) := HR8.out.st8 hG
        clear c0 c1 c2 c3 c4 c5 c6 c7 z0 z1 z2 z3 z4 z5 z6 z7 h8
        generalize ((((((((w8.setCell ⟨w.heap.size, 0, none⟩ (.int .i64 e)).setCell ⟨w.heap.size, 1, none⟩ (.int .i64 gd)).setCell ⟨w.heap.size, 2, none⟩ (.slice a.a a.n a.c)).setCell ⟨w.heap.size, 3, none⟩ (.slice b'.a b'.n b'.c)).setCell ⟨w.heap.size, 4, none⟩ (.slice c'.a c'.n c'.c)).setCell ⟨w.heap.size, 5, none⟩ (.slice x2'.a x2'.n x2'.c)).setCell ⟨w.heap.size, 6, none⟩ (.slice y2'.a y2'.n y2'.c)).setCell ⟨w.heap.size, 7, none⟩ (.slice z2'.a z2'.n z2'.c)) = w9 at *
        have hq2 : w9.heap[w.heap.size]? = some (.cells #[.int .i64 e, .int .i64 gd, .slice a.a a.n a.c, .slice b'.a b'.n b'.c, .slice c'.a c'.n c'.c, .slice x2'.a x2'.n x2'.c, .slice y2'.a y2'.n y2'.c, .slice z2'.a z2'.n z2'.c] 33 (0, 0)) := HQ9.out.g2
        obtain ⟨c0, c1, c2, c3, c4, c5, c6, c7⟩ := blk8 hq2
        clear hq2
        have hq4 : w9.heap[w.heap.size + 1]? = some (.cells #[.int .i64 0, .int .i64 0, .slice none 0 0, .slice none 0 0, .slice none 0 0, .slice none 0 0, .slice none 0 0, .slice none 0 0] 33 (0, 0)) := HQ9.out.g4
        obtain ⟨d0, d1, d2, d3, d4, d5, d6, d7⟩ := blk8 hq4
        have f0 := fz8 hq4 0
        have f1 := fz8 hq4 1
        have f2 := fz8 hq4 2
        have f3 := fz8 hq4 3
        have f4 := fz8 hq4 4
        have f5 := fz8 hq4 5
        have f6 := fz8 hq4 6
        have f7 := fz8 hq4 7
        clear hq4
        go_wp2
        obtain ⟨g8, h8, hb8⟩ := HQ9.out.res hG HR9.out
        try dsimp only at g8 h8 hb8
        clear d0 d1 d2 d3 d4 d5 d6 d7 f0 f1 f2 f3 f4 f5 f6 f7
        generalize ((((((((w9.setCell _ _).setCell _ _).setCell _ _).setCell _ _).setCell _ _).setCell _ _).setCell _ _).setCell _ _) = w8 at *
        obtain ⟨d0, d1, d2, d3, d4, d5, d6, d7⟩ := blk8 g8
        refine bodyPost_ret (v := .agg #[.int .i64 e, .int .i64 gd, .slice a.a a.n a.c, .slice b'.a b'.n b'.c, .slice c'.a c'.n c'.c, .slice x2'.a x2'.n x2'.c, .slice y2'.a y2'.n y2'.c, .slice z2'.a z2'.n z2'.c]) (by simp [results, Tryd.results67, go_sem, d0, d1, d2, d3, d4, d5, d6, d7]) rfl ?_
        rw [HE.out]
        exact ⟨_, rfl, a, b', c', x2', y2', z2', rfl, h8, hb8⟩
end Go.Proofs.YtmlkpfkeeifgeaaDoor
namespace Go.Proofs.YtmlkpfkeeifgeaaDoor
open Go.ChangeShapes Go.WideShapes Go.ChangeAt Go.RowKit Go.Joins Go.Deep

theorem em_0 {q : ByteArray} {s : Fl} (h1 : isH q s.H = false) : emB q s = false ∧ emS q s = s := by
  have e1 : emB q s = false := by unfold emB; rw [h1]; rfl
  exact ⟨e1, by unfold emS; rw [e1]; rfl⟩
theorem em_1 {q : ByteArray} {s : Fl} (hW : W s) (hv : ¬ (ofN q s.H).st = 1) : emB q s = false ∧ emS q s = s := by
  have e1 : emB q s = false := by
    cases h1 : isH q s.H with
    | false => unfold emB; rw [h1]; rfl
    | true =>
      cases h2 : St.did (ofN q s.H).st 4 with
      | false => unfold emB; rw [h2]; simp
      | true => exact absurd (did4_cases (hW.st (pl_yes h1).2) h2).1 hv
  exact ⟨e1, by unfold emS; rw [e1]; rfl⟩
theorem em_2 {q : ByteArray} {s : Fl} (h1 : isH q s.H = true) (hv : (ofN q s.H).st = 1) (hl : (ofN q s.H).lv = true) : emB q s = true ∧ emS q s = ⟨rmH s.H (plN q s.H : Nat), wo q s.L, wo q s.M⟩ := by
  have e1 : emB q s = true := by unfold emB; rw [h1, hv]; rfl
  refine ⟨e1, ?_⟩
  unfold emS
  rw [e1, if_pos rfl, if_pos hl, rmH_yes]
theorem em_3 {q : ByteArray} {s : Fl} (h1 : isH q s.H = true) (hv : (ofN q s.H).st = 1) (hl : (ofN q s.H).lv = false) : emB q s = true ∧ emS q s = ⟨putH s.H (plN q s.H) 3 false, wo q s.L, wo q s.M⟩ := by
  have e1 : emB q s = true := by unfold emB; rw [h1, hv]; rfl
  refine ⟨e1, ?_⟩
  unfold emS
  rw [e1, if_pos rfl, if_neg (by rw [hl]; simp)]
  have e2 : (atH s.H (plN q s.H)).st = 1 := hv
  have e3 : (atH s.H (plN q s.H)).lv = false := hl
  unfold tnH
  rw [e2, ← putH_setS, e3]
  rfl
set_option maxHeartbeats 4000000 in
set_option maxRecDepth 100000 in
theorem rempty_n {w : World} {A : Nat → Prop} {e gd : Int} {a b c x y z : Sl} {s : Fl} (q : ByteArray) (h : RL6 w A a b c x y z s) (hG : ∀ k, A k → k < w.heap.size) (hisH : isH q s.H = false) :
    Calls Tryd.prog 46 #[.agg #[.int .i64 e, .int .i64 gd, .slice a.a a.n a.c, .slice b.a b.n b.c, .slice c.a c.n c.c, .slice x.a x.n x.c, .slice y.a y.n y.c, .slice z.a z.n z.c], .string q] w fun o w' => ∃ v, o = .returned (.tuple #[v, .bool (emB q s)]) ∧ RP w w' A e gd (emS q s) v := by
  obtain ⟨w1, hw1⟩ : ∃ w1, w1 = (w.alloc (.cells #[.int .i64 e, .int .i64 gd, .slice a.a a.n a.c, .slice b.a b.n b.c, .slice c.a c.n c.c, .slice x.a x.n x.c, .slice y.a y.n y.c, .slice z.a z.n z.c] 33)).alloc (.cells #[.int .i64 0, .int .i64 0, .slice none 0 0, .slice none 0 0, .slice none 0 0, .slice none 0 0, .slice none 0 0, .slice none 0 0] 33) := ⟨_, rfl⟩
  have HQ : Hid (Bo w w1 e gd a b c x y z) := by rw [hw1]; exact Bo.start w e gd a b c x y z
  have HR : Hid (RL6 w1 (nq A (w.heap.size + 2) w1) a b c x y z s) := h.nq1 HQ.out.hb
  have hsz := HQ.out.sz
  have HAT := Hid.mk' (rat_x e gd HR.out q)
  rw [pl_no hisH] at HAT
  have hq2 : w1.heap[w.heap.size]? = some (.cells #[.int .i64 e, .int .i64 gd, .slice a.a a.n a.c, .slice b.a b.n b.c, .slice c.a c.n c.c, .slice x.a x.n x.c, .slice y.a y.n y.c, .slice z.a z.n z.c] 33 (0, 0)) := HQ.out.g2
  obtain ⟨c0, c1, c2, c3, c4, c5, c6, c7⟩ := blk8 hq2
  clear hq2
  clear h
  go_enter Tryd.func46, Tryd.ntmps46
  go_upto_region 1 with fail
  rw [← hw1]
  clear hw1
  go_upto_region 2 with (go_at_call 50; refine HAT.out.mono ?_; rintro o w4 ⟨rfl, hb4⟩)
  have HQ4 : Hid (Bo w w4 e gd a b c x y z) := HQ.out.call hb4
  have HR4 := Hid.mk' (HR.out.nqb hb4)
  clear c0 c1 c2 c3 c4 c5 c6 c7
  have hq2 : w4.heap[w.heap.size]? = some (.cells #[.int .i64 e, .int .i64 gd, .slice a.a a.n a.c, .slice b.a b.n b.c, .slice c.a c.n c.c, .slice x.a x.n x.c, .slice y.a y.n y.c, .slice z.a z.n z.c] 33 (0, 0)) := HQ4.out.g2
  obtain ⟨c0, c1, c2, c3, c4, c5, c6, c7⟩ := blk8 hq2
  clear hq2
  have HE := Hid.mk' (em_0 hisH)
  have hq4 : w4.heap[w.heap.size + 1]? = some (.cells #[.int .i64 0, .int .i64 0, .slice none 0 0, .slice none 0 0, .slice none 0 0, .slice none 0 0, .slice none 0 0, .slice none 0 0] 33 (0, 0)) := HQ4.out.g4
  obtain ⟨d0, d1, d2, d3, d4, d5, d6, d7⟩ := blk8 hq4
  have f0 := fz8 hq4 0
  have f1 := fz8 hq4 1
  have f2 := fz8 hq4 2
  have f3 := fz8 hq4 3
  have f4 := fz8 hq4 4
  have f5 := fz8 hq4 5
  have f6 := fz8 hq4 6
  have f7 := fz8 hq4 7
  clear hq4
  go_wp2
  obtain ⟨g8, h8, hb8⟩ := HQ4.out.res hG HR4.out
  try dsimp only at g8 h8 hb8
  clear d0 d1 d2 d3 d4 d5 d6 d7 f0 f1 f2 f3 f4 f5 f6 f7
  generalize ((((((((w4.setCell _ _).setCell _ _).setCell _ _).setCell _ _).setCell _ _).setCell _ _).setCell _ _).setCell _ _) = w8 at *
  obtain ⟨d0, d1, d2, d3, d4, d5, d6, d7⟩ := blk8 g8
  refine bodyPost_ret (v := .tuple #[.agg #[.int .i64 e, .int .i64 gd, .slice a.a a.n a.c, .slice b.a b.n b.c, .slice c.a c.n c.c, .slice x.a x.n x.c, .slice y.a y.n y.c, .slice z.a z.n z.c], .bool false]) (by simp [results, Tryd.results46, go_sem, d0, d1, d2, d3, d4, d5, d6, d7]) rfl ?_
  rw [HE.out.1, HE.out.2]
  exact ⟨_, rfl, a, b, c, x, y, z, rfl, h8, hb8⟩
set_option maxHeartbeats 4000000 in
set_option maxRecDepth 100000 in
theorem rempty_y {w : World} {A : Nat → Prop} {e gd : Int} {a b c x y z : Sl} {s : Fl} (q : ByteArray) (h : RL6 w A a b c x y z s) (hG : ∀ k, A k → k < w.heap.size) (hisH : isH q s.H = true) (hW : W s) (hlen : s.H.length ≤ 4000) (hl : s.L.length ≤ 3500) (hm : s.M.length ≤ 3500) :
    Calls Tryd.prog 46 #[.agg #[.int .i64 e, .int .i64 gd, .slice a.a a.n a.c, .slice b.a b.n b.c, .slice c.a c.n c.c, .slice x.a x.n x.c, .slice y.a y.n y.c, .slice z.a z.n z.c], .string q] w fun o w' => ∃ v, o = .returned (.tuple #[v, .bool (emB q s)]) ∧ RP w w' A e gd (emS q s) v := by
  have hpl := pl_yes hisH
  obtain ⟨i, hi0⟩ : ∃ i, i = plN q s.H := ⟨_, rfl⟩
  rw [← hi0] at hpl
  have hi := hpl.2
  obtain ⟨ba, bn, bk⟩ := b
  obtain ⟨ca, cn, ck⟩ := c
  obtain ⟨-, q2, p2, e2, -⟩ := h.sti hi
  obtain ⟨-, r2, p3, e3, -⟩ := h.lvi hi
  obtain rfl : ba = some ⟨q2, p2, none⟩ := e2
  obtain rfl : ca = some ⟨r2, p3, none⟩ := e3
  dsimp only
  obtain ⟨t, ht⟩ : ∃ t, t = (atH s.H i).st := ⟨_, rfl⟩
  obtain ⟨v, hv⟩ : ∃ v, v = (atH s.H i).lv := ⟨_, rfl⟩
  have HT : Hid (t = (atH s.H i).st ∧ v = (atH s.H i).lv ∧ i = plN q s.H ∧ i < s.H.length ∧ isH q s.H = true) := ⟨ht, hv, hi0, hi, hisH⟩
  clear ht hv
  obtain ⟨w1, hw1⟩ : ∃ w1, w1 = (w.alloc (.cells #[.int .i64 e, .int .i64 gd, .slice a.a a.n a.c, .slice (some ⟨q2, p2, none⟩)  bn  bk, .slice (some ⟨r2, p3, none⟩)  cn  ck, .slice x.a x.n x.c, .slice y.a y.n y.c, .slice z.a z.n z.c] 33)).alloc (.cells #[.int .i64 0, .int .i64 0, .slice none 0 0, .slice none 0 0, .slice none 0 0, .slice none 0 0, .slice none 0 0, .slice none 0 0] 33) := ⟨_, rfl⟩
  have HQ : Hid (Bo w w1 e gd a ⟨some ⟨q2, p2, none⟩, bn, bk⟩ ⟨some ⟨r2, p3, none⟩, cn, ck⟩ x y z) := by rw [hw1]; exact Bo.start w e gd a ⟨some ⟨q2, p2, none⟩, bn, bk⟩ ⟨some ⟨r2, p3, none⟩, cn, ck⟩ x y z
  have HR : Hid (RL6 w1 (nq A (w.heap.size + 2) w1) a ⟨some ⟨q2, p2, none⟩, bn, bk⟩ ⟨some ⟨r2, p3, none⟩, cn, ck⟩ x y z s) := h.nq1 HQ.out.hb
  have hsz := HQ.out.sz
  have HAT := Hid.mk' (rat_x e gd HR.out q)
  rw [hpl.1] at HAT
  have hq2 : w1.heap[w.heap.size]? = some (.cells #[.int .i64 e, .int .i64 gd, .slice a.a a.n a.c, .slice (some ⟨q2, p2, none⟩)  bn  bk, .slice (some ⟨r2, p3, none⟩)  cn  ck, .slice x.a x.n x.c, .slice y.a y.n y.c, .slice z.a z.n z.c] 33 (0, 0)) := HQ.out.g2
  obtain ⟨c0, c1, c2, c3, c4, c5, c6, c7⟩ := blk8 hq2
  clear hq2
  clear h
  go_enter Tryd.func46, Tryd.ntmps46
  go_upto_region 1 with fail
  rw [← hw1]
  clear hw1
  clear hpl hi0 hisH
  go_upto_region 2 with (go_at_call 50; refine HAT.out.mono ?_; rintro o w4 ⟨rfl, hb4⟩)
  have HQ4 : Hid (Bo w w4 e gd a ⟨some ⟨q2, p2, none⟩, bn, bk⟩ ⟨some ⟨r2, p3, none⟩, cn, ck⟩ x y z) := HQ.out.call hb4
  have HR4 := Hid.mk' (HR.out.nqb hb4)
  clear c0 c1 c2 c3 c4 c5 c6 c7
  have hq2 : w4.heap[w.heap.size]? = some (.cells #[.int .i64 e, .int .i64 gd, .slice a.a a.n a.c, .slice (some ⟨q2, p2, none⟩)  bn  bk, .slice (some ⟨r2, p3, none⟩)  cn  ck, .slice x.a x.n x.c, .slice y.a y.n y.c, .slice z.a z.n z.c] 33 (0, 0)) := HQ4.out.g2
  obtain ⟨c0, c1, c2, c3, c4, c5, c6, c7⟩ := blk8 hq2
  clear hq2
  obtain ⟨x2, hin2, hib2⟩ := HR4.out.stk HT.out.2.2.2.1
  obtain ⟨x3, hin3, hib3⟩ := HR4.out.lvk HT.out.2.2.2.1
  rw [← HT.out.1] at x2
  rw [← HT.out.2.1] at x3
  have hlv : (ofN q s.H).lv = v := by show (atH s.H (plN q s.H)).lv = v; rw [← HT.out.2.2.1]; exact HT.out.2.1.symm
  have hst : (ofN q s.H).st = t := by show (atH s.H (plN q s.H)).st = t; rw [← HT.out.2.2.1]; exact HT.out.1.symm
  have HLS : Hid ((ofN q s.H).lv = v ∧ (ofN q s.H).st = t) := ⟨hlv, hst⟩
  clear hlv hst
  have HG4 : Hid (∀ k, nq A (w.heap.size + 2) w4 k → k < w4.heap.size) := fun _ hk => nq_lt hG HQ4.out.hb.size hk
  by_cases h3 : t = 1
  · subst h3
    go_upto_region 5 with (go_at_call 70; refine (rend_x q HR4.out HG4.out hl hm).mono ?_; rintro o w5 ⟨x', y', z', rfl, h5, hb5⟩; have HQ5 := Hid.mk' (HQ4.out.call hb5); have hq2 : w5.heap[w.heap.size]? = some (.cells #[.int .i64 e, .int .i64 gd, .slice a.a a.n a.c, .slice (some ⟨q2, p2, none⟩)  bn  bk, .slice (some ⟨r2, p3, none⟩)  cn  ck, .slice x.a x.n x.c, .slice y.a y.n y.c, .slice z.a z.n z.c] 33 (0, 0)) := HQ5.out.g2; obtain ⟨c0, c1, c2, c3, c4, c5, c6, c7⟩ := blk8 hq2; have z0 := fz8 hq2 0; have z1 := fz8 hq2 1; have z2 := fz8 hq2 2; have z3 := fz8 hq2 3; have z4 := fz8 hq2 4; have z5 := fz8 hq2 5; have z6 := fz8 hq2 6; have z7 := fz8 hq2 7; clear hq2)
    have HR5 := Hid.mk' (h5.nqc HQ4.out.sz hb5.size)
    have HQ6 : Hid (Bo w ((((((((w5.setCell ⟨w.heap.size, 0, none⟩ (.int .i64 e)).setCell ⟨w.heap.size, 1, none⟩ (.int .i64 gd)).setCell ⟨w.heap.size, 2, none⟩ (.slice a.a a.n a.c)).setCell ⟨w.heap.size, 3, none⟩ (.slice (some ⟨q2, p2, none⟩)  bn  bk)).setCell ⟨w.heap.size, 4, none⟩ (.slice (some ⟨r2, p3, none⟩)  cn  ck)).setCell ⟨w.heap.size, 5, none⟩ (.slice x'.a x'.n x'.c)).setCell ⟨w.heap.size, 6, none⟩ (.slice y'.a y'.n y'.c)).setCell ⟨w.heap.size, 7, none⟩ (.slice z'.a z'.n z'.c)) e gd a ⟨some ⟨q2, p2, none⟩, bn, bk⟩ ⟨some ⟨r2, p3, none⟩, cn, ck⟩ x' y' z') := HQ5.out.store a ⟨some ⟨q2, p2, none⟩, bn, bk⟩ ⟨some ⟨r2, p3, none⟩, cn, ck⟩ x' y' z'
    have HR6 : Hid (RL6 ((((((((w5.setCell ⟨w.heap.size, 0, none⟩ (.int .i64 e)).setCell ⟨w.heap.size, 1, none⟩ (.int .i64 gd)).setCell ⟨w.heap.size, 2, none⟩ (.slice a.a a.n a.c)).setCell ⟨w.heap.size, 3, none⟩ (.slice (some ⟨q2, p2, none⟩)  bn  bk)).setCell ⟨w.heap.size, 4, none⟩ (.slice (some ⟨r2, p3, none⟩)  cn  ck)).setCell ⟨w.heap.size, 5, none⟩ (.slice x'.a x'.n x'.c)).setCell ⟨w.heap.size, 6, none⟩ (.slice y'.a y'.n y'.c)).setCell ⟨w.heap.size, 7, none⟩ (.slice z'.a z'.n z'.c)) (nq A (w.heap.size + 2) ((((((((w5.setCell ⟨w.heap.size, 0, none⟩ (.int .i64 e)).setCell ⟨w.heap.size, 1, none⟩ (.int .i64 gd)).setCell ⟨w.heap.size, 2, none⟩ (.slice a.a a.n a.c)).setCell ⟨w.heap.size, 3, none⟩ (.slice (some ⟨q2, p2, none⟩)  bn  bk)).setCell ⟨w.heap.size, 4, none⟩ (.slice (some ⟨r2, p3, none⟩)  cn  ck)).setCell ⟨w.heap.size, 5, none⟩ (.slice x'.a x'.n x'.c)).setCell ⟨w.heap.size, 6, none⟩ (.slice y'.a y'.n y'.c)).setCell ⟨w.heap.size, 7, none⟩ (.slice z'.a z'.n z'.c))) a ⟨some ⟨q2, p2, none⟩, bn, bk⟩ ⟨some ⟨r2, p3, none⟩, cn, ck⟩ x' y' z' ⟨s.H, wo q s.L, wo q s.M⟩) := HR5.out.st8 hG
    clear c0 c1 c2 c3 c4 c5 c6 c7 z0 z1 z2 z3 z4 z5 z6 z7 x2 x3 h5 hin2 hib2 hin3 hib3
    generalize ((((((((w5.setCell ⟨w.heap.size, 0, none⟩ (.int .i64 e)).setCell ⟨w.heap.size, 1, none⟩ (.int .i64 gd)).setCell ⟨w.heap.size, 2, none⟩ (.slice a.a a.n a.c)).setCell ⟨w.heap.size, 3, none⟩ (.slice (some ⟨q2, p2, none⟩)  bn  bk)).setCell ⟨w.heap.size, 4, none⟩ (.slice (some ⟨r2, p3, none⟩)  cn  ck)).setCell ⟨w.heap.size, 5, none⟩ (.slice x'.a x'.n x'.c)).setCell ⟨w.heap.size, 6, none⟩ (.slice y'.a y'.n y'.c)).setCell ⟨w.heap.size, 7, none⟩ (.slice z'.a z'.n z'.c)) = w6 at *
    have hq2 : w6.heap[w.heap.size]? = some (.cells #[.int .i64 e, .int .i64 gd, .slice a.a a.n a.c, .slice (some ⟨q2, p2, none⟩)  bn  bk, .slice (some ⟨r2, p3, none⟩)  cn  ck, .slice x'.a x'.n x'.c, .slice y'.a y'.n y'.c, .slice z'.a z'.n z'.c] 33 (0, 0)) := HQ6.out.g2
    obtain ⟨c0, c1, c2, c3, c4, c5, c6, c7⟩ := blk8 hq2
    clear hq2
    have HG6 : Hid (∀ k, nq A (w.heap.size + 2) w6 k → k < w6.heap.size) := fun _ hk => nq_lt hG HQ6.out.hb.size hk
    obtain ⟨x3, hin3, hib3⟩ := HR6.out.lvk (i := i) HT.out.2.2.2.1
    dsimp only at x3
    rw [← HT.out.2.1] at x3
    cases v with
    | true =>
      have HE := Hid.mk' (em_2 HT.out.2.2.2.2 HLS.out.2 HLS.out.1)
      rw [← HT.out.2.2.1] at HE
      go_wp2_with (go_at_call 68; refine (rcut_f HR6.out HG6.out (i : Int) hlen).mono ?_; rintro o w7 ⟨a', b', c', rfl, h7, -, hb7⟩; have HQ7 := Hid.mk' (HQ6.out.call hb7); have hq4 : w7.heap[w.heap.size + 1]? = some (.cells #[.int .i64 0, .int .i64 0, .slice none 0 0, .slice none 0 0, .slice none 0 0, .slice none 0 0, .slice none 0 0, .slice none 0 0] 33 (0, 0)) := HQ7.out.g4; obtain ⟨d0, d1, d2, d3, d4, d5, d6, d7⟩ := blk8 hq4; have f0 := fz8 hq4 0; have f1 := fz8 hq4 1; have f2 := fz8 hq4 2; have f3 := fz8 hq4 3; have f4 := fz8 hq4 4; have f5 := fz8 hq4 5; have f6 := fz8 hq4 6; have f7 := fz8 hq4 7; clear hq4)
      have HR7 := Hid.mk' (h7.nqc HQ6.out.sz hb7.size)
      obtain ⟨g8, h8, hb8⟩ := HQ7.out.res hG HR7.out
      try dsimp only at g8 h8 hb8
      clear d0 d1 d2 d3 d4 d5 d6 d7 f0 f1 f2 f3 f4 f5 f6 f7
      generalize ((((((((w7.setCell _ _).setCell _ _).setCell _ _).setCell _ _).setCell _ _).setCell _ _).setCell _ _).setCell _ _) = w8 at *
      obtain ⟨d0, d1, d2, d3, d4, d5, d6, d7⟩ := blk8 g8
      refine bodyPost_ret (v := .tuple #[.agg #[.int .i64 e, .int .i64 gd, .slice a'.a a'.n a'.c, .slice b'.a b'.n b'.c, .slice c'.a c'.n c'.c, .slice x'.a x'.n x'.c, .slice y'.a y'.n y'.c, .slice z'.a z'.n z'.c], .bool true]) (by simp [results, Tryd.results46, go_sem, d0, d1, d2, d3, d4, d5, d6, d7]) rfl ?_
      rw [HE.out.1, HE.out.2]
      exact ⟨_, rfl, a', b', c', x', y', z', rfl, h8, hb8⟩
    | false =>
      have HE := Hid.mk' (em_3 HT.out.2.2.2.2 HLS.out.2 HLS.out.1)
      rw [← HT.out.2.2.1] at HE
      go_wp2_with (go_at_call 71; refine (rput_f HR6.out HG6.out i HT.out.2.2.2.1 hlen 3 false).mono ?_; rintro o w7 ⟨b', c', rfl, h7, hb7⟩; have HQ7 := Hid.mk' (HQ6.out.call hb7); have hq4 : w7.heap[w.heap.size + 1]? = some (.cells #[.int .i64 0, .int .i64 0, .slice none 0 0, .slice none 0 0, .slice none 0 0, .slice none 0 0, .slice none 0 0, .slice none 0 0] 33 (0, 0)) := HQ7.out.g4; obtain ⟨d0, d1, d2, d3, d4, d5, d6, d7⟩ := blk8 hq4; have f0 := fz8 hq4 0; have f1 := fz8 hq4 1; have f2 := fz8 hq4 2; have f3 := fz8 hq4 3; have f4 := fz8 hq4 4; have f5 := fz8 hq4 5; have f6 := fz8 hq4 6; have f7 := fz8 hq4 7; clear hq4)
      have HR7 := Hid.mk' (h7.nqc HQ6.out.sz hb7.size)
      obtain ⟨g8, h8, hb8⟩ := HQ7.out.res hG HR7.out
      try dsimp only at g8 h8 hb8
      clear d0 d1 d2 d3 d4 d5 d6 d7 f0 f1 f2 f3 f4 f5 f6 f7
      generalize ((((((((w7.setCell _ _).setCell _ _).setCell _ _).setCell _ _).setCell _ _).setCell _ _).setCell _ _).setCell _ _) = w8 at *
      obtain ⟨d0, d1, d2, d3, d4, d5, d6, d7⟩ := blk8 g8
      refine bodyPost_ret (v := .tuple #[.agg #[.int .i64 e, .int .i64 gd, .slice a.a a.n a.c, .slice b'.a b'.n b'.c, .slice c'.a c'.n c'.c, .slice x'.a x'.n x'.c, .slice y'.a y'.n y'.c, .slice z'.a z'.n z'.c], .bool true]) (by simp [results, Tryd.results46, go_sem, d0, d1, d2, d3, d4, d5, d6, d7]) rfl ?_
      rw [HE.out.1, HE.out.2]
      exact ⟨_, rfl, a, b', c', x', y', z', rfl, h8, hb8⟩
  · have HE := Hid.mk' (em_1 (q := q) hW (by rw [HLS.out.2]; exact h3))
    have k3 : (t != 1) = true := by simp [h3]
    clear h3
    have hq4 : w4.heap[w.heap.size + 1]? = some (.cells #[.int .i64 0, .int .i64 0, .slice none 0 0, .slice none 0 0, .slice none 0 0, .slice none 0 0, .slice none 0 0, .slice none 0 0] 33 (0, 0)) := HQ4.out.g4
    obtain ⟨d0, d1, d2, d3, d4, d5, d6, d7⟩ := blk8 hq4
    have f0 := fz8 hq4 0
    have f1 := fz8 hq4 1
    have f2 := fz8 hq4 2
    have f3 := fz8 hq4 3
    have f4 := fz8 hq4 4
    have f5 := fz8 hq4 5
    have f6 := fz8 hq4 6
    have f7 := fz8 hq4 7
    clear hq4
    go_wp2
    obtain ⟨g8, h8, hb8⟩ := HQ4.out.res hG HR4.out
    try dsimp only at g8 h8 hb8
    clear d0 d1 d2 d3 d4 d5 d6 d7 f0 f1 f2 f3 f4 f5 f6 f7
    generalize ((((((((w4.setCell _ _).setCell _ _).setCell _ _).setCell _ _).setCell _ _).setCell _ _).setCell _ _).setCell _ _) = w8 at *
    obtain ⟨d0, d1, d2, d3, d4, d5, d6, d7⟩ := blk8 g8
    refine bodyPost_ret (v := .tuple #[.agg #[.int .i64 e, .int .i64 gd, .slice a.a a.n a.c, .slice (some ⟨q2, p2, none⟩)  bn  bk, .slice (some ⟨r2, p3, none⟩)  cn  ck, .slice x.a x.n x.c, .slice y.a y.n y.c, .slice z.a z.n z.c], .bool false]) (by simp [results, Tryd.results46, go_sem, d0, d1, d2, d3, d4, d5, d6, d7]) rfl ?_
    rw [HE.out.1, HE.out.2]
    exact ⟨_, rfl, a, ⟨some ⟨q2, p2, none⟩, bn, bk⟩, ⟨some ⟨r2, p3, none⟩, cn, ck⟩, x, y, z, rfl, h8, hb8⟩
theorem rempty_f {w : World} {A : Nat → Prop} {e gd : Int} {a b c x y z : Sl} {s : Fl} (q : ByteArray) (h : RL6 w A a b c x y z s) (hG : ∀ k, A k → k < w.heap.size) (hW : W s) (hlen : s.H.length ≤ 4000) (hl : s.L.length ≤ 3500) (hm : s.M.length ≤ 3500) :
    Calls Tryd.prog 46 #[.agg #[.int .i64 e, .int .i64 gd, .slice a.a a.n a.c, .slice b.a b.n b.c, .slice c.a c.n c.c, .slice x.a x.n x.c, .slice y.a y.n y.c, .slice z.a z.n z.c], .string q] w fun o w' => ∃ v, o = .returned (.tuple #[v, .bool (emB q s)]) ∧ RP w w' A e gd (emS q s) v := by
  cases hh : isH q s.H with
  | false => exact rempty_n q h hG hh
  | true => exact rempty_y q h hG hh hW hlen hl hm
end Go.Proofs.YtmlkpfkeeifgeaaDoor
