/-
  Several texts in one: RfS, PlaysW.
-/
import Derived.Test.YtmlkpfkeeifgeaaDoorM10
import Derived.Test.YtmlkpfkeeifgeaaDoorM8
import Derived.Test.YtmlkpfkeeifgeaaDoorM7
import Derived.Test.YtmlkpfkeeifgeaaDoorM9
import Derived.Test.YtmlkpfkeeifgeaaDoorM2
import Derived.Test.YtmlkpfkeeifgeaaDoorM11
import Derived.Test.YtmlkpfkeeifgeaaDoorM4
import Derived.Test.YtmlkpfkeeifgeaaDoorGuardW
namespace Go.Proofs.YtmlkpfkeeifgeaaDoor
open Go.ChangeShapes Go.WideShapes Go.ChangeAt Go.RowKit Go.Joins Go.Deep

/-- The two boxes of a step's call, and its two results' blocks. -/
structure Ps (w wc : World) (e gd : Int) (a b c x y z : Sl) (kd n : Int) (q : ByteArray) (ma : Option Addr) (ml mc : Nat) : Prop where
  hb : Below w.heap.size w wc
  sz : w.heap.size + 4 ≤ wc.heap.size
  g0 : wc.heap[w.heap.size]? = some (.cells #[.int .i64 e, .int .i64 gd, .slice a.a a.n a.c, .slice b.a b.n b.c, .slice c.a c.n c.c, .slice x.a x.n x.c, .slice y.a y.n y.c, .slice z.a z.n z.c] 33 (0, 0))
  g1 : wc.heap[w.heap.size + 1]? = some (.cells #[.int .i64 kd, .int .i64 n, .string q, .slice ma ml mc] 36 (0, 0))
  g2 : wc.heap[w.heap.size + 2]? = some (.cells #[.int .i64 0, .int .i64 0, .slice none 0 0, .slice none 0 0, .slice none 0 0, .slice none 0 0, .slice none 0 0, .slice none 0 0] 33 (0, 0))
  g3 : wc.heap[w.heap.size + 3]? = some (.cells #[.bool false, .int .i64 0, .slice none 0 0, .slice none 0 0] 39 (0, 0))
section
variable {w wc w3 w' : World} {A : Nat → Prop} {e gd kd n : Int} {a b c x y z : Sl} {s : Fl} {q : ByteArray} {ma : Option Addr} {ml mc : Nat}
theorem Ps.start (w : World) (e gd : Int) (a b c x y z : Sl) (kd n : Int) (q : ByteArray) (ma : Option Addr) (ml mc : Nat) : Ps w ((((w.alloc (.cells #[.int .i64 e, .int .i64 gd, .slice a.a a.n a.c, .slice b.a b.n b.c, .slice c.a c.n c.c, .slice x.a x.n x.c, .slice y.a y.n y.c, .slice z.a z.n z.c] 33)).alloc (.cells #[.int .i64 kd, .int .i64 n, .string q, .slice ma ml mc] 36)).alloc (.cells #[.int .i64 0, .int .i64 0, .slice none 0 0, .slice none 0 0, .slice none 0 0, .slice none 0 0, .slice none 0 0, .slice none 0 0] 33)).alloc (.cells #[.bool false, .int .i64 0, .slice none 0 0, .slice none 0 0] 39)) e gd a b c x y z kd n q ma ml mc := by
  have b1 : Below w.heap.size w (w.alloc (.cells #[.int .i64 e, .int .i64 gd, .slice a.a a.n a.c, .slice b.a b.n b.c, .slice c.a c.n c.c, .slice x.a x.n x.c, .slice y.a y.n y.c, .slice z.a z.n z.c] 33)) := (Below.refl _ w).alloc (Nat.le_refl _) _
  have h1 := heap_alloc_new w (.cells #[.int .i64 e, .int .i64 gd, .slice a.a a.n a.c, .slice b.a b.n b.c, .slice c.a c.n c.c, .slice x.a x.n x.c, .slice y.a y.n y.c, .slice z.a z.n z.c] 33)
  have s1 : (w.alloc (.cells #[.int .i64 e, .int .i64 gd, .slice a.a a.n a.c, .slice b.a b.n b.c, .slice c.a c.n c.c, .slice x.a x.n x.c, .slice y.a y.n y.c, .slice z.a z.n z.c] 33)).heap.size = w.heap.size + 1 := by simp
  generalize w.alloc (.cells #[.int .i64 e, .int .i64 gd, .slice a.a a.n a.c, .slice b.a b.n b.c, .slice c.a c.n c.c, .slice x.a x.n x.c, .slice y.a y.n y.c, .slice z.a z.n z.c] 33) = w1 at *
  have b2 : Below w1.heap.size w1 (w1.alloc (.cells #[.int .i64 kd, .int .i64 n, .string q, .slice ma ml mc] 36)) := (Below.refl _ w1).alloc (Nat.le_refl _) _
  have h2 := heap_alloc_new w1 (.cells #[.int .i64 kd, .int .i64 n, .string q, .slice ma ml mc] 36)
  have s2 : (w1.alloc (.cells #[.int .i64 kd, .int .i64 n, .string q, .slice ma ml mc] 36)).heap.size = w.heap.size + 2 := by simp [s1]
  generalize w1.alloc (.cells #[.int .i64 kd, .int .i64 n, .string q, .slice ma ml mc] 36) = w2 at *
  have b3 : Below w2.heap.size w2 (w2.alloc (.cells #[.int .i64 0, .int .i64 0, .slice none 0 0, .slice none 0 0, .slice none 0 0, .slice none 0 0, .slice none 0 0, .slice none 0 0] 33)) := (Below.refl _ w2).alloc (Nat.le_refl _) _
  have h3 := heap_alloc_new w2 (.cells #[.int .i64 0, .int .i64 0, .slice none 0 0, .slice none 0 0, .slice none 0 0, .slice none 0 0, .slice none 0 0, .slice none 0 0] 33)
  have s3 : (w2.alloc (.cells #[.int .i64 0, .int .i64 0, .slice none 0 0, .slice none 0 0, .slice none 0 0, .slice none 0 0, .slice none 0 0, .slice none 0 0] 33)).heap.size = w.heap.size + 3 := by simp [s2]
  generalize w2.alloc (.cells #[.int .i64 0, .int .i64 0, .slice none 0 0, .slice none 0 0, .slice none 0 0, .slice none 0 0, .slice none 0 0, .slice none 0 0] 33) = w3 at *
  have b4 : Below w3.heap.size w3 (w3.alloc (.cells #[.bool false, .int .i64 0, .slice none 0 0, .slice none 0 0] 39)) := (Below.refl _ w3).alloc (Nat.le_refl _) _
  have h4 := heap_alloc_new w3 (.cells #[.bool false, .int .i64 0, .slice none 0 0, .slice none 0 0] 39)
  have s4 : (w3.alloc (.cells #[.bool false, .int .i64 0, .slice none 0 0, .slice none 0 0] 39)).heap.size = w.heap.size + 4 := by simp [s3]
  generalize w3.alloc (.cells #[.bool false, .int .i64 0, .slice none 0 0, .slice none 0 0] 39) = w4 at *
  rw [s1] at h2
  rw [s2] at h3
  rw [s3] at h4
  exact ⟨b1.trans ((b2.mono (by omega)).trans ((b3.mono (by omega)).trans (b4.mono (by omega)))), by omega, (b4.block _ (by omega)).trans ((b3.block _ (by omega)).trans ((b2.block _ (by omega)).trans h1)), (b4.block _ (by omega)).trans ((b3.block _ (by omega)).trans h2), (b4.block _ (by omega)).trans h3, h4⟩
theorem Ps.call (h : Ps w wc e gd a b c x y z kd n q ma ml mc) (hb : Below wc.heap.size wc w3) : Ps w w3 e gd a b c x y z kd n q ma ml mc := by
  have hs := h.sz
  exact ⟨h.hb.trans (hb.mono h.hb.size), Nat.le_trans h.sz hb.size, (hb.block _ (by omega)).trans h.g0, (hb.block _ (by omega)).trans h.g1, (hb.block _ (by omega)).trans h.g2, (hb.block _ (by omega)).trans h.g3⟩
theorem Ps.fin (h : Ps w wc e gd a b c x y z kd n q ma ml mc) (p0 p1 p2 p3 p4 p5 p6 p7 r0 r1 r2 r3 : Value) :
    ((((((((((((wc.setCell ⟨(w.heap.size + 2), 0, none⟩ p0).setCell ⟨(w.heap.size + 2), 1, none⟩ p1).setCell ⟨(w.heap.size + 2), 2, none⟩ p2).setCell ⟨(w.heap.size + 2), 3, none⟩ p3).setCell ⟨(w.heap.size + 2), 4, none⟩ p4).setCell ⟨(w.heap.size + 2), 5, none⟩ p5).setCell ⟨(w.heap.size + 2), 6, none⟩ p6).setCell ⟨(w.heap.size + 2), 7, none⟩ p7).setCell ⟨(w.heap.size + 3), 0, none⟩ r0).setCell ⟨(w.heap.size + 3), 1, none⟩ r1).setCell ⟨(w.heap.size + 3), 2, none⟩ r2).setCell ⟨(w.heap.size + 3), 3, none⟩ r3).heap[w.heap.size + 2]? = some (.cells #[p0, p1, p2, p3, p4, p5, p6, p7] 33 (0, 0)) ∧ ((((((((((((wc.setCell ⟨(w.heap.size + 2), 0, none⟩ p0).setCell ⟨(w.heap.size + 2), 1, none⟩ p1).setCell ⟨(w.heap.size + 2), 2, none⟩ p2).setCell ⟨(w.heap.size + 2), 3, none⟩ p3).setCell ⟨(w.heap.size + 2), 4, none⟩ p4).setCell ⟨(w.heap.size + 2), 5, none⟩ p5).setCell ⟨(w.heap.size + 2), 6, none⟩ p6).setCell ⟨(w.heap.size + 2), 7, none⟩ p7).setCell ⟨(w.heap.size + 3), 0, none⟩ r0).setCell ⟨(w.heap.size + 3), 1, none⟩ r1).setCell ⟨(w.heap.size + 3), 2, none⟩ r2).setCell ⟨(w.heap.size + 3), 3, none⟩ r3).heap[w.heap.size + 3]? = some (.cells #[r0, r1, r2, r3] 39 (0, 0)) ∧ Below w.heap.size w ((((((((((((wc.setCell ⟨(w.heap.size + 2), 0, none⟩ p0).setCell ⟨(w.heap.size + 2), 1, none⟩ p1).setCell ⟨(w.heap.size + 2), 2, none⟩ p2).setCell ⟨(w.heap.size + 2), 3, none⟩ p3).setCell ⟨(w.heap.size + 2), 4, none⟩ p4).setCell ⟨(w.heap.size + 2), 5, none⟩ p5).setCell ⟨(w.heap.size + 2), 6, none⟩ p6).setCell ⟨(w.heap.size + 2), 7, none⟩ p7).setCell ⟨(w.heap.size + 3), 0, none⟩ r0).setCell ⟨(w.heap.size + 3), 1, none⟩ r1).setCell ⟨(w.heap.size + 3), 2, none⟩ r2).setCell ⟨(w.heap.size + 3), 3, none⟩ r3) ∧ Keep (fun k => k ≠ w.heap.size + 2 ∧ k ≠ w.heap.size + 3) wc ((((((((((((wc.setCell ⟨(w.heap.size + 2), 0, none⟩ p0).setCell ⟨(w.heap.size + 2), 1, none⟩ p1).setCell ⟨(w.heap.size + 2), 2, none⟩ p2).setCell ⟨(w.heap.size + 2), 3, none⟩ p3).setCell ⟨(w.heap.size + 2), 4, none⟩ p4).setCell ⟨(w.heap.size + 2), 5, none⟩ p5).setCell ⟨(w.heap.size + 2), 6, none⟩ p6).setCell ⟨(w.heap.size + 2), 7, none⟩ p7).setCell ⟨(w.heap.size + 3), 0, none⟩ r0).setCell ⟨(w.heap.size + 3), 1, none⟩ r1).setCell ⟨(w.heap.size + 3), 2, none⟩ r2).setCell ⟨(w.heap.size + 3), 3, none⟩ r3) := by
  obtain ⟨hb8, hk8⟩ := put8_rest wc w.heap.size (w.heap.size + 2) (by omega) p0 p1 p2 p3 p4 p5 p6 p7
  have g8 := put8 h.g2 p0 p1 p2 p3 p4 p5 p6 p7
  have g3 := (hk8 (w.heap.size + 3) (by omega)).trans h.g3
  generalize ((((((((wc.setCell ⟨(w.heap.size + 2), 0, none⟩ p0).setCell ⟨(w.heap.size + 2), 1, none⟩ p1).setCell ⟨(w.heap.size + 2), 2, none⟩ p2).setCell ⟨(w.heap.size + 2), 3, none⟩ p3).setCell ⟨(w.heap.size + 2), 4, none⟩ p4).setCell ⟨(w.heap.size + 2), 5, none⟩ p5).setCell ⟨(w.heap.size + 2), 6, none⟩ p6).setCell ⟨(w.heap.size + 2), 7, none⟩ p7) = w8 at *
  obtain ⟨h4, k4⟩ := put4 g3 r0 r1 r2 r3
  have k8 : Keep (fun k => k ≠ w.heap.size + 2 ∧ k ≠ w.heap.size + 3) wc w8 := ⟨hb8.os, hb8.tape, hb8.output, hb8.size, fun k _ hk => hk8 k hk.1⟩
  have k9 := k8.trans (k4.mono (fun _ _ hk => hk.2))
  refine ⟨(k4.block _ (Array.getElem?_eq_some_iff.1 g8).1 (by omega)).trans g8, h4, ?_, k9⟩
  exact ⟨k9.os.trans h.hb.os, k9.tape.trans h.hb.tape, k9.output.trans h.hb.output, Nat.le_trans h.hb.size k9.size, fun k hk => (k9.block k (Nat.lt_of_lt_of_le hk h.hb.size) ⟨by omega, by omega⟩).trans (h.hb.block k hk)⟩
theorem nostr {g : Nat} {cs : Array Value} {t : TypeId} (h : w.heap[g]? = some (.cells cs t (0, 0))) (hc : ∀ u ∈ cs.toList, ∀ s, u ≠ .string s) : ∀ o s, w.cell? ⟨g, o, none⟩ ≠ some (.string s) := by
  intro o s hh
  rw [cell_of_row w g o cs t (0, 0) h] at hh
  exact hc _ (by simpa using Array.mem_of_getElem? hh) s rfl
theorem TxAt.other {u : Value} {l : List ByteArray} {g1 g2 : Nat} (h : TxAt w u l) (hk : Keep (fun k => k ≠ g1 ∧ k ≠ g2) w w') (n1 : ∀ o s, w.cell? ⟨g1, o, none⟩ ≠ some (.string s)) (n2 : ∀ o s, w.cell? ⟨g2, o, none⟩ ≠ some (.string s)) : TxAt w' u l := by
  obtain ⟨a, c, e, hs, hn⟩ := h
  refine ⟨a, c, e, ⟨hs.hlen, hs.hle, hs.hcap, fun j hj => ?_⟩, hn⟩
  obtain ⟨b, off, e1, hlt, hc⟩ := hs.at_ j hj
  refine ⟨b, off, e1, Nat.lt_of_lt_of_le hlt hk.size, hk.cell (a := ⟨b, off + j, none⟩) hc ⟨?_, ?_⟩⟩
  · intro e2
    have e3 : b = g1 := e2
    subst e3
    exact n1 _ _ hc
  · intro e2
    have e3 : b = g2 := e2
    subst e3
    exact n2 _ _ hc
theorem Ps.tx (h : Ps w wc e gd a b c x y z kd n q ma ml mc) {u : Value} {l : List ByteArray} (ht : TxAt wc u l) (hk : Keep (fun k => k ≠ w.heap.size + 2 ∧ k ≠ w.heap.size + 3) wc w') : TxAt w' u l :=
  ht.other hk (nostr h.g2 (by simp)) (nostr h.g3 (by simp))
theorem Ps.rl {A : Nat → Prop} {a' b' c' x' y' z' : Sl} {w1 w2 : World} (hs1 : w.heap.size + 4 ≤ w1.heap.size) (hG : ∀ k, A k → k < w.heap.size) (h3 : RL6 w2 (nw A w1 w2) a' b' c' x' y' z' s) (hb : Below w2.heap.size w2 wc) (hk : Keep (fun k => k ≠ w.heap.size + 2 ∧ k ≠ w.heap.size + 3) wc w') : RL6 w' (nw A w w') a' b' c' x' y' z' s := by
  have h4 := (h3.below hb (fun _ hk => hk)).keep hk (fun k hk => by
    rcases hk with hk | hk
    · have := hG k hk; omega
    · omega)
  have h1 := hb.size
  have h2 := hk.size
  refine h4.mono (fun k hq => ?_)
  rcases hq with hk | hk
  · exact .inl hk
  · exact .inr ⟨by omega, by omega⟩
end
set_option maxHeartbeats 4000000 in
set_option maxRecDepth 100000 in
theorem rstep_0 {w : World} {A : Nat → Prop} {e gd : Int} {a b c x y z : Sl} {s : Fl} (kd n : Int) (q : ByteArray) (ma : Option Addr) (ml mc : Nat) (l : List ByteArray) (h : RL6 w A a b c x y z s) (hG : ∀ k, A k → k < w.heap.size) (hW : W s) (hlen : s.H.length ≤ 1600) (he : e ≤ 1000) (hq : q.size ≤ maxLen) (hl : StrsAt w ma ml mc l) (hls : ∀ y ∈ l, y.size ≤ maxLen) (hk : kindI kd = 0) (R : Res) (hR : stp e gd 0 n q l s = R) :
    Calls Tryd.prog 15 #[.agg #[.int .i64 e, .int .i64 gd, .slice a.a a.n a.c, .slice b.a b.n b.c, .slice c.a c.n c.c, .slice x.a x.n x.c, .slice y.a y.n y.c, .slice z.a z.n z.c], .agg #[.int .i64 kd, .int .i64 n, .string q, .slice ma ml mc]] w fun o w' => ∃ v va vb, o = .returned (.tuple #[v, .agg #[.bool R.b, .int .i64 R.E, va, vb]]) ∧ RP w w' A e gd R.s v ∧ TxAt w' va R.P ∧ TxAt w' vb R.Q := by
  have _hu := And.intro he (And.intro hls (And.intro hq hk))
  clear _hu
  subst hR
  have hl4 : s.H.length ≤ 4000 := by omega
  have hf3 := hW.few3
  have hl3 : s.L.length ≤ 3500 := by omega
  have hm3 : s.M.length ≤ 3500 := by omega
  have hml3 : s.M.length + s.L.length ≤ 3500 := by omega
  have hFew := hW.few (by omega)
  obtain ⟨w1, hw1⟩ : ∃ w1, w1 = (((w.alloc (.cells #[.int .i64 e, .int .i64 gd, .slice a.a a.n a.c, .slice b.a b.n b.c, .slice c.a c.n c.c, .slice x.a x.n x.c, .slice y.a y.n y.c, .slice z.a z.n z.c] 33)).alloc (.cells #[.int .i64 kd, .int .i64 n, .string q, .slice ma ml mc] 36)).alloc (.cells #[.int .i64 0, .int .i64 0, .slice none 0 0, .slice none 0 0, .slice none 0 0, .slice none 0 0, .slice none 0 0, .slice none 0 0] 33)).alloc (.cells #[.bool false, .int .i64 0, .slice none 0 0, .slice none 0 0] 39) := ⟨_, rfl⟩
  have HP : Hid (Ps w w1 e gd a b c x y z kd n q ma ml mc) := by rw [hw1]; exact Ps.start w e gd a b c x y z kd n q ma ml mc
  have hkd := kind_step kd n (.string q) (.slice ma ml mc) w1
  rw [hk] at hkd
  have HKD := Hid.mk' hkd
  have HR1 : Hid (RL6 w1 A a b c x y z s) := h.below HP.out.hb (fun _ hk => hk)
  have hl1 := hl.below (Nat.le_refl _) HP.out.hb
  have HL1 := Hid.mk' hl1
  have g0 := HP.out.g0
  have g1 := HP.out.g1
  obtain ⟨c0, c1, c2, c3, c4, c5, c6, c7⟩ := blk8 g0
  obtain ⟨y0, y1, y2, y3, -⟩ := blk4 g1
  clear h hl hl1 hkd hk g0 g1 hf3
  go_enter Tryd.func15, Tryd.ntmps15
  go_upto_region 1 with fail
  rw [← hw1]
  clear hw1
  simp only [show w.heap.size + 1 + 1 = w.heap.size + 2 from rfl, show w.heap.size + 2 + 1 = w.heap.size + 3 from rfl]
  go_upto_region 2 with (go_at_call 19; refine HKD.out.mono ?_; rintro o w2 ⟨rfl, hb2⟩)
  have HP2 := Hid.mk' (HP.out.call hb2)
  have HR2 : Hid (RL6 w2 A a b c x y z s) := HR1.out.below hb2 (fun _ hk => hk)
  have HG2 : Hid (∀ k, A k → k < w2.heap.size) := fun k hk => Nat.lt_of_lt_of_le (hG k hk) HP2.out.hb.size
  have hl2 := HL1.out.below (Nat.le_refl _) hb2
  clear c0 c1 c2 c3 c4 c5 c6 c7 y0 y1 y2 y3
  have g0 := HP2.out.g0
  have g1 := HP2.out.g1
  obtain ⟨c0, c1, c2, c3, c4, c5, c6, c7⟩ := blk8 g0
  obtain ⟨y0, y1, y2, y3, -⟩ := blk4 g1
  have HC := Hid.mk' (rres_f (e := e) (gd := gd) ma ml mc l n HR2.out HG2.out hl2 hls hW hlen)
  clear g0 g1 hl2
  obtain ⟨E, hE⟩ : ∃ E, E = reE l := ⟨_, rfl⟩
  rw [← hE] at HC
  have HE0 : Hid (E = reE l) := hE
  clear hE
  go_upto_region 4 with (go_at_call 39; refine HC.out.mono ?_; rintro o w3 ⟨v, u1, u2, rfl, ⟨ja, jb, jc, jx, jy, jz, rfl, h3, hb3⟩, t1, t2⟩; obtain ⟨o1, rfl⟩ := Tx_sl t1; obtain ⟨o2, rfl⟩ := Tx_sl t2)
  have hb4 : Below w3.heap.size w3 (w3.alloc (.cells #[.int .i64 e, .int .i64 gd, .slice ja.a ja.n ja.c, .slice jb.a jb.n jb.c, .slice jc.a jc.n jc.c, .slice jx.a jx.n jx.c, .slice jy.a jy.n jy.c, .slice jz.a jz.n jz.c] 33)) := (Below.refl _ w3).alloc (Nat.le_refl _) _
  have hg4 := heap_alloc_new w3 (.cells #[.int .i64 e, .int .i64 gd, .slice ja.a ja.n ja.c, .slice jb.a jb.n jb.c, .slice jc.a jc.n jc.c, .slice jx.a jx.n jx.c, .slice jy.a jy.n jy.c, .slice jz.a jz.n jz.c] 33)
  have HP3 := Hid.mk' (HP2.out.call hb3)
  have HH3 := Hid.mk' h3
  have HT1 := Hid.mk' (t1.below hb4)
  have HT2 := Hid.mk' (t2.below hb4)
  generalize w3.alloc (.cells #[.int .i64 e, .int .i64 gd, .slice ja.a ja.n ja.c, .slice jb.a jb.n jb.c, .slice jc.a jc.n jc.c, .slice jx.a jx.n jx.c, .slice jy.a jy.n jy.c, .slice jz.a jz.n jz.c] 33) = w4 at *
  have HP4 := Hid.mk' (HP3.out.call hb4)
  have HB4 := Hid.mk' hb4
  obtain ⟨m0, m1, m2, m3, m4, m5, m6, m7⟩ := blk8 hg4
  have g2 := HP4.out.g2
  have g3 := HP4.out.g3
  obtain ⟨d0, d1, d2, d3, d4, d5, d6, d7⟩ := blk8 g2
  have f0 := fz8 g2 0
  have f1 := fz8 g2 1
  have f2 := fz8 g2 2
  have f3 := fz8 g2 3
  have f4 := fz8 g2 4
  have f5 := fz8 g2 5
  have f6 := fz8 g2 6
  have f7 := fz8 g2 7
  obtain ⟨z0, z1, z2, z3, -⟩ := blk4 g3
  have q0 := fz4 g3 0
  have q1 := fz4 g3 1
  have q2 := fz4 g3 2
  have q3 := fz4 g3 3
  have hne : w.heap.size + 2 ≠ w.heap.size + 3 := by omega
  clear c0 c1 c2 c3 c4 c5 c6 c7 y0 y1 y2 y3 g2 g3 hg4 h3 hb4 t1 t2
  go_wp2
  obtain ⟨e8, e9, hb8, hk8⟩ := HP4.out.fin (.int .i64 e) (.int .i64 gd) (.slice ja.a ja.n ja.c) (.slice jb.a jb.n jb.c) (.slice jc.a jc.n jc.c) (.slice jx.a jx.n jx.c) (.slice jy.a jy.n jy.c) (.slice jz.a jz.n jz.c) (.bool false) (.int .i64 E) (.slice o1.a o1.n o1.c) (.slice o2.a o2.n o2.c)
  clear d0 d1 d2 d3 d4 d5 d6 d7 f0 f1 f2 f3 f4 f5 f6 f7 m0 m1 m2 m3 m4 m5 m6 m7 z0 z1 z2 z3 q0 q1 q2 q3 hne
  generalize ((((((((((((w4.setCell _ _).setCell _ _).setCell _ _).setCell _ _).setCell _ _).setCell _ _).setCell _ _).setCell _ _).setCell _ _).setCell _ _).setCell _ _).setCell _ _) = w8 at *
  obtain ⟨d0, d1, d2, d3, d4, d5, d6, d7⟩ := blk8 e8
  obtain ⟨y0, y1, y2, y3, -⟩ := blk4 e9
  refine bodyPost_ret (v := .tuple #[.agg #[.int .i64 e, .int .i64 gd, .slice ja.a ja.n ja.c, .slice jb.a jb.n jb.c, .slice jc.a jc.n jc.c, .slice jx.a jx.n jx.c, .slice jy.a jy.n jy.c, .slice jz.a jz.n jz.c], .agg #[.bool false, .int .i64 E, .slice o1.a o1.n o1.c, .slice o2.a o2.n o2.c]]) (by simp [results, Tryd.results15, go_sem, d0, d1, d2, d3, d4, d5, d6, d7, y0, y1, y2, y3]) rfl ?_
  have hE := HE0.out; subst hE
  exact ⟨_, _, _, rfl, RP.mk (Ps.rl HP2.out.sz hG HH3.out HB4.out hk8) hb8, HP4.out.tx (HT1.out) hk8, HP4.out.tx (HT2.out) hk8⟩
set_option maxHeartbeats 4000000 in
set_option maxRecDepth 100000 in
theorem rstep_1 {w : World} {A : Nat → Prop} {e gd : Int} {a b c x y z : Sl} {s : Fl} (kd n : Int) (q : ByteArray) (ma : Option Addr) (ml mc : Nat) (l : List ByteArray) (h : RL6 w A a b c x y z s) (hG : ∀ k, A k → k < w.heap.size) (hW : W s) (hlen : s.H.length ≤ 1600) (he : e ≤ 1000) (hq : q.size ≤ maxLen) (hl : StrsAt w ma ml mc l) (hls : ∀ y ∈ l, y.size ≤ maxLen) (hk : kindI kd = 1) (R : Res) (hR : stp e gd 1 n q l s = R) :
    Calls Tryd.prog 15 #[.agg #[.int .i64 e, .int .i64 gd, .slice a.a a.n a.c, .slice b.a b.n b.c, .slice c.a c.n c.c, .slice x.a x.n x.c, .slice y.a y.n y.c, .slice z.a z.n z.c], .agg #[.int .i64 kd, .int .i64 n, .string q, .slice ma ml mc]] w fun o w' => ∃ v va vb, o = .returned (.tuple #[v, .agg #[.bool R.b, .int .i64 R.E, va, vb]]) ∧ RP w w' A e gd R.s v ∧ TxAt w' va R.P ∧ TxAt w' vb R.Q := by
  have _hu := And.intro he (And.intro hls (And.intro hq hk))
  clear _hu
  subst hR
  have hl4 : s.H.length ≤ 4000 := by omega
  have hf3 := hW.few3
  have hl3 : s.L.length ≤ 3500 := by omega
  have hm3 : s.M.length ≤ 3500 := by omega
  have hml3 : s.M.length + s.L.length ≤ 3500 := by omega
  have hFew := hW.few (by omega)
  obtain ⟨w1, hw1⟩ : ∃ w1, w1 = (((w.alloc (.cells #[.int .i64 e, .int .i64 gd, .slice a.a a.n a.c, .slice b.a b.n b.c, .slice c.a c.n c.c, .slice x.a x.n x.c, .slice y.a y.n y.c, .slice z.a z.n z.c] 33)).alloc (.cells #[.int .i64 kd, .int .i64 n, .string q, .slice ma ml mc] 36)).alloc (.cells #[.int .i64 0, .int .i64 0, .slice none 0 0, .slice none 0 0, .slice none 0 0, .slice none 0 0, .slice none 0 0, .slice none 0 0] 33)).alloc (.cells #[.bool false, .int .i64 0, .slice none 0 0, .slice none 0 0] 39) := ⟨_, rfl⟩
  have HP : Hid (Ps w w1 e gd a b c x y z kd n q ma ml mc) := by rw [hw1]; exact Ps.start w e gd a b c x y z kd n q ma ml mc
  have hkd := kind_step kd n (.string q) (.slice ma ml mc) w1
  rw [hk] at hkd
  have HKD := Hid.mk' hkd
  have HR1 : Hid (RL6 w1 A a b c x y z s) := h.below HP.out.hb (fun _ hk => hk)
  have hl1 := hl.below (Nat.le_refl _) HP.out.hb
  have HL1 := Hid.mk' hl1
  have g0 := HP.out.g0
  have g1 := HP.out.g1
  obtain ⟨c0, c1, c2, c3, c4, c5, c6, c7⟩ := blk8 g0
  obtain ⟨y0, y1, y2, y3, -⟩ := blk4 g1
  clear h hl hl1 hkd hk g0 g1 hf3
  go_enter Tryd.func15, Tryd.ntmps15
  go_upto_region 1 with fail
  rw [← hw1]
  clear hw1
  simp only [show w.heap.size + 1 + 1 = w.heap.size + 2 from rfl, show w.heap.size + 2 + 1 = w.heap.size + 3 from rfl]
  go_upto_region 2 with (go_at_call 19; refine HKD.out.mono ?_; rintro o w2 ⟨rfl, hb2⟩)
  have HP2 := Hid.mk' (HP.out.call hb2)
  have HR2 : Hid (RL6 w2 A a b c x y z s) := HR1.out.below hb2 (fun _ hk => hk)
  have HG2 : Hid (∀ k, A k → k < w2.heap.size) := fun k hk => Nat.lt_of_lt_of_le (hG k hk) HP2.out.hb.size
  have hl2 := HL1.out.below (Nat.le_refl _) hb2
  clear c0 c1 c2 c3 c4 c5 c6 c7 y0 y1 y2 y3
  have g0 := HP2.out.g0
  have g1 := HP2.out.g1
  obtain ⟨c0, c1, c2, c3, c4, c5, c6, c7⟩ := blk8 g0
  obtain ⟨y0, y1, y2, y3, -⟩ := blk4 g1
  have HC := Hid.mk' (rdrain_f (e := e) (gd := gd) q HR2.out HG2.out hq)
  clear g0 g1 hl2
  obtain ⟨E, hE⟩ : ∃ E, E = drE q s := ⟨_, rfl⟩
  rw [← hE] at HC
  have HE0 : Hid (E = drE q s) := hE
  clear hE
  go_upto_region 7 with (go_at_call 40; refine HC.out.mono ?_; rintro o w3 ⟨v, rfl, ⟨ja, jb, jc, jx, jy, jz, rfl, h3, hb3⟩⟩)
  have hb4 : Below w3.heap.size w3 (w3.alloc (.cells #[.int .i64 e, .int .i64 gd, .slice ja.a ja.n ja.c, .slice jb.a jb.n jb.c, .slice jc.a jc.n jc.c, .slice jx.a jx.n jx.c, .slice jy.a jy.n jy.c, .slice jz.a jz.n jz.c] 33)) := (Below.refl _ w3).alloc (Nat.le_refl _) _
  have hg4 := heap_alloc_new w3 (.cells #[.int .i64 e, .int .i64 gd, .slice ja.a ja.n ja.c, .slice jb.a jb.n jb.c, .slice jc.a jc.n jc.c, .slice jx.a jx.n jx.c, .slice jy.a jy.n jy.c, .slice jz.a jz.n jz.c] 33)
  have HP3 := Hid.mk' (HP2.out.call hb3)
  have HH3 := Hid.mk' h3
  generalize w3.alloc (.cells #[.int .i64 e, .int .i64 gd, .slice ja.a ja.n ja.c, .slice jb.a jb.n jb.c, .slice jc.a jc.n jc.c, .slice jx.a jx.n jx.c, .slice jy.a jy.n jy.c, .slice jz.a jz.n jz.c] 33) = w4 at *
  have HP4 := Hid.mk' (HP3.out.call hb4)
  have HB4 := Hid.mk' hb4
  obtain ⟨m0, m1, m2, m3, m4, m5, m6, m7⟩ := blk8 hg4
  have g2 := HP4.out.g2
  have g3 := HP4.out.g3
  obtain ⟨d0, d1, d2, d3, d4, d5, d6, d7⟩ := blk8 g2
  have f0 := fz8 g2 0
  have f1 := fz8 g2 1
  have f2 := fz8 g2 2
  have f3 := fz8 g2 3
  have f4 := fz8 g2 4
  have f5 := fz8 g2 5
  have f6 := fz8 g2 6
  have f7 := fz8 g2 7
  obtain ⟨z0, z1, z2, z3, -⟩ := blk4 g3
  have q0 := fz4 g3 0
  have q1 := fz4 g3 1
  have q2 := fz4 g3 2
  have q3 := fz4 g3 3
  have hne : w.heap.size + 2 ≠ w.heap.size + 3 := by omega
  clear c0 c1 c2 c3 c4 c5 c6 c7 y0 y1 y2 y3 g2 g3 hg4 h3 hb4
  go_wp2
  obtain ⟨e8, e9, hb8, hk8⟩ := HP4.out.fin (.int .i64 e) (.int .i64 gd) (.slice ja.a ja.n ja.c) (.slice jb.a jb.n jb.c) (.slice jc.a jc.n jc.c) (.slice jx.a jx.n jx.c) (.slice jy.a jy.n jy.c) (.slice jz.a jz.n jz.c) (.bool false) (.int .i64 E) (.slice none 0 0) (.slice none 0 0)
  clear d0 d1 d2 d3 d4 d5 d6 d7 f0 f1 f2 f3 f4 f5 f6 f7 m0 m1 m2 m3 m4 m5 m6 m7 z0 z1 z2 z3 q0 q1 q2 q3 hne
  generalize ((((((((((((w4.setCell _ _).setCell _ _).setCell _ _).setCell _ _).setCell _ _).setCell _ _).setCell _ _).setCell _ _).setCell _ _).setCell _ _).setCell _ _).setCell _ _) = w8 at *
  obtain ⟨d0, d1, d2, d3, d4, d5, d6, d7⟩ := blk8 e8
  obtain ⟨y0, y1, y2, y3, -⟩ := blk4 e9
  refine bodyPost_ret (v := .tuple #[.agg #[.int .i64 e, .int .i64 gd, .slice ja.a ja.n ja.c, .slice jb.a jb.n jb.c, .slice jc.a jc.n jc.c, .slice jx.a jx.n jx.c, .slice jy.a jy.n jy.c, .slice jz.a jz.n jz.c], .agg #[.bool false, .int .i64 E, .slice none 0 0, .slice none 0 0]]) (by simp [results, Tryd.results15, go_sem, d0, d1, d2, d3, d4, d5, d6, d7, y0, y1, y2, y3]) rfl ?_
  have hE := HE0.out; subst hE
  exact ⟨_, _, _, rfl, RP.mk (Ps.rl HP2.out.sz hG HH3.out HB4.out hk8) hb8, TxAt.nil _, TxAt.nil _⟩
set_option maxHeartbeats 4000000 in
set_option maxRecDepth 100000 in
theorem rstep_2 {w : World} {A : Nat → Prop} {e gd : Int} {a b c x y z : Sl} {s : Fl} (kd n : Int) (q : ByteArray) (ma : Option Addr) (ml mc : Nat) (l : List ByteArray) (h : RL6 w A a b c x y z s) (hG : ∀ k, A k → k < w.heap.size) (hW : W s) (hlen : s.H.length ≤ 1600) (he : e ≤ 1000) (hq : q.size ≤ maxLen) (hl : StrsAt w ma ml mc l) (hls : ∀ y ∈ l, y.size ≤ maxLen) (hk : kindI kd = 2) (R : Res) (hR : stp e gd 2 n q l s = R) :
    Calls Tryd.prog 15 #[.agg #[.int .i64 e, .int .i64 gd, .slice a.a a.n a.c, .slice b.a b.n b.c, .slice c.a c.n c.c, .slice x.a x.n x.c, .slice y.a y.n y.c, .slice z.a z.n z.c], .agg #[.int .i64 kd, .int .i64 n, .string q, .slice ma ml mc]] w fun o w' => ∃ v va vb, o = .returned (.tuple #[v, .agg #[.bool R.b, .int .i64 R.E, va, vb]]) ∧ RP w w' A e gd R.s v ∧ TxAt w' va R.P ∧ TxAt w' vb R.Q := by
  have _hu := And.intro he (And.intro hls (And.intro hq hk))
  clear _hu
  subst hR
  have hl4 : s.H.length ≤ 4000 := by omega
  have hf3 := hW.few3
  have hl3 : s.L.length ≤ 3500 := by omega
  have hm3 : s.M.length ≤ 3500 := by omega
  have hml3 : s.M.length + s.L.length ≤ 3500 := by omega
  have hFew := hW.few (by omega)
  obtain ⟨w1, hw1⟩ : ∃ w1, w1 = (((w.alloc (.cells #[.int .i64 e, .int .i64 gd, .slice a.a a.n a.c, .slice b.a b.n b.c, .slice c.a c.n c.c, .slice x.a x.n x.c, .slice y.a y.n y.c, .slice z.a z.n z.c] 33)).alloc (.cells #[.int .i64 kd, .int .i64 n, .string q, .slice ma ml mc] 36)).alloc (.cells #[.int .i64 0, .int .i64 0, .slice none 0 0, .slice none 0 0, .slice none 0 0, .slice none 0 0, .slice none 0 0, .slice none 0 0] 33)).alloc (.cells #[.bool false, .int .i64 0, .slice none 0 0, .slice none 0 0] 39) := ⟨_, rfl⟩
  have HP : Hid (Ps w w1 e gd a b c x y z kd n q ma ml mc) := by rw [hw1]; exact Ps.start w e gd a b c x y z kd n q ma ml mc
  have hkd := kind_step kd n (.string q) (.slice ma ml mc) w1
  rw [hk] at hkd
  have HKD := Hid.mk' hkd
  have HR1 : Hid (RL6 w1 A a b c x y z s) := h.below HP.out.hb (fun _ hk => hk)
  have hl1 := hl.below (Nat.le_refl _) HP.out.hb
  have HL1 := Hid.mk' hl1
  have g0 := HP.out.g0
  have g1 := HP.out.g1
  obtain ⟨c0, c1, c2, c3, c4, c5, c6, c7⟩ := blk8 g0
  obtain ⟨y0, y1, y2, y3, -⟩ := blk4 g1
  clear h hl hl1 hkd hk g0 g1 hf3
  go_enter Tryd.func15, Tryd.ntmps15
  go_upto_region 1 with fail
  rw [← hw1]
  clear hw1
  simp only [show w.heap.size + 1 + 1 = w.heap.size + 2 from rfl, show w.heap.size + 2 + 1 = w.heap.size + 3 from rfl]
  go_upto_region 2 with (go_at_call 19; refine HKD.out.mono ?_; rintro o w2 ⟨rfl, hb2⟩)
  have HP2 := Hid.mk' (HP.out.call hb2)
  have HR2 : Hid (RL6 w2 A a b c x y z s) := HR1.out.below hb2 (fun _ hk => hk)
  have HG2 : Hid (∀ k, A k → k < w2.heap.size) := fun k hk => Nat.lt_of_lt_of_le (hG k hk) HP2.out.hb.size
  have hl2 := HL1.out.below (Nat.le_refl _) hb2
  clear c0 c1 c2 c3 c4 c5 c6 c7 y0 y1 y2 y3
  have g0 := HP2.out.g0
  have g1 := HP2.out.g1
  obtain ⟨c0, c1, c2, c3, c4, c5, c6, c7⟩ := blk8 g0
  obtain ⟨y0, y1, y2, y3, -⟩ := blk4 g1
  have HC := Hid.mk' (rundrain_f (e := e) (gd := gd) q HR2.out HG2.out hq hl4 hl3 hm3)
  clear g0 g1 hl2
  obtain ⟨E, hE⟩ : ∃ E, E = unE q s := ⟨_, rfl⟩
  rw [← hE] at HC
  have HE0 : Hid (E = unE q s) := hE
  clear hE
  go_upto_region 10 with (go_at_call 41; refine HC.out.mono ?_; rintro o w3 ⟨v, rfl, ⟨ja, jb, jc, jx, jy, jz, rfl, h3, hb3⟩⟩)
  have hb4 : Below w3.heap.size w3 (w3.alloc (.cells #[.int .i64 e, .int .i64 gd, .slice ja.a ja.n ja.c, .slice jb.a jb.n jb.c, .slice jc.a jc.n jc.c, .slice jx.a jx.n jx.c, .slice jy.a jy.n jy.c, .slice jz.a jz.n jz.c] 33)) := (Below.refl _ w3).alloc (Nat.le_refl _) _
  have hg4 := heap_alloc_new w3 (.cells #[.int .i64 e, .int .i64 gd, .slice ja.a ja.n ja.c, .slice jb.a jb.n jb.c, .slice jc.a jc.n jc.c, .slice jx.a jx.n jx.c, .slice jy.a jy.n jy.c, .slice jz.a jz.n jz.c] 33)
  have HP3 := Hid.mk' (HP2.out.call hb3)
  have HH3 := Hid.mk' h3
  generalize w3.alloc (.cells #[.int .i64 e, .int .i64 gd, .slice ja.a ja.n ja.c, .slice jb.a jb.n jb.c, .slice jc.a jc.n jc.c, .slice jx.a jx.n jx.c, .slice jy.a jy.n jy.c, .slice jz.a jz.n jz.c] 33) = w4 at *
  have HP4 := Hid.mk' (HP3.out.call hb4)
  have HB4 := Hid.mk' hb4
  obtain ⟨m0, m1, m2, m3, m4, m5, m6, m7⟩ := blk8 hg4
  have g2 := HP4.out.g2
  have g3 := HP4.out.g3
  obtain ⟨d0, d1, d2, d3, d4, d5, d6, d7⟩ := blk8 g2
  have f0 := fz8 g2 0
  have f1 := fz8 g2 1
  have f2 := fz8 g2 2
  have f3 := fz8 g2 3
  have f4 := fz8 g2 4
  have f5 := fz8 g2 5
  have f6 := fz8 g2 6
  have f7 := fz8 g2 7
  obtain ⟨z0, z1, z2, z3, -⟩ := blk4 g3
  have q0 := fz4 g3 0
  have q1 := fz4 g3 1
  have q2 := fz4 g3 2
  have q3 := fz4 g3 3
  have hne : w.heap.size + 2 ≠ w.heap.size + 3 := by omega
  clear c0 c1 c2 c3 c4 c5 c6 c7 y0 y1 y2 y3 g2 g3 hg4 h3 hb4
  go_wp2
  obtain ⟨e8, e9, hb8, hk8⟩ := HP4.out.fin (.int .i64 e) (.int .i64 gd) (.slice ja.a ja.n ja.c) (.slice jb.a jb.n jb.c) (.slice jc.a jc.n jc.c) (.slice jx.a jx.n jx.c) (.slice jy.a jy.n jy.c) (.slice jz.a jz.n jz.c) (.bool false) (.int .i64 E) (.slice none 0 0) (.slice none 0 0)
  clear d0 d1 d2 d3 d4 d5 d6 d7 f0 f1 f2 f3 f4 f5 f6 f7 m0 m1 m2 m3 m4 m5 m6 m7 z0 z1 z2 z3 q0 q1 q2 q3 hne
  generalize ((((((((((((w4.setCell _ _).setCell _ _).setCell _ _).setCell _ _).setCell _ _).setCell _ _).setCell _ _).setCell _ _).setCell _ _).setCell _ _).setCell _ _).setCell _ _) = w8 at *
  obtain ⟨d0, d1, d2, d3, d4, d5, d6, d7⟩ := blk8 e8
  obtain ⟨y0, y1, y2, y3, -⟩ := blk4 e9
  refine bodyPost_ret (v := .tuple #[.agg #[.int .i64 e, .int .i64 gd, .slice ja.a ja.n ja.c, .slice jb.a jb.n jb.c, .slice jc.a jc.n jc.c, .slice jx.a jx.n jx.c, .slice jy.a jy.n jy.c, .slice jz.a jz.n jz.c], .agg #[.bool false, .int .i64 E, .slice none 0 0, .slice none 0 0]]) (by simp [results, Tryd.results15, go_sem, d0, d1, d2, d3, d4, d5, d6, d7, y0, y1, y2, y3]) rfl ?_
  have hE := HE0.out; subst hE
  exact ⟨_, _, _, rfl, RP.mk (Ps.rl HP2.out.sz hG HH3.out HB4.out hk8) hb8, TxAt.nil _, TxAt.nil _⟩
set_option maxHeartbeats 4000000 in
set_option maxRecDepth 100000 in
theorem rstep_3 {w : World} {A : Nat → Prop} {e gd : Int} {a b c x y z : Sl} {s : Fl} (kd n : Int) (q : ByteArray) (ma : Option Addr) (ml mc : Nat) (l : List ByteArray) (h : RL6 w A a b c x y z s) (hG : ∀ k, A k → k < w.heap.size) (hW : W s) (hlen : s.H.length ≤ 1600) (he : e ≤ 1000) (hq : q.size ≤ maxLen) (hl : StrsAt w ma ml mc l) (hls : ∀ y ∈ l, y.size ≤ maxLen) (hk : kindI kd = 3) (R : Res) (hR : stp e gd 3 n q l s = R) :
    Calls Tryd.prog 15 #[.agg #[.int .i64 e, .int .i64 gd, .slice a.a a.n a.c, .slice b.a b.n b.c, .slice c.a c.n c.c, .slice x.a x.n x.c, .slice y.a y.n y.c, .slice z.a z.n z.c], .agg #[.int .i64 kd, .int .i64 n, .string q, .slice ma ml mc]] w fun o w' => ∃ v va vb, o = .returned (.tuple #[v, .agg #[.bool R.b, .int .i64 R.E, va, vb]]) ∧ RP w w' A e gd R.s v ∧ TxAt w' va R.P ∧ TxAt w' vb R.Q := by
  have _hu := And.intro he (And.intro hls (And.intro hq hk))
  clear _hu
  subst hR
  have hl4 : s.H.length ≤ 4000 := by omega
  have hf3 := hW.few3
  have hl3 : s.L.length ≤ 3500 := by omega
  have hm3 : s.M.length ≤ 3500 := by omega
  have hml3 : s.M.length + s.L.length ≤ 3500 := by omega
  have hFew := hW.few (by omega)
  obtain ⟨w1, hw1⟩ : ∃ w1, w1 = (((w.alloc (.cells #[.int .i64 e, .int .i64 gd, .slice a.a a.n a.c, .slice b.a b.n b.c, .slice c.a c.n c.c, .slice x.a x.n x.c, .slice y.a y.n y.c, .slice z.a z.n z.c] 33)).alloc (.cells #[.int .i64 kd, .int .i64 n, .string q, .slice ma ml mc] 36)).alloc (.cells #[.int .i64 0, .int .i64 0, .slice none 0 0, .slice none 0 0, .slice none 0 0, .slice none 0 0, .slice none 0 0, .slice none 0 0] 33)).alloc (.cells #[.bool false, .int .i64 0, .slice none 0 0, .slice none 0 0] 39) := ⟨_, rfl⟩
  have HP : Hid (Ps w w1 e gd a b c x y z kd n q ma ml mc) := by rw [hw1]; exact Ps.start w e gd a b c x y z kd n q ma ml mc
  have hkd := kind_step kd n (.string q) (.slice ma ml mc) w1
  rw [hk] at hkd
  have HKD := Hid.mk' hkd
  have HR1 : Hid (RL6 w1 A a b c x y z s) := h.below HP.out.hb (fun _ hk => hk)
  have hl1 := hl.below (Nat.le_refl _) HP.out.hb
  have HL1 := Hid.mk' hl1
  have g0 := HP.out.g0
  have g1 := HP.out.g1
  obtain ⟨c0, c1, c2, c3, c4, c5, c6, c7⟩ := blk8 g0
  obtain ⟨y0, y1, y2, y3, -⟩ := blk4 g1
  clear h hl hl1 hkd hk g0 g1 hf3
  go_enter Tryd.func15, Tryd.ntmps15
  go_upto_region 1 with fail
  rw [← hw1]
  clear hw1
  simp only [show w.heap.size + 1 + 1 = w.heap.size + 2 from rfl, show w.heap.size + 2 + 1 = w.heap.size + 3 from rfl]
  go_upto_region 2 with (go_at_call 19; refine HKD.out.mono ?_; rintro o w2 ⟨rfl, hb2⟩)
  have HP2 := Hid.mk' (HP.out.call hb2)
  have HR2 : Hid (RL6 w2 A a b c x y z s) := HR1.out.below hb2 (fun _ hk => hk)
  have HG2 : Hid (∀ k, A k → k < w2.heap.size) := fun k hk => Nat.lt_of_lt_of_le (hG k hk) HP2.out.hb.size
  have hl2 := HL1.out.below (Nat.le_refl _) hb2
  clear c0 c1 c2 c3 c4 c5 c6 c7 y0 y1 y2 y3
  have g0 := HP2.out.g0
  have g1 := HP2.out.g1
  obtain ⟨c0, c1, c2, c3, c4, c5, c6, c7⟩ := blk8 g0
  obtain ⟨y0, y1, y2, y3, -⟩ := blk4 g1
  have HC := Hid.mk' (rforce_f (e := e) (gd := gd) q n HR2.out HG2.out hq hl4 hl3 hm3)
  clear g0 g1 hl2
  obtain ⟨E, hE⟩ : ∃ E, E = foE q s := ⟨_, rfl⟩
  rw [← hE] at HC
  have HE0 : Hid (E = foE q s) := hE
  clear hE
  go_upto_region 13 with (go_at_call 42; refine HC.out.mono ?_; rintro o w3 ⟨v, rfl, ⟨ja, jb, jc, jx, jy, jz, rfl, h3, hb3⟩⟩)
  have hb4 : Below w3.heap.size w3 (w3.alloc (.cells #[.int .i64 e, .int .i64 gd, .slice ja.a ja.n ja.c, .slice jb.a jb.n jb.c, .slice jc.a jc.n jc.c, .slice jx.a jx.n jx.c, .slice jy.a jy.n jy.c, .slice jz.a jz.n jz.c] 33)) := (Below.refl _ w3).alloc (Nat.le_refl _) _
  have hg4 := heap_alloc_new w3 (.cells #[.int .i64 e, .int .i64 gd, .slice ja.a ja.n ja.c, .slice jb.a jb.n jb.c, .slice jc.a jc.n jc.c, .slice jx.a jx.n jx.c, .slice jy.a jy.n jy.c, .slice jz.a jz.n jz.c] 33)
  have HP3 := Hid.mk' (HP2.out.call hb3)
  have HH3 := Hid.mk' h3
  generalize w3.alloc (.cells #[.int .i64 e, .int .i64 gd, .slice ja.a ja.n ja.c, .slice jb.a jb.n jb.c, .slice jc.a jc.n jc.c, .slice jx.a jx.n jx.c, .slice jy.a jy.n jy.c, .slice jz.a jz.n jz.c] 33) = w4 at *
  have HP4 := Hid.mk' (HP3.out.call hb4)
  have HB4 := Hid.mk' hb4
  obtain ⟨m0, m1, m2, m3, m4, m5, m6, m7⟩ := blk8 hg4
  have g2 := HP4.out.g2
  have g3 := HP4.out.g3
  obtain ⟨d0, d1, d2, d3, d4, d5, d6, d7⟩ := blk8 g2
  have f0 := fz8 g2 0
  have f1 := fz8 g2 1
  have f2 := fz8 g2 2
  have f3 := fz8 g2 3
  have f4 := fz8 g2 4
  have f5 := fz8 g2 5
  have f6 := fz8 g2 6
  have f7 := fz8 g2 7
  obtain ⟨z0, z1, z2, z3, -⟩ := blk4 g3
  have q0 := fz4 g3 0
  have q1 := fz4 g3 1
  have q2 := fz4 g3 2
  have q3 := fz4 g3 3
  have hne : w.heap.size + 2 ≠ w.heap.size + 3 := by omega
  clear c0 c1 c2 c3 c4 c5 c6 c7 y0 y1 y2 y3 g2 g3 hg4 h3 hb4
  go_wp2
  obtain ⟨e8, e9, hb8, hk8⟩ := HP4.out.fin (.int .i64 e) (.int .i64 gd) (.slice ja.a ja.n ja.c) (.slice jb.a jb.n jb.c) (.slice jc.a jc.n jc.c) (.slice jx.a jx.n jx.c) (.slice jy.a jy.n jy.c) (.slice jz.a jz.n jz.c) (.bool false) (.int .i64 E) (.slice none 0 0) (.slice none 0 0)
  clear d0 d1 d2 d3 d4 d5 d6 d7 f0 f1 f2 f3 f4 f5 f6 f7 m0 m1 m2 m3 m4 m5 m6 m7 z0 z1 z2 z3 q0 q1 q2 q3 hne
  generalize ((((((((((((w4.setCell _ _).setCell _ _).setCell _ _).setCell _ _).setCell _ _).setCell _ _).setCell _ _).setCell _ _).setCell _ _).setCell _ _).setCell _ _).setCell _ _) = w8 at *
  obtain ⟨d0, d1, d2, d3, d4, d5, d6, d7⟩ := blk8 e8
  obtain ⟨y0, y1, y2, y3, -⟩ := blk4 e9
  refine bodyPost_ret (v := .tuple #[.agg #[.int .i64 e, .int .i64 gd, .slice ja.a ja.n ja.c, .slice jb.a jb.n jb.c, .slice jc.a jc.n jc.c, .slice jx.a jx.n jx.c, .slice jy.a jy.n jy.c, .slice jz.a jz.n jz.c], .agg #[.bool false, .int .i64 E, .slice none 0 0, .slice none 0 0]]) (by simp [results, Tryd.results15, go_sem, d0, d1, d2, d3, d4, d5, d6, d7, y0, y1, y2, y3]) rfl ?_
  have hE := HE0.out; subst hE
  exact ⟨_, _, _, rfl, RP.mk (Ps.rl HP2.out.sz hG HH3.out HB4.out hk8) hb8, TxAt.nil _, TxAt.nil _⟩
set_option maxHeartbeats 4000000 in
set_option maxRecDepth 100000 in
theorem rstep_4 {w : World} {A : Nat → Prop} {e gd : Int} {a b c x y z : Sl} {s : Fl} (kd n : Int) (q : ByteArray) (ma : Option Addr) (ml mc : Nat) (l : List ByteArray) (h : RL6 w A a b c x y z s) (hG : ∀ k, A k → k < w.heap.size) (hW : W s) (hlen : s.H.length ≤ 1600) (he : e ≤ 1000) (hq : q.size ≤ maxLen) (hl : StrsAt w ma ml mc l) (hls : ∀ y ∈ l, y.size ≤ maxLen) (hk : kindI kd = 4) (R : Res) (hR : stp e gd 4 n q l s = R) :
    Calls Tryd.prog 15 #[.agg #[.int .i64 e, .int .i64 gd, .slice a.a a.n a.c, .slice b.a b.n b.c, .slice c.a c.n c.c, .slice x.a x.n x.c, .slice y.a y.n y.c, .slice z.a z.n z.c], .agg #[.int .i64 kd, .int .i64 n, .string q, .slice ma ml mc]] w fun o w' => ∃ v va vb, o = .returned (.tuple #[v, .agg #[.bool R.b, .int .i64 R.E, va, vb]]) ∧ RP w w' A e gd R.s v ∧ TxAt w' va R.P ∧ TxAt w' vb R.Q := by
  have _hu := And.intro he (And.intro hls (And.intro hq hk))
  clear _hu
  subst hR
  have hl4 : s.H.length ≤ 4000 := by omega
  have hf3 := hW.few3
  have hl3 : s.L.length ≤ 3500 := by omega
  have hm3 : s.M.length ≤ 3500 := by omega
  have hml3 : s.M.length + s.L.length ≤ 3500 := by omega
  have hFew := hW.few (by omega)
  obtain ⟨w1, hw1⟩ : ∃ w1, w1 = (((w.alloc (.cells #[.int .i64 e, .int .i64 gd, .slice a.a a.n a.c, .slice b.a b.n b.c, .slice c.a c.n c.c, .slice x.a x.n x.c, .slice y.a y.n y.c, .slice z.a z.n z.c] 33)).alloc (.cells #[.int .i64 kd, .int .i64 n, .string q, .slice ma ml mc] 36)).alloc (.cells #[.int .i64 0, .int .i64 0, .slice none 0 0, .slice none 0 0, .slice none 0 0, .slice none 0 0, .slice none 0 0, .slice none 0 0] 33)).alloc (.cells #[.bool false, .int .i64 0, .slice none 0 0, .slice none 0 0] 39) := ⟨_, rfl⟩
  have HP : Hid (Ps w w1 e gd a b c x y z kd n q ma ml mc) := by rw [hw1]; exact Ps.start w e gd a b c x y z kd n q ma ml mc
  have hkd := kind_step kd n (.string q) (.slice ma ml mc) w1
  rw [hk] at hkd
  have HKD := Hid.mk' hkd
  have HR1 : Hid (RL6 w1 A a b c x y z s) := h.below HP.out.hb (fun _ hk => hk)
  have hl1 := hl.below (Nat.le_refl _) HP.out.hb
  have HL1 := Hid.mk' hl1
  have g0 := HP.out.g0
  have g1 := HP.out.g1
  obtain ⟨c0, c1, c2, c3, c4, c5, c6, c7⟩ := blk8 g0
  obtain ⟨y0, y1, y2, y3, -⟩ := blk4 g1
  clear h hl hl1 hkd hk g0 g1 hf3
  go_enter Tryd.func15, Tryd.ntmps15
  go_upto_region 1 with fail
  rw [← hw1]
  clear hw1
  simp only [show w.heap.size + 1 + 1 = w.heap.size + 2 from rfl, show w.heap.size + 2 + 1 = w.heap.size + 3 from rfl]
  go_upto_region 2 with (go_at_call 19; refine HKD.out.mono ?_; rintro o w2 ⟨rfl, hb2⟩)
  have HP2 := Hid.mk' (HP.out.call hb2)
  have HR2 : Hid (RL6 w2 A a b c x y z s) := HR1.out.below hb2 (fun _ hk => hk)
  have HG2 : Hid (∀ k, A k → k < w2.heap.size) := fun k hk => Nat.lt_of_lt_of_le (hG k hk) HP2.out.hb.size
  have hl2 := HL1.out.below (Nat.le_refl _) hb2
  clear c0 c1 c2 c3 c4 c5 c6 c7 y0 y1 y2 y3
  have g0 := HP2.out.g0
  have g1 := HP2.out.g1
  obtain ⟨c0, c1, c2, c3, c4, c5, c6, c7⟩ := blk8 g0
  obtain ⟨y0, y1, y2, y3, -⟩ := blk4 g1
  have HC := Hid.mk' (reject_f (e := e) (gd := gd) q HR2.out HG2.out hq hl4 he)
  clear g0 g1 hl2
  obtain ⟨E, hE⟩ : ∃ E, E = ejE q e gd s := ⟨_, rfl⟩
  rw [← hE] at HC
  have HE0 : Hid (E = ejE q e gd s) := hE
  clear hE
  go_upto_region 16 with (go_at_call 43; refine HC.out.mono ?_; rintro o w3 ⟨v, rfl, ⟨ja, jb, jc, jx, jy, jz, rfl, h3, hb3⟩⟩)
  have hb4 : Below w3.heap.size w3 (w3.alloc (.cells #[.int .i64 e, .int .i64 gd, .slice ja.a ja.n ja.c, .slice jb.a jb.n jb.c, .slice jc.a jc.n jc.c, .slice jx.a jx.n jx.c, .slice jy.a jy.n jy.c, .slice jz.a jz.n jz.c] 33)) := (Below.refl _ w3).alloc (Nat.le_refl _) _
  have hg4 := heap_alloc_new w3 (.cells #[.int .i64 e, .int .i64 gd, .slice ja.a ja.n ja.c, .slice jb.a jb.n jb.c, .slice jc.a jc.n jc.c, .slice jx.a jx.n jx.c, .slice jy.a jy.n jy.c, .slice jz.a jz.n jz.c] 33)
  have HP3 := Hid.mk' (HP2.out.call hb3)
  have HH3 := Hid.mk' h3
  generalize w3.alloc (.cells #[.int .i64 e, .int .i64 gd, .slice ja.a ja.n ja.c, .slice jb.a jb.n jb.c, .slice jc.a jc.n jc.c, .slice jx.a jx.n jx.c, .slice jy.a jy.n jy.c, .slice jz.a jz.n jz.c] 33) = w4 at *
  have HP4 := Hid.mk' (HP3.out.call hb4)
  have HB4 := Hid.mk' hb4
  obtain ⟨m0, m1, m2, m3, m4, m5, m6, m7⟩ := blk8 hg4
  have g2 := HP4.out.g2
  have g3 := HP4.out.g3
  obtain ⟨d0, d1, d2, d3, d4, d5, d6, d7⟩ := blk8 g2
  have f0 := fz8 g2 0
  have f1 := fz8 g2 1
  have f2 := fz8 g2 2
  have f3 := fz8 g2 3
  have f4 := fz8 g2 4
  have f5 := fz8 g2 5
  have f6 := fz8 g2 6
  have f7 := fz8 g2 7
  obtain ⟨z0, z1, z2, z3, -⟩ := blk4 g3
  have q0 := fz4 g3 0
  have q1 := fz4 g3 1
  have q2 := fz4 g3 2
  have q3 := fz4 g3 3
  have hne : w.heap.size + 2 ≠ w.heap.size + 3 := by omega
  clear c0 c1 c2 c3 c4 c5 c6 c7 y0 y1 y2 y3 g2 g3 hg4 h3 hb4
  go_wp2
  obtain ⟨e8, e9, hb8, hk8⟩ := HP4.out.fin (.int .i64 e) (.int .i64 gd) (.slice ja.a ja.n ja.c) (.slice jb.a jb.n jb.c) (.slice jc.a jc.n jc.c) (.slice jx.a jx.n jx.c) (.slice jy.a jy.n jy.c) (.slice jz.a jz.n jz.c) (.bool false) (.int .i64 E) (.slice none 0 0) (.slice none 0 0)
  clear d0 d1 d2 d3 d4 d5 d6 d7 f0 f1 f2 f3 f4 f5 f6 f7 m0 m1 m2 m3 m4 m5 m6 m7 z0 z1 z2 z3 q0 q1 q2 q3 hne
  generalize ((((((((((((w4.setCell _ _).setCell _ _).setCell _ _).setCell _ _).setCell _ _).setCell _ _).setCell _ _).setCell _ _).setCell _ _).setCell _ _).setCell _ _).setCell _ _) = w8 at *
  obtain ⟨d0, d1, d2, d3, d4, d5, d6, d7⟩ := blk8 e8
  obtain ⟨y0, y1, y2, y3, -⟩ := blk4 e9
  refine bodyPost_ret (v := .tuple #[.agg #[.int .i64 e, .int .i64 gd, .slice ja.a ja.n ja.c, .slice jb.a jb.n jb.c, .slice jc.a jc.n jc.c, .slice jx.a jx.n jx.c, .slice jy.a jy.n jy.c, .slice jz.a jz.n jz.c], .agg #[.bool false, .int .i64 E, .slice none 0 0, .slice none 0 0]]) (by simp [results, Tryd.results15, go_sem, d0, d1, d2, d3, d4, d5, d6, d7, y0, y1, y2, y3]) rfl ?_
  have hE := HE0.out; subst hE
  exact ⟨_, _, _, rfl, RP.mk (Ps.rl HP2.out.sz hG HH3.out HB4.out hk8) hb8, TxAt.nil _, TxAt.nil _⟩
set_option maxHeartbeats 4000000 in
set_option maxRecDepth 100000 in
theorem rstep_5 {w : World} {A : Nat → Prop} {e gd : Int} {a b c x y z : Sl} {s : Fl} (kd n : Int) (q : ByteArray) (ma : Option Addr) (ml mc : Nat) (l : List ByteArray) (h : RL6 w A a b c x y z s) (hG : ∀ k, A k → k < w.heap.size) (hW : W s) (hlen : s.H.length ≤ 1600) (he : e ≤ 1000) (hq : q.size ≤ maxLen) (hl : StrsAt w ma ml mc l) (hls : ∀ y ∈ l, y.size ≤ maxLen) (hk : kindI kd = 5) (R : Res) (hR : stp e gd 5 n q l s = R) :
    Calls Tryd.prog 15 #[.agg #[.int .i64 e, .int .i64 gd, .slice a.a a.n a.c, .slice b.a b.n b.c, .slice c.a c.n c.c, .slice x.a x.n x.c, .slice y.a y.n y.c, .slice z.a z.n z.c], .agg #[.int .i64 kd, .int .i64 n, .string q, .slice ma ml mc]] w fun o w' => ∃ v va vb, o = .returned (.tuple #[v, .agg #[.bool R.b, .int .i64 R.E, va, vb]]) ∧ RP w w' A e gd R.s v ∧ TxAt w' va R.P ∧ TxAt w' vb R.Q := by
  have _hu := And.intro he (And.intro hls (And.intro hq hk))
  clear _hu
  subst hR
  have hl4 : s.H.length ≤ 4000 := by omega
  have hf3 := hW.few3
  have hl3 : s.L.length ≤ 3500 := by omega
  have hm3 : s.M.length ≤ 3500 := by omega
  have hml3 : s.M.length + s.L.length ≤ 3500 := by omega
  have hFew := hW.few (by omega)
  obtain ⟨w1, hw1⟩ : ∃ w1, w1 = (((w.alloc (.cells #[.int .i64 e, .int .i64 gd, .slice a.a a.n a.c, .slice b.a b.n b.c, .slice c.a c.n c.c, .slice x.a x.n x.c, .slice y.a y.n y.c, .slice z.a z.n z.c] 33)).alloc (.cells #[.int .i64 kd, .int .i64 n, .string q, .slice ma ml mc] 36)).alloc (.cells #[.int .i64 0, .int .i64 0, .slice none 0 0, .slice none 0 0, .slice none 0 0, .slice none 0 0, .slice none 0 0, .slice none 0 0] 33)).alloc (.cells #[.bool false, .int .i64 0, .slice none 0 0, .slice none 0 0] 39) := ⟨_, rfl⟩
  have HP : Hid (Ps w w1 e gd a b c x y z kd n q ma ml mc) := by rw [hw1]; exact Ps.start w e gd a b c x y z kd n q ma ml mc
  have hkd := kind_step kd n (.string q) (.slice ma ml mc) w1
  rw [hk] at hkd
  have HKD := Hid.mk' hkd
  have HR1 : Hid (RL6 w1 A a b c x y z s) := h.below HP.out.hb (fun _ hk => hk)
  have hl1 := hl.below (Nat.le_refl _) HP.out.hb
  have HL1 := Hid.mk' hl1
  have g0 := HP.out.g0
  have g1 := HP.out.g1
  obtain ⟨c0, c1, c2, c3, c4, c5, c6, c7⟩ := blk8 g0
  obtain ⟨y0, y1, y2, y3, -⟩ := blk4 g1
  clear h hl hl1 hkd hk g0 g1 hf3
  go_enter Tryd.func15, Tryd.ntmps15
  go_upto_region 1 with fail
  rw [← hw1]
  clear hw1
  simp only [show w.heap.size + 1 + 1 = w.heap.size + 2 from rfl, show w.heap.size + 2 + 1 = w.heap.size + 3 from rfl]
  go_upto_region 2 with (go_at_call 19; refine HKD.out.mono ?_; rintro o w2 ⟨rfl, hb2⟩)
  have HP2 := Hid.mk' (HP.out.call hb2)
  have HR2 : Hid (RL6 w2 A a b c x y z s) := HR1.out.below hb2 (fun _ hk => hk)
  have HG2 : Hid (∀ k, A k → k < w2.heap.size) := fun k hk => Nat.lt_of_lt_of_le (hG k hk) HP2.out.hb.size
  have hl2 := HL1.out.below (Nat.le_refl _) hb2
  clear c0 c1 c2 c3 c4 c5 c6 c7 y0 y1 y2 y3
  have g0 := HP2.out.g0
  have g1 := HP2.out.g1
  obtain ⟨c0, c1, c2, c3, c4, c5, c6, c7⟩ := blk8 g0
  obtain ⟨y0, y1, y2, y3, -⟩ := blk4 g1
  have HC := Hid.mk' (radmit_f (e := e) (gd := gd) n HR2.out HG2.out hFew.inv hFew.lg he hl4 hml3)
  clear g0 g1 hl2
  go_upto_region 19 with (go_at_call 44; refine HC.out.mono ?_; rintro o w3 ⟨v, u1, rfl, ⟨ja, jb, jc, jx, jy, jz, rfl, h3, hb3⟩, t1⟩; obtain ⟨o1, rfl⟩ := Tx_sl t1)
  have hb4 : Below w3.heap.size w3 (w3.alloc (.cells #[.int .i64 e, .int .i64 gd, .slice ja.a ja.n ja.c, .slice jb.a jb.n jb.c, .slice jc.a jc.n jc.c, .slice jx.a jx.n jx.c, .slice jy.a jy.n jy.c, .slice jz.a jz.n jz.c] 33)) := (Below.refl _ w3).alloc (Nat.le_refl _) _
  have hg4 := heap_alloc_new w3 (.cells #[.int .i64 e, .int .i64 gd, .slice ja.a ja.n ja.c, .slice jb.a jb.n jb.c, .slice jc.a jc.n jc.c, .slice jx.a jx.n jx.c, .slice jy.a jy.n jy.c, .slice jz.a jz.n jz.c] 33)
  have HP3 := Hid.mk' (HP2.out.call hb3)
  have HH3 := Hid.mk' h3
  have HT1 := Hid.mk' (t1.below hb4)
  generalize w3.alloc (.cells #[.int .i64 e, .int .i64 gd, .slice ja.a ja.n ja.c, .slice jb.a jb.n jb.c, .slice jc.a jc.n jc.c, .slice jx.a jx.n jx.c, .slice jy.a jy.n jy.c, .slice jz.a jz.n jz.c] 33) = w4 at *
  have HP4 := Hid.mk' (HP3.out.call hb4)
  have HB4 := Hid.mk' hb4
  obtain ⟨m0, m1, m2, m3, m4, m5, m6, m7⟩ := blk8 hg4
  have g2 := HP4.out.g2
  have g3 := HP4.out.g3
  obtain ⟨d0, d1, d2, d3, d4, d5, d6, d7⟩ := blk8 g2
  have f0 := fz8 g2 0
  have f1 := fz8 g2 1
  have f2 := fz8 g2 2
  have f3 := fz8 g2 3
  have f4 := fz8 g2 4
  have f5 := fz8 g2 5
  have f6 := fz8 g2 6
  have f7 := fz8 g2 7
  obtain ⟨z0, z1, z2, z3, -⟩ := blk4 g3
  have q0 := fz4 g3 0
  have q1 := fz4 g3 1
  have q2 := fz4 g3 2
  have q3 := fz4 g3 3
  have hne : w.heap.size + 2 ≠ w.heap.size + 3 := by omega
  clear c0 c1 c2 c3 c4 c5 c6 c7 y0 y1 y2 y3 g2 g3 hg4 h3 hb4 t1
  go_wp2
  obtain ⟨e8, e9, hb8, hk8⟩ := HP4.out.fin (.int .i64 e) (.int .i64 gd) (.slice ja.a ja.n ja.c) (.slice jb.a jb.n jb.c) (.slice jc.a jc.n jc.c) (.slice jx.a jx.n jx.c) (.slice jy.a jy.n jy.c) (.slice jz.a jz.n jz.c) (.bool false) (.int .i64 0) (.slice o1.a o1.n o1.c) (.slice none 0 0)
  clear d0 d1 d2 d3 d4 d5 d6 d7 f0 f1 f2 f3 f4 f5 f6 f7 m0 m1 m2 m3 m4 m5 m6 m7 z0 z1 z2 z3 q0 q1 q2 q3 hne
  generalize ((((((((((((w4.setCell _ _).setCell _ _).setCell _ _).setCell _ _).setCell _ _).setCell _ _).setCell _ _).setCell _ _).setCell _ _).setCell _ _).setCell _ _).setCell _ _) = w8 at *
  obtain ⟨d0, d1, d2, d3, d4, d5, d6, d7⟩ := blk8 e8
  obtain ⟨y0, y1, y2, y3, -⟩ := blk4 e9
  refine bodyPost_ret (v := .tuple #[.agg #[.int .i64 e, .int .i64 gd, .slice ja.a ja.n ja.c, .slice jb.a jb.n jb.c, .slice jc.a jc.n jc.c, .slice jx.a jx.n jx.c, .slice jy.a jy.n jy.c, .slice jz.a jz.n jz.c], .agg #[.bool false, .int .i64 0, .slice o1.a o1.n o1.c, .slice none 0 0]]) (by simp [results, Tryd.results15, go_sem, d0, d1, d2, d3, d4, d5, d6, d7, y0, y1, y2, y3]) rfl ?_
  skip
  exact ⟨_, _, _, rfl, RP.mk (Ps.rl HP2.out.sz hG HH3.out HB4.out hk8) hb8, HP4.out.tx (HT1.out) hk8, TxAt.nil _⟩
set_option maxHeartbeats 4000000 in
set_option maxRecDepth 100000 in
theorem rstep_6 {w : World} {A : Nat → Prop} {e gd : Int} {a b c x y z : Sl} {s : Fl} (kd n : Int) (q : ByteArray) (ma : Option Addr) (ml mc : Nat) (l : List ByteArray) (h : RL6 w A a b c x y z s) (hG : ∀ k, A k → k < w.heap.size) (hW : W s) (hlen : s.H.length ≤ 1600) (he : e ≤ 1000) (hq : q.size ≤ maxLen) (hl : StrsAt w ma ml mc l) (hls : ∀ y ∈ l, y.size ≤ maxLen) (hk : kindI kd = 6) (R : Res) (hR : stp e gd 6 n q l s = R) :
    Calls Tryd.prog 15 #[.agg #[.int .i64 e, .int .i64 gd, .slice a.a a.n a.c, .slice b.a b.n b.c, .slice c.a c.n c.c, .slice x.a x.n x.c, .slice y.a y.n y.c, .slice z.a z.n z.c], .agg #[.int .i64 kd, .int .i64 n, .string q, .slice ma ml mc]] w fun o w' => ∃ v va vb, o = .returned (.tuple #[v, .agg #[.bool R.b, .int .i64 R.E, va, vb]]) ∧ RP w w' A e gd R.s v ∧ TxAt w' va R.P ∧ TxAt w' vb R.Q := by
  have _hu := And.intro he (And.intro hls (And.intro hq hk))
  clear _hu
  subst hR
  have hl4 : s.H.length ≤ 4000 := by omega
  have hf3 := hW.few3
  have hl3 : s.L.length ≤ 3500 := by omega
  have hm3 : s.M.length ≤ 3500 := by omega
  have hml3 : s.M.length + s.L.length ≤ 3500 := by omega
  have hFew := hW.few (by omega)
  obtain ⟨w1, hw1⟩ : ∃ w1, w1 = (((w.alloc (.cells #[.int .i64 e, .int .i64 gd, .slice a.a a.n a.c, .slice b.a b.n b.c, .slice c.a c.n c.c, .slice x.a x.n x.c, .slice y.a y.n y.c, .slice z.a z.n z.c] 33)).alloc (.cells #[.int .i64 kd, .int .i64 n, .string q, .slice ma ml mc] 36)).alloc (.cells #[.int .i64 0, .int .i64 0, .slice none 0 0, .slice none 0 0, .slice none 0 0, .slice none 0 0, .slice none 0 0, .slice none 0 0] 33)).alloc (.cells #[.bool false, .int .i64 0, .slice none 0 0, .slice none 0 0] 39) := ⟨_, rfl⟩
  have HP : Hid (Ps w w1 e gd a b c x y z kd n q ma ml mc) := by rw [hw1]; exact Ps.start w e gd a b c x y z kd n q ma ml mc
  have hkd := kind_step kd n (.string q) (.slice ma ml mc) w1
  rw [hk] at hkd
  have HKD := Hid.mk' hkd
  have HR1 : Hid (RL6 w1 A a b c x y z s) := h.below HP.out.hb (fun _ hk => hk)
  have hl1 := hl.below (Nat.le_refl _) HP.out.hb
  have HL1 := Hid.mk' hl1
  have g0 := HP.out.g0
  have g1 := HP.out.g1
  obtain ⟨c0, c1, c2, c3, c4, c5, c6, c7⟩ := blk8 g0
  obtain ⟨y0, y1, y2, y3, -⟩ := blk4 g1
  clear h hl hl1 hkd hk g0 g1 hf3
  go_enter Tryd.func15, Tryd.ntmps15
  go_upto_region 1 with fail
  rw [← hw1]
  clear hw1
  simp only [show w.heap.size + 1 + 1 = w.heap.size + 2 from rfl, show w.heap.size + 2 + 1 = w.heap.size + 3 from rfl]
  go_upto_region 2 with (go_at_call 19; refine HKD.out.mono ?_; rintro o w2 ⟨rfl, hb2⟩)
  have HP2 := Hid.mk' (HP.out.call hb2)
  have HR2 : Hid (RL6 w2 A a b c x y z s) := HR1.out.below hb2 (fun _ hk => hk)
  have HG2 : Hid (∀ k, A k → k < w2.heap.size) := fun k hk => Nat.lt_of_lt_of_le (hG k hk) HP2.out.hb.size
  have hl2 := HL1.out.below (Nat.le_refl _) hb2
  clear c0 c1 c2 c3 c4 c5 c6 c7 y0 y1 y2 y3
  have g0 := HP2.out.g0
  have g1 := HP2.out.g1
  obtain ⟨c0, c1, c2, c3, c4, c5, c6, c7⟩ := blk8 g0
  obtain ⟨y0, y1, y2, y3, -⟩ := blk4 g1
  have HC := Hid.mk' (rprobe_f (e := e) (gd := gd) q HR2.out HG2.out hW hl4)
  clear g0 g1 hl2
  obtain ⟨E, hE⟩ : ∃ E, E = prB q s := ⟨_, rfl⟩
  rw [← hE] at HC
  have HE0 : Hid (E = prB q s) := hE
  clear hE
  go_upto_region 22 with (go_at_call 45; refine HC.out.mono ?_; rintro o w3 ⟨v, rfl, ⟨ja, jb, jc, jx, jy, jz, rfl, h3, hb3⟩⟩)
  have hb4 : Below w3.heap.size w3 (w3.alloc (.cells #[.int .i64 e, .int .i64 gd, .slice ja.a ja.n ja.c, .slice jb.a jb.n jb.c, .slice jc.a jc.n jc.c, .slice jx.a jx.n jx.c, .slice jy.a jy.n jy.c, .slice jz.a jz.n jz.c] 33)) := (Below.refl _ w3).alloc (Nat.le_refl _) _
  have hg4 := heap_alloc_new w3 (.cells #[.int .i64 e, .int .i64 gd, .slice ja.a ja.n ja.c, .slice jb.a jb.n jb.c, .slice jc.a jc.n jc.c, .slice jx.a jx.n jx.c, .slice jy.a jy.n jy.c, .slice jz.a jz.n jz.c] 33)
  have HP3 := Hid.mk' (HP2.out.call hb3)
  have HH3 := Hid.mk' h3
  generalize w3.alloc (.cells #[.int .i64 e, .int .i64 gd, .slice ja.a ja.n ja.c, .slice jb.a jb.n jb.c, .slice jc.a jc.n jc.c, .slice jx.a jx.n jx.c, .slice jy.a jy.n jy.c, .slice jz.a jz.n jz.c] 33) = w4 at *
  have HP4 := Hid.mk' (HP3.out.call hb4)
  have HB4 := Hid.mk' hb4
  obtain ⟨m0, m1, m2, m3, m4, m5, m6, m7⟩ := blk8 hg4
  have g2 := HP4.out.g2
  have g3 := HP4.out.g3
  obtain ⟨d0, d1, d2, d3, d4, d5, d6, d7⟩ := blk8 g2
  have f0 := fz8 g2 0
  have f1 := fz8 g2 1
  have f2 := fz8 g2 2
  have f3 := fz8 g2 3
  have f4 := fz8 g2 4
  have f5 := fz8 g2 5
  have f6 := fz8 g2 6
  have f7 := fz8 g2 7
  obtain ⟨z0, z1, z2, z3, -⟩ := blk4 g3
  have q0 := fz4 g3 0
  have q1 := fz4 g3 1
  have q2 := fz4 g3 2
  have q3 := fz4 g3 3
  have hne : w.heap.size + 2 ≠ w.heap.size + 3 := by omega
  clear c0 c1 c2 c3 c4 c5 c6 c7 y0 y1 y2 y3 g2 g3 hg4 h3 hb4
  go_wp2
  obtain ⟨e8, e9, hb8, hk8⟩ := HP4.out.fin (.int .i64 e) (.int .i64 gd) (.slice ja.a ja.n ja.c) (.slice jb.a jb.n jb.c) (.slice jc.a jc.n jc.c) (.slice jx.a jx.n jx.c) (.slice jy.a jy.n jy.c) (.slice jz.a jz.n jz.c) (.bool E) (.int .i64 0) (.slice none 0 0) (.slice none 0 0)
  clear d0 d1 d2 d3 d4 d5 d6 d7 f0 f1 f2 f3 f4 f5 f6 f7 m0 m1 m2 m3 m4 m5 m6 m7 z0 z1 z2 z3 q0 q1 q2 q3 hne
  generalize ((((((((((((w4.setCell _ _).setCell _ _).setCell _ _).setCell _ _).setCell _ _).setCell _ _).setCell _ _).setCell _ _).setCell _ _).setCell _ _).setCell _ _).setCell _ _) = w8 at *
  obtain ⟨d0, d1, d2, d3, d4, d5, d6, d7⟩ := blk8 e8
  obtain ⟨y0, y1, y2, y3, -⟩ := blk4 e9
  refine bodyPost_ret (v := .tuple #[.agg #[.int .i64 e, .int .i64 gd, .slice ja.a ja.n ja.c, .slice jb.a jb.n jb.c, .slice jc.a jc.n jc.c, .slice jx.a jx.n jx.c, .slice jy.a jy.n jy.c, .slice jz.a jz.n jz.c], .agg #[.bool E, .int .i64 0, .slice none 0 0, .slice none 0 0]]) (by simp [results, Tryd.results15, go_sem, d0, d1, d2, d3, d4, d5, d6, d7, y0, y1, y2, y3]) rfl ?_
  have hE := HE0.out; subst hE
  exact ⟨_, _, _, rfl, RP.mk (Ps.rl HP2.out.sz hG HH3.out HB4.out hk8) hb8, TxAt.nil _, TxAt.nil _⟩
set_option maxHeartbeats 4000000 in
set_option maxRecDepth 100000 in
theorem rstep_7 {w : World} {A : Nat → Prop} {e gd : Int} {a b c x y z : Sl} {s : Fl} (kd n : Int) (q : ByteArray) (ma : Option Addr) (ml mc : Nat) (l : List ByteArray) (h : RL6 w A a b c x y z s) (hG : ∀ k, A k → k < w.heap.size) (hW : W s) (hlen : s.H.length ≤ 1600) (he : e ≤ 1000) (hq : q.size ≤ maxLen) (hl : StrsAt w ma ml mc l) (hls : ∀ y ∈ l, y.size ≤ maxLen) (hk : kindI kd = 7) (R : Res) (hR : stp e gd 7 n q l s = R) :
    Calls Tryd.prog 15 #[.agg #[.int .i64 e, .int .i64 gd, .slice a.a a.n a.c, .slice b.a b.n b.c, .slice c.a c.n c.c, .slice x.a x.n x.c, .slice y.a y.n y.c, .slice z.a z.n z.c], .agg #[.int .i64 kd, .int .i64 n, .string q, .slice ma ml mc]] w fun o w' => ∃ v va vb, o = .returned (.tuple #[v, .agg #[.bool R.b, .int .i64 R.E, va, vb]]) ∧ RP w w' A e gd R.s v ∧ TxAt w' va R.P ∧ TxAt w' vb R.Q := by
  have _hu := And.intro he (And.intro hls (And.intro hq hk))
  clear _hu
  subst hR
  have hl4 : s.H.length ≤ 4000 := by omega
  have hf3 := hW.few3
  have hl3 : s.L.length ≤ 3500 := by omega
  have hm3 : s.M.length ≤ 3500 := by omega
  have hml3 : s.M.length + s.L.length ≤ 3500 := by omega
  have hFew := hW.few (by omega)
  obtain ⟨w1, hw1⟩ : ∃ w1, w1 = (((w.alloc (.cells #[.int .i64 e, .int .i64 gd, .slice a.a a.n a.c, .slice b.a b.n b.c, .slice c.a c.n c.c, .slice x.a x.n x.c, .slice y.a y.n y.c, .slice z.a z.n z.c] 33)).alloc (.cells #[.int .i64 kd, .int .i64 n, .string q, .slice ma ml mc] 36)).alloc (.cells #[.int .i64 0, .int .i64 0, .slice none 0 0, .slice none 0 0, .slice none 0 0, .slice none 0 0, .slice none 0 0, .slice none 0 0] 33)).alloc (.cells #[.bool false, .int .i64 0, .slice none 0 0, .slice none 0 0] 39) := ⟨_, rfl⟩
  have HP : Hid (Ps w w1 e gd a b c x y z kd n q ma ml mc) := by rw [hw1]; exact Ps.start w e gd a b c x y z kd n q ma ml mc
  have hkd := kind_step kd n (.string q) (.slice ma ml mc) w1
  rw [hk] at hkd
  have HKD := Hid.mk' hkd
  have HR1 : Hid (RL6 w1 A a b c x y z s) := h.below HP.out.hb (fun _ hk => hk)
  have hl1 := hl.below (Nat.le_refl _) HP.out.hb
  have HL1 := Hid.mk' hl1
  have g0 := HP.out.g0
  have g1 := HP.out.g1
  obtain ⟨c0, c1, c2, c3, c4, c5, c6, c7⟩ := blk8 g0
  obtain ⟨y0, y1, y2, y3, -⟩ := blk4 g1
  clear h hl hl1 hkd hk g0 g1 hf3
  go_enter Tryd.func15, Tryd.ntmps15
  go_upto_region 1 with fail
  rw [← hw1]
  clear hw1
  simp only [show w.heap.size + 1 + 1 = w.heap.size + 2 from rfl, show w.heap.size + 2 + 1 = w.heap.size + 3 from rfl]
  go_upto_region 2 with (go_at_call 19; refine HKD.out.mono ?_; rintro o w2 ⟨rfl, hb2⟩)
  have HP2 := Hid.mk' (HP.out.call hb2)
  have HR2 : Hid (RL6 w2 A a b c x y z s) := HR1.out.below hb2 (fun _ hk => hk)
  have HG2 : Hid (∀ k, A k → k < w2.heap.size) := fun k hk => Nat.lt_of_lt_of_le (hG k hk) HP2.out.hb.size
  have hl2 := HL1.out.below (Nat.le_refl _) hb2
  clear c0 c1 c2 c3 c4 c5 c6 c7 y0 y1 y2 y3
  have g0 := HP2.out.g0
  have g1 := HP2.out.g1
  obtain ⟨c0, c1, c2, c3, c4, c5, c6, c7⟩ := blk8 g0
  obtain ⟨y0, y1, y2, y3, -⟩ := blk4 g1
  have HC := Hid.mk' (rempty_f (e := e) (gd := gd) q HR2.out HG2.out hW hl4 hl3 hm3)
  clear g0 g1 hl2
  obtain ⟨E, hE⟩ : ∃ E, E = emB q s := ⟨_, rfl⟩
  rw [← hE] at HC
  have HE0 : Hid (E = emB q s) := hE
  clear hE
  go_upto_region 24 with (go_at_call 46; refine HC.out.mono ?_; rintro o w3 ⟨v, rfl, ⟨ja, jb, jc, jx, jy, jz, rfl, h3, hb3⟩⟩)
  have hb4 : Below w3.heap.size w3 (w3.alloc (.cells #[.int .i64 e, .int .i64 gd, .slice ja.a ja.n ja.c, .slice jb.a jb.n jb.c, .slice jc.a jc.n jc.c, .slice jx.a jx.n jx.c, .slice jy.a jy.n jy.c, .slice jz.a jz.n jz.c] 33)) := (Below.refl _ w3).alloc (Nat.le_refl _) _
  have hg4 := heap_alloc_new w3 (.cells #[.int .i64 e, .int .i64 gd, .slice ja.a ja.n ja.c, .slice jb.a jb.n jb.c, .slice jc.a jc.n jc.c, .slice jx.a jx.n jx.c, .slice jy.a jy.n jy.c, .slice jz.a jz.n jz.c] 33)
  have HP3 := Hid.mk' (HP2.out.call hb3)
  have HH3 := Hid.mk' h3
  generalize w3.alloc (.cells #[.int .i64 e, .int .i64 gd, .slice ja.a ja.n ja.c, .slice jb.a jb.n jb.c, .slice jc.a jc.n jc.c, .slice jx.a jx.n jx.c, .slice jy.a jy.n jy.c, .slice jz.a jz.n jz.c] 33) = w4 at *
  have HP4 := Hid.mk' (HP3.out.call hb4)
  have HB4 := Hid.mk' hb4
  obtain ⟨m0, m1, m2, m3, m4, m5, m6, m7⟩ := blk8 hg4
  have g2 := HP4.out.g2
  have g3 := HP4.out.g3
  obtain ⟨d0, d1, d2, d3, d4, d5, d6, d7⟩ := blk8 g2
  have f0 := fz8 g2 0
  have f1 := fz8 g2 1
  have f2 := fz8 g2 2
  have f3 := fz8 g2 3
  have f4 := fz8 g2 4
  have f5 := fz8 g2 5
  have f6 := fz8 g2 6
  have f7 := fz8 g2 7
  obtain ⟨z0, z1, z2, z3, -⟩ := blk4 g3
  have q0 := fz4 g3 0
  have q1 := fz4 g3 1
  have q2 := fz4 g3 2
  have q3 := fz4 g3 3
  have hne : w.heap.size + 2 ≠ w.heap.size + 3 := by omega
  clear c0 c1 c2 c3 c4 c5 c6 c7 y0 y1 y2 y3 g2 g3 hg4 h3 hb4
  go_wp2
  obtain ⟨e8, e9, hb8, hk8⟩ := HP4.out.fin (.int .i64 e) (.int .i64 gd) (.slice ja.a ja.n ja.c) (.slice jb.a jb.n jb.c) (.slice jc.a jc.n jc.c) (.slice jx.a jx.n jx.c) (.slice jy.a jy.n jy.c) (.slice jz.a jz.n jz.c) (.bool E) (.int .i64 0) (.slice none 0 0) (.slice none 0 0)
  clear d0 d1 d2 d3 d4 d5 d6 d7 f0 f1 f2 f3 f4 f5 f6 f7 m0 m1 m2 m3 m4 m5 m6 m7 z0 z1 z2 z3 q0 q1 q2 q3 hne
  generalize ((((((((((((w4.setCell _ _).setCell _ _).setCell _ _).setCell _ _).setCell _ _).setCell _ _).setCell _ _).setCell _ _).setCell _ _).setCell _ _).setCell _ _).setCell _ _) = w8 at *
  obtain ⟨d0, d1, d2, d3, d4, d5, d6, d7⟩ := blk8 e8
  obtain ⟨y0, y1, y2, y3, -⟩ := blk4 e9
  refine bodyPost_ret (v := .tuple #[.agg #[.int .i64 e, .int .i64 gd, .slice ja.a ja.n ja.c, .slice jb.a jb.n jb.c, .slice jc.a jc.n jc.c, .slice jx.a jx.n jx.c, .slice jy.a jy.n jy.c, .slice jz.a jz.n jz.c], .agg #[.bool E, .int .i64 0, .slice none 0 0, .slice none 0 0]]) (by simp [results, Tryd.results15, go_sem, d0, d1, d2, d3, d4, d5, d6, d7, y0, y1, y2, y3]) rfl ?_
  have hE := HE0.out; subst hE
  exact ⟨_, _, _, rfl, RP.mk (Ps.rl HP2.out.sz hG HH3.out HB4.out hk8) hb8, TxAt.nil _, TxAt.nil _⟩
theorem rstep_w {w : World} {A : Nat → Prop} {e gd : Int} {a b c x y z : Sl} {s : Fl} (kd n : Int) (q : ByteArray) (ma : Option Addr) (ml mc : Nat) (l : List ByteArray) (h : RL6 w A a b c x y z s) (hG : ∀ k, A k → k < w.heap.size) (hW : W s) (hlen : s.H.length ≤ 1600) (he : e ≤ 1000) (hq : q.size ≤ maxLen) (hl : StrsAt w ma ml mc l) (hls : ∀ y ∈ l, y.size ≤ maxLen) (k : Int) (hk : kindI kd = k) (R : Res) (hR : stp e gd k n q l s = R) :
    Calls Tryd.prog 15 #[.agg #[.int .i64 e, .int .i64 gd, .slice a.a a.n a.c, .slice b.a b.n b.c, .slice c.a c.n c.c, .slice x.a x.n x.c, .slice y.a y.n y.c, .slice z.a z.n z.c], .agg #[.int .i64 kd, .int .i64 n, .string q, .slice ma ml mc]] w fun o w' => ∃ v va vb, o = .returned (.tuple #[v, .agg #[.bool R.b, .int .i64 R.E, va, vb]]) ∧ RP w w' A e gd R.s v ∧ TxAt w' va R.P ∧ TxAt w' vb R.Q := by
  have hk8 := kindI_of kd
  rw [hk] at hk8
  rcases hk8 with rfl | rfl | rfl | rfl | rfl | rfl | rfl | rfl
  · exact rstep_0 kd n q ma ml mc l h hG hW hlen he hq hl hls hk R hR
  · exact rstep_1 kd n q ma ml mc l h hG hW hlen he hq hl hls hk R hR
  · exact rstep_2 kd n q ma ml mc l h hG hW hlen he hq hl hls hk R hR
  · exact rstep_3 kd n q ma ml mc l h hG hW hlen he hq hl hls hk R hR
  · exact rstep_4 kd n q ma ml mc l h hG hW hlen he hq hl hls hk R hR
  · exact rstep_5 kd n q ma ml mc l h hG hW hlen he hq hl hls hk R hR
  · exact rstep_6 kd n q ma ml mc l h hG hW hlen he hq hl hls hk R hR
  · exact rstep_7 kd n q ma ml mc l h hG hW hlen he hq hl hls hk R hR
end Go.Proofs.YtmlkpfkeeifgeaaDoor
namespace Go.Proofs.YtmlkpfkeeifgeaaDoor
open Go.ChangeShapes Go.WideShapes Go.ChangeAt Go.RowKit Go.Joins Go.Deep

theorem TxAt.other1 {w w' : World} {u : Value} {l : List ByteArray} {g1 : Nat} (h : TxAt w u l) (hk : Keep (fun k => k ≠ g1) w w') (n1 : ∀ o s, w.cell? ⟨g1, o, none⟩ ≠ some (.string s)) : TxAt w' u l :=
  h.other (g1 := g1) (g2 := g1) (hk.mono (fun _ _ hk => hk.1)) n1 n1
theorem tx_strs {w : World} {a : Option Addr} {n c : Nat} {l : List ByteArray} (h : TxAt w (.slice a n c) l) : StrsAt w a n c l := by
  obtain ⟨a', c', e, hs, -⟩ := h
  injection e with e1 e2 e3
  subst e1 e2 e3
  exact hs
set_option maxHeartbeats 8000000 in
set_option maxRecDepth 100000 in
theorem plays_walk (x y : Int) (a : Option Addr) (len cap : Nat) (ss : List Stp) (w : World) (ht : St.Tabs w) (hs : StepsAt w a len cap ss) :
    Calls Tryd.prog 3 #[.int .i64 x, .int .i64 y, .slice a len cap] w fun r w' => r = .returned (.bool true) ∧ Below w.heap.size w w' := by
  obtain ⟨n, hn⟩ : ∃ n, min len 80 = n := ⟨_, rfl⟩
  have hn8 : n ≤ 80 := by omega
  have HN := Hid.mk' hn
  have HS0 := Hid.mk' hs
  have HM := Hid.mk' (steps_in hs hn)
  have HT := Hid.mk' ht
  clear hs hn ht
  go_enter Tryd.func3, Tryd.ntmps3
  go_wp2_with fail
  refine (lives_any w HT.out).mono ?_
  rintro e w1 ⟨rfl, hb1⟩
  have hub9 := um_bd 9 x (by decide) (by decide)
  have hub41 := um_bd 41 y (by decide) (by decide)
  generalize hm9 : wrap64 ((IntKind.u64.wrap x).tmod 9) = E at *
  generalize hm41 : wrap64 ((IntKind.u64.wrap y).tmod 41) = gd at *
  have hE1 : E ≤ 1000 := by omega
  have hnew := q_new E gd w1 (HT.out.below hb1)
  go_upto_region 5 with fail
  simp only [hm9, hm41]
  clear hub9 hub41 hm9 hm41
  go_upto_region 6 with (go_at_call 12; refine hnew.mono ?_; rintro r w2 ⟨f, rfl, hq2, hb2⟩)
  obtain ⟨wb, hwb⟩ : ∃ wb, wb = w2.alloc (.cells #[.int .i64 E, .int .i64 gd, .slice none 0 0, .slice none 0 0, .slice none 0 0, .slice none 0 0, .slice none 0 0, .slice none 0 0] 33) := ⟨_, rfl⟩
  have hbb : Below w2.heap.size w2 wb := by rw [hwb]; exact (Below.refl _ w2).alloc (Nat.le_refl _) _
  have hgb : wb.heap[w2.heap.size]? = some (.cells #[.int .i64 E, .int .i64 gd, .slice none 0 0, .slice none 0 0, .slice none 0 0, .slice none 0 0, .slice none 0 0, .slice none 0 0] 33 (0, 0)) := by rw [hwb]; exact heap_alloc_new w2 _
  have hsb : wb.heap.size = w2.heap.size + 1 := by rw [hwb]; simp
  rw [← hwb]
  clear hwb
  have hs12 := hb2.size
  have h1p : 0 < w1.heap.size := by have := (HT.out.below hb1).pos; exact this
  have HEA := Hid.mk' (early_any a len cap n ss wb ((HS0.out.below hb1).below hb2 |>.below hbb) HN.out)
  clear hnew
  go_upto_region 7 with (go_at_call 13; refine HEA.out.mono ?_; rintro e w3 ⟨a3, c3, rfl, hs3, ha3, hb3⟩)
  have hl3 := hs3.hle
  have hm3 := hs3.hcap
  unfold maxLen at hm3
  have hq3 := (FIn.belowN (FIn.belowN hq2 hbb) hb3)
  have HB : Hid (Below w.heap.size w w3) := below_trans (below_trans (below_trans hb1 hb2) hbb) hb3
  have HS := Hid.mk' hs3
  obtain ⟨bx, hbx⟩ : ∃ bx, bx = w2.heap.size := ⟨_, rfl⟩
  have hs23 := hb3.size
  have hgx : w3.heap[bx]? = some (.cells #[.int .i64 E, .int .i64 gd, .slice none 0 0, .slice none 0 0, .slice none 0 0, .slice none 0 0, .slice none 0 0, .slice none 0 0] 33 (0, 0)) := by rw [hbx]; exact (hb3.block _ (by omega)).trans hgb
  obtain ⟨AS, hAS⟩ : ∃ AS : Nat → Prop, AS = (fun k => k < w1.heap.size ∨ (wb.heap.size ≤ k ∧ k < w3.heap.size)) := ⟨_, rfl⟩
  obtain ⟨A3, hA3⟩ : ∃ A3 : Nat → Prop, A3 = (fun k => (k < w1.heap.size ∨ (w2.heap.size ≤ k ∧ k < wb.heap.size)) ∨ (wb.heap.size ≤ k ∧ k < w3.heap.size)) := ⟨_, rfl⟩
  rw [← hA3] at hq3
  have HAA : Hid (∀ k, k < w.heap.size → AS k) := fun k hk => by rw [hAS]; exact .inl (Nat.lt_of_lt_of_le hk hb1.size)
  have HA4 : Hid (∀ x, a3 = some x → AS x.block) := fun x hx => by rw [hAS]; exact .inr (ha3 x hx)
  have HMM : Hid (∀ i, i < n → 0 < ((trs (ss.take n)).getD i s0).ml → ∀ z, ((trs (ss.take n)).getD i s0).ma = some z → AS z.block) := fun i hi h0 z hz => HAA.out _ (HM.out i hi h0 z hz)
  have HNB : Hid (¬ AS bx) := by rw [hAS, hbx]; show ¬ _; omega
  have HSA : Hid (∀ k, AS k → A3 k) := fun k hk => by rw [hAS] at hk; rw [hA3]; exact hk.elim (fun h => .inl (.inl h)) .inr
  have HBX : Hid (A3 bx) := by rw [hA3, hbx]; exact .inl (.inr ⟨Nat.le_refl _, by omega⟩)
  have hbx0 : bx ≠ 0 := by omega
  have HR3 : Hid (RL6 w3 (fun k => A3 k ∧ k ≠ bx) ⟨none, 0, 0⟩ ⟨none, 0, 0⟩ ⟨none, 0, 0⟩ ⟨none, 0, 0⟩ ⟨none, 0, 0⟩ ⟨none, 0, 0⟩ ⟨[], [], []⟩) := by
    refine ⟨StrsAt.nil _ _ _ (Nat.zero_le _), ⟨rfl, Nat.le_refl _, Nat.zero_le _, fun j hj => absurd hj (Nat.not_lt_zero _)⟩, ⟨rfl, Nat.le_refl _, Nat.zero_le _, fun j hj => absurd hj (Nat.not_lt_zero _)⟩, RfAt.nil _, ?_, ?_⟩
    · rintro k (⟨q, hq, -⟩ | ⟨q, hq, -⟩ | ⟨q, hq, -⟩) <;> cases hq
    · rintro k (⟨q, hq, -⟩ | ⟨q, hq, -⟩ | ⟨q, hq, -⟩) <;> cases hq
  rw [← hbx]
  generalize hts : trs (ss.take n) = ts at *
  have HQ3 := Hid.mk' hq3
  have HGX := Hid.mk' hgx
  clear hs3 hb1 hb2 hb3 hbb hq2 ha3 HN HS0 hts hAS hA3 hbx hq3 hgx hgb hsb hs12 hs23 h1p HEA HM HT
  go_wp2
  go_loopw [9] (fun v9 wr => ∃ (i : Nat) (s : Fl) (A : Nat → Prop) (ja jb jc jx jy jz : Sl), v9 = .int .i64 i ∧ i ≤ n ∧ Hid (FA wr A f E gd s) ∧ Hid (W s) ∧ s.H.length ≤ 16 * i ∧ Hid (Keep AS w3 wr) ∧ Hid (∀ k, AS k → A k) ∧ Hid (A bx) ∧ Hid (RL6 wr (fun k => A k ∧ k ≠ bx) ja jb jc jx jy jz s) ∧ Hid (wr.heap[bx]? = some (.cells #[.int .i64 E, .int .i64 gd, .slice ja.a ja.n ja.c, .slice jb.a jb.n jb.c, .slice jc.a jc.n jc.c, .slice jx.a jx.n jx.c, .slice jy.a jy.n jy.c, .slice jz.a jz.n jz.c] 33 (0, 0)))) (fun v9 _ => n + 1 - (intOf v9).toNat)
  case atStart => exact ⟨0, ⟨[], [], []⟩, A3, _, _, _, _, _, _, rfl, Nat.zero_le _, HQ3, W.start, Nat.zero_le _, Keep.refl _ _, HSA, HBX, HR3, HGX⟩
  case round =>
    clear HQ3 HSA HBX HR3 HGX
    obtain ⟨i, s, A, ja, jb, jc, jx, jy, jz, rfl, hi, HF, HW, hl, HK, HSA, HBX, HR, HGX⟩ := hrel
    by_cases hin : i < n
    · obtain ⟨b, off, rfl, hb, hcc, hnm, hms, hmz⟩ := HS.out.rd i hin
      have hbA := HA4.out _ rfl
      have hA0 := HMM.out i hin
      generalize ts.getD i s0 = st at *
      have hl16 : s.H.length ≤ 1600 := by omega
      obtain ⟨R, hR⟩ : ∃ R, stp E gd (kindI st.kd) st.n st.nm st.ms s = R := ⟨_, rfl⟩
      have hlen := stp_len E gd (kindI st.kd) st.n st.nm st.ms s
      have hW2 := HW.out.step E gd (kindI st.kd) st.n st.nm st.ms
      rw [hR] at hlen hW2
      have HWR := Hid.mk' hW2
      have HRR := Hid.mk' hR
      have x0 : wr.cell? ⟨b, off + i * 4, none⟩ = some (.int .i64 st.kd) := HK.out.cell (hcc 0 _ rfl) hbA
      have x1 : wr.cell? ⟨b, off + i * 4 + 1, none⟩ = some (.int .i64 st.n) := HK.out.cell (hcc 1 _ rfl) hbA
      have x2 : wr.cell? ⟨b, off + i * 4 + 2, none⟩ = some (.string st.nm) := HK.out.cell (hcc 2 _ rfl) hbA
      have x3 : wr.cell? ⟨b, off + i * 4 + 3, none⟩ = some (.slice st.ma st.ml st.mc) := HK.out.cell (hcc 3 _ rfl) hbA
      have HMS : Hid (∀ w', Keep AS w3 w' → StrsAt w' st.ma st.ml st.mc st.ms) := fun w' hk => hms.keep0 hk hA0
      have hbr : bx < wr.heap.size := HF.out.guard _ HBX.out
      obtain ⟨w4, hw4⟩ : ∃ w4, w4 = wr.alloc (.cells #[.int .i64 st.kd, .int .i64 st.n, .string st.nm, .slice st.ma st.ml st.mc] 36) := ⟨_, rfl⟩
      have hb4 : Below wr.heap.size wr w4 := by rw [hw4]; exact (Below.refl _ wr).alloc (Nat.le_refl _) _
      have hg4 : w4.heap[wr.heap.size]? = some (.cells #[.int .i64 st.kd, .int .i64 st.n, .string st.nm, .slice st.ma st.ml st.mc] 36 (0, 0)) := by rw [hw4]; exact heap_alloc_new wr _
      have hs4 : w4.heap.size = wr.heap.size + 1 := by rw [hw4]; simp
      have hf4 := HF.out.belowN hb4
      obtain ⟨A4, hA4⟩ : ∃ A4 : Nat → Prop, A4 = (fun k => A k ∨ (wr.heap.size ≤ k ∧ k < w4.heap.size)) := ⟨_, rfl⟩
      rw [← hA4] at hf4
      have HS14 := Hid.mk' (step_w hf4 (HW.out.few (by omega)) st.kd st.n st.nm st.ma st.ml st.mc st.ms hnm (HMS.out w4 (HK.out.trans (keep_below hb4))) hmz (fun h0 z hz => by rw [hA4]; exact .inl (HSA.out _ (hA0 h0 z hz))) _ rfl R hR)
      have HAS4 : Hid (∀ k, AS k → A4 k) := fun k hk => by rw [hA4]; exact .inl (HSA.out k hk)
      have HAA4 : Hid (∀ k, A k → A4 k) := fun k hk => by rw [hA4]; exact .inl hk
      have HTA : Hid (A4 wr.heap.size) := by rw [hA4]; exact .inr ⟨Nat.le_refl _, by omega⟩
      have HK4 : Hid (Keep AS w3 w4) := HK.out.trans (keep_below hb4)
      have HR4 := Hid.mk' (HR.out.below hb4 (fun _ hk => hk))
      have HG4 := Hid.mk' ((hb4.block bx hbr).trans HGX.out)
      have hlt4 : wr.heap.size < w4.heap.size := by omega
      clear hcc hms hA0 hbA hW2 hR hf4 hA4 HF HR HGX HK
      go_upto_region 11 with fail
      rw [← hw4]
      clear hw4 x0 x1 x2 x3
      obtain ⟨y0, y1, y2, y3, -⟩ := blk4 hg4
      go_upto_region 12 with (go_at_call 14; refine HS14.out.mono ?_; rintro r w5 ⟨va, vb, rfl, o5, o5', hf5, hk5⟩; obtain ⟨pa, rfl⟩ := Tx_sl (TxAt.own o5).1; obtain ⟨pb, rfl⟩ := Tx_sl (TxAt.own o5').1)
      have HT5 := Hid.mk' (And.intro (TxAt.own o5).1 (TxAt.own o5').1)
      obtain ⟨w6, hw6⟩ : ∃ w6, w6 = w5.alloc (.cells #[.bool R.b, .int .i64 R.E, .slice pa.a pa.n pa.c, .slice pb.a pb.n pb.c] 39) := ⟨_, rfl⟩
      have hb6 : Below w5.heap.size w5 w6 := by rw [hw6]; exact (Below.refl _ w5).alloc (Nat.le_refl _) _
      have hg6 : w6.heap[w5.heap.size]? = some (.cells #[.bool R.b, .int .i64 R.E, .slice pa.a pa.n pa.c, .slice pb.a pb.n pb.c] 39 (0, 0)) := by rw [hw6]; exact heap_alloc_new w5 _
      have hs6 : w6.heap.size = w5.heap.size + 1 := by rw [hw6]; simp
      rw [← hw6]
      clear hw6
      have hs45 := hk5.size
      have hf6 := FIn.belowN hf5 hb6
      obtain ⟨A6, hA6⟩ : ∃ A6 : Nat → Prop, A6 = (fun k => ((A4 k ∨ (Value.slice pb.a pb.n pb.c).ownBlock = some k) ∨ (Value.slice pa.a pa.n pa.c).ownBlock = some k) ∨ (w5.heap.size ≤ k ∧ k < w6.heap.size)) := ⟨_, rfl⟩
      rw [← hA6] at hf6
      have HA46 : Hid (∀ k, A4 k → A6 k) := fun k hk => by rw [hA6]; exact .inl (.inl (.inl hk))
      have HT6A : Hid (A6 w5.heap.size) := by rw [hA6]; exact .inr ⟨Nat.le_refl _, by omega⟩
      have hk46 : Keep A4 w4 w6 := hk5.trans (keep_below hb6)
      have HK6 : Hid (Keep AS w3 w6) := HK4.out.trans (hk46.mono (fun k _ hk => HAS4.out k hk))
      have HR6 : Hid (RL6 w6 (fun k => A6 k ∧ k ≠ bx) ja jb jc jx jy jz s) := (HR4.out.keep hk46 (fun k hk => HAA4.out k hk.1)).mono (fun k hk => ⟨HA46.out k (HAA4.out k hk.1), hk.2⟩)
      have HGD6 : Hid (∀ k, (A6 k ∧ k ≠ bx) → k < w6.heap.size) := fun k hk => hf6.guard k hk.1
      have HG6 := Hid.mk' ((hk46.block bx (by omega) (HAA4.out _ HBX.out)).trans HG4.out)
      have HS6 := Hid.mk' ((hk46.block wr.heap.size hlt4 HTA.out).trans hg4)
      have HF6 := Hid.mk' hf6
      have HSN6 := Hid.mk' hg6
      have HT6 : Hid (TxAt w6 (Value.slice pa.a pa.n pa.c) R.P ∧ TxAt w6 (Value.slice pb.a pb.n pb.c) R.Q) := ⟨HT5.out.1.below hb6, HT5.out.2.below hb6⟩
      have HRS := Hid.mk' (rstep_w (e := E) (gd := gd) st.kd st.n st.nm st.ma st.ml st.mc st.ms HR6.out HGD6.out HW.out hl16 hE1 hnm (HMS.out w6 HK6.out) hmz _ rfl R HRR.out)
      have hw46 : wr.heap.size < w5.heap.size := by omega
      have hbr6 : bx < w6.heap.size := by omega
      have HS6b := HS6.out
      have HG6b := HG6.out
      clear y0 y1 y2 y3 hg4 o5 o5' hf5 hk5 HT5 hf6 hA6 hg6 hk46 hb4 HS14
      obtain ⟨c0, c1, c2, c3, c4, c5, c6, c7⟩ := blk8 HG6b
      obtain ⟨y0, y1, y2, y3, -⟩ := blk4 HS6b
      clear HG6b HS6b
      go_upto_region 13 with (go_at_call 15; refine HRS.out.mono ?_; rintro r w7 ⟨v7, va, vb, rfl, ⟨ka, kb, kc, kx, ky, kz, rfl, h7, hb7⟩, t1, t2⟩; obtain ⟨ra, rfl⟩ := Tx_sl t1; obtain ⟨rb, rfl⟩ := Tx_sl t2)
      obtain ⟨w8, hw8⟩ : ∃ w8, w8 = (w7.alloc (.cells #[.int .i64 E, .int .i64 gd, .slice ka.a ka.n ka.c, .slice kb.a kb.n kb.c, .slice kc.a kc.n kc.c, .slice kx.a kx.n kx.c, .slice ky.a ky.n ky.c, .slice kz.a kz.n kz.c] 33)).alloc (.cells #[.bool R.b, .int .i64 R.E, .slice ra.a ra.n ra.c, .slice rb.a rb.n rb.c] 39) := ⟨_, rfl⟩
      have hb8 : Below w7.heap.size w7 w8 := by rw [hw8]; exact ((Below.refl _ w7).alloc (Nat.le_refl _) _).alloc (by simp) _
      have hg80 : w8.heap[w7.heap.size]? = some (.cells #[.int .i64 E, .int .i64 gd, .slice ka.a ka.n ka.c, .slice kb.a kb.n kb.c, .slice kc.a kc.n kc.c, .slice kx.a kx.n kx.c, .slice ky.a ky.n ky.c, .slice kz.a kz.n kz.c] 33 (0, 0)) := by
        rw [hw8, Below.heap_alloc _ _ _ (by simp)]
        exact heap_alloc_new w7 _
      have hg81 : w8.heap[w7.heap.size + 1]? = some (.cells #[.bool R.b, .int .i64 R.E, .slice ra.a ra.n ra.c, .slice rb.a rb.n rb.c] 39 (0, 0)) := by
        rw [hw8]
        have := heap_alloc_new (w7.alloc (.cells #[.int .i64 E, .int .i64 gd, .slice ka.a ka.n ka.c, .slice kb.a kb.n kb.c, .slice kc.a kc.n kc.c, .slice kx.a kx.n kx.c, .slice ky.a ky.n ky.c, .slice kz.a kz.n kz.c] 33)) (.cells #[.bool R.b, .int .i64 R.E, .slice ra.a ra.n ra.c, .slice rb.a rb.n rb.c] 39)
        simpa using this
      rw [← hw8]
      clear hw8 c0 c1 c2 c3 c4 c5 c6 c7 y0 y1 y2 y3
      have hs7 := hb7.size
      have hs8 := hb8.size
      have HF8 := Hid.mk' (FIn.belowN (FIn.belowN HF6.out hb7) hb8)
      obtain ⟨A8, hA8⟩ : ∃ A8 : Nat → Prop, A8 = (fun k => (A6 k ∨ (w6.heap.size ≤ k ∧ k < w7.heap.size)) ∨ (w7.heap.size ≤ k ∧ k < w8.heap.size)) := ⟨_, rfl⟩
      rw [← hA8] at HF8
      have HA68 : Hid (∀ k, A6 k → A8 k) := fun k hk => by rw [hA8]; exact .inl (.inl hk)
      have hb68 : Below w6.heap.size w6 w8 := hb7.trans (hb8.mono hs7)
      have HR8 : Hid (RL6 w8 (fun k => A8 k ∧ k ≠ bx) ka kb kc kx ky kz R.s) := h7.below hb8 (fun k hk => by
        rcases hk with hk | hk
        · exact ⟨HA68.out k hk.1, hk.2⟩
        · exact ⟨by rw [hA8]; exact .inl (.inr hk), by omega⟩)
      have HK8 : Hid (Keep AS w3 w8) := HK6.out.trans (keep_below hb68)
      have hgb8 := (hb68.block bx hbr6).trans HG6.out
      have hgs8 := (hb68.block wr.heap.size (by omega)).trans HS6.out
      have hgn8 := (hb68.block w5.heap.size (by omega)).trans HSN6.out
      have HT8 : Hid ((TxAt w8 (Value.slice pa.a pa.n pa.c) R.P ∧ TxAt w8 (Value.slice pb.a pb.n pb.c) R.Q) ∧ TxAt w8 (.slice ra.a ra.n ra.c) R.P ∧ TxAt w8 (.slice rb.a rb.n rb.c) R.Q) := ⟨⟨HT6.out.1.below hb68, HT6.out.2.below hb68⟩, t1.below hb8, t2.below hb8⟩
      obtain ⟨c0, c1, c2, c3, c4, c5, c6, c7⟩ := blk8 hgb8
      have z0 := fz8 hgb8 0
      have z1 := fz8 hgb8 1
      have z2 := fz8 hgb8 2
      have z3 := fz8 hgb8 3
      have z4 := fz8 hgb8 4
      have z5 := fz8 hgb8 5
      have z6 := fz8 hgb8 6
      have z7 := fz8 hgb8 7
      obtain ⟨m0, m1, m2, m3, m4, m5, m6, m7⟩ := blk8 hg80
      clear t1 t2 h7 HT6 HRS HR6 HF6 HG6 HS6 HSN6 HGD6 hA8
      go_upto_region 14 with fail
      have hr9 := put8_rest w8 0 bx (Nat.zero_le _) (.int .i64 E) (.int .i64 gd) (.slice ka.a ka.n ka.c) (.slice kb.a kb.n kb.c) (.slice kc.a kc.n kc.c) (.slice kx.a kx.n kx.c) (.slice ky.a ky.n ky.c) (.slice kz.a kz.n kz.c)
      have hgb9 := put8 hgb8 (.int .i64 E) (.int .i64 gd) (.slice ka.a ka.n ka.c) (.slice kb.a kb.n kb.c) (.slice kc.a kc.n kc.c) (.slice kx.a kx.n kx.c) (.slice ky.a ky.n ky.c) (.slice kz.a kz.n kz.c)
      have HKB9 : Hid (Keep (fun k => k ≠ bx) w8 ((((((((w8.setCell ⟨bx, 0, none⟩ (.int .i64 E)).setCell ⟨bx, 1, none⟩ (.int .i64 gd)).setCell ⟨bx, 2, none⟩ (.slice ka.a ka.n ka.c)).setCell ⟨bx, 3, none⟩ (.slice kb.a kb.n kb.c)).setCell ⟨bx, 4, none⟩ (.slice kc.a kc.n kc.c)).setCell ⟨bx, 5, none⟩ (.slice kx.a kx.n kx.c)).setCell ⟨bx, 6, none⟩ (.slice ky.a ky.n ky.c)).setCell ⟨bx, 7, none⟩ (.slice kz.a kz.n kz.c))) := ⟨hr9.1.os, hr9.1.tape, hr9.1.output, hr9.1.size, fun k _ hk => hr9.2 k hk⟩
      clear c0 c1 c2 c3 c4 c5 c6 c7 z0 z1 z2 z3 z4 z5 z6 z7 m0 m1 m2 m3 m4 m5 m6 m7 hr9
      generalize ((((((((w8.setCell ⟨bx, 0, none⟩ (.int .i64 E)).setCell ⟨bx, 1, none⟩ (.int .i64 gd)).setCell ⟨bx, 2, none⟩ (.slice ka.a ka.n ka.c)).setCell ⟨bx, 3, none⟩ (.slice kb.a kb.n kb.c)).setCell ⟨bx, 4, none⟩ (.slice kc.a kc.n kc.c)).setCell ⟨bx, 5, none⟩ (.slice kx.a kx.n kx.c)).setCell ⟨bx, 6, none⟩ (.slice ky.a ky.n ky.c)).setCell ⟨bx, 7, none⟩ (.slice kz.a kz.n kz.c)) = w9 at *
      have hgs9 := (HKB9.out.block wr.heap.size (by omega) (by omega)).trans hgs8
      have hgn9 := (HKB9.out.block w5.heap.size (by omega) (by omega)).trans hgn8
      have hgm9 := (HKB9.out.block (w7.heap.size + 1) (Array.getElem?_eq_some_iff.1 hg81).1 (by omega)).trans hg81
      have hbx8 : A8 bx := HA68.out _ (HA46.out _ (HAA4.out _ HBX.out))
      have HF9 : Hid (FA w9 A8 f E gd R.s) := FIn.keep HF8.out (HKB9.out.mono (fun k _ hk e => by
        rcases hk with h | h
        · exact h (e ▸ hbx8)
        · exact hbx0 (e ▸ h))) (fun k hk => .inl hk) (fun k hk => Nat.lt_of_lt_of_le (HF8.out.guard k hk) HKB9.out.size) HF8.out.a0
      have HR9 : Hid (RL6 w9 (fun k => A8 k ∧ k ≠ bx) ka kb kc kx ky kz R.s) := HR8.out.keep HKB9.out (fun k hk => hk.2)
      have HK9 : Hid (Keep AS w3 w9) := HK8.out.trans (HKB9.out.mono (fun k _ hk e => HNB.out (e ▸ hk)))
      have HGB9 := Hid.mk' hgb9
      have hse : ∀ (p q p' q' : Sl) (l m : List ByteArray), TxAt w8 (.slice p.a p.n p.c) l → TxAt w8 (.slice p'.a p'.n p'.c) l → TxAt w8 (.slice q.a q.n q.c) m → TxAt w8 (.slice q'.a q'.n q'.c) m → Calls Tryd.prog 16 #[.agg #[.bool R.b, .int .i64 R.E, .slice p.a p.n p.c, .slice q.a q.n q.c], .agg #[.bool R.b, .int .i64 R.E, .slice p'.a p'.n p'.c, .slice q'.a q'.n q'.c]] w9 fun o w' => o = .returned (.bool true) ∧ Below w9.heap.size w9 w' := fun p q p' q' l m h1 h2 h3 h4 => by
        have nb := nostr hgb8 (by simp)
        exact same_seen R.b R.E p q p' q' l m w9 (tx_strs (h1.other1 HKB9.out nb)) (tx_strs (h3.other1 HKB9.out nb)) (tx_strs (h2.other1 HKB9.out nb)) (tx_strs (h4.other1 HKB9.out nb))
      have HSE := Hid.mk' (hse pa pb ra rb R.P R.Q HT8.out.1.1 HT8.out.2.1 HT8.out.1.2 HT8.out.2.2)
      have HLK : Hid (∀ w', Below w9.heap.size w9 w' → Calls Tryd.prog 17 #[.pointer (some ⟨f, 0, none⟩), .agg #[.int .i64 E, .int .i64 gd, .slice ka.a ka.n ka.c, .slice kb.a kb.n kb.c, .slice kc.a kc.n kc.c, .slice kx.a kx.n kx.c, .slice ky.a ky.n ky.c, .slice kz.a kz.n kz.c], .string st.nm, .int .i64 st.n] w' fun o w'' => o = .returned (.bool true) ∧ Below w'.heap.size w' w'') := fun w' hb => like_w (HF9.out.below hb) (HR9.out.below hb (fun _ hk => hk)) HWR.out hE1 (by omega) st.nm st.n
      have HX9 : Hid (∀ w', Below w9.heap.size w9 w' → w'.heap[bx]? = some (.cells #[.int .i64 E, .int .i64 gd, .slice ka.a ka.n ka.c, .slice kb.a kb.n kb.c, .slice kc.a kc.n kc.c, .slice kx.a kx.n kx.c, .slice ky.a ky.n ky.c, .slice kz.a kz.n kz.c] 33 (0, 0)) ∧ w'.heap[wr.heap.size]? = some (.cells #[.int .i64 st.kd, .int .i64 st.n, .string st.nm, .slice st.ma st.ml st.mc] 36 (0, 0))) := fun w' hb => ⟨(hb.block bx (Array.getElem?_eq_some_iff.1 hgb9).1).trans hgb9, (hb.block _ (Array.getElem?_eq_some_iff.1 hgs9).1).trans hgs9⟩
      obtain ⟨y0, y1, y2, y3, -⟩ := blk4 hgn9
      obtain ⟨z0, z1, z2, z3, -⟩ := blk4 hgm9
      clear hgb8 hgs8 hgn8 hg80 hg81 hgs9 hgn9 hgm9 hse HT8 hgb9 HKB9 HF8 HR8 HK8
      go_wp2_with (first
        | (go_at_call 16; refine HSE.out.mono ?_; rintro r w10 ⟨rfl, hb10⟩; have hlk := HLK.out w10 hb10; obtain ⟨hgx10, hgt10⟩ := HX9.out w10 hb10; obtain ⟨c0, c1, c2, c3, c4, c5, c6, c7⟩ := blk8 hgx10; obtain ⟨q0, q1, q2, q3, -⟩ := blk4 hgt10)
        | (go_at_call 17; refine hlk.mono ?_; rintro r w11 ⟨rfl, hb11⟩))
      have hb9 : Below w9.heap.size w9 w11 := hb10.trans (hb11.mono hb10.size)
      have HFz := HF9.out.below hb9
      have HRz := HR9.out.below hb9 (fun _ hk => hk)
      have HGz := (HX9.out w11 hb9).1
      have HKz := HK9.out.trans (keep_below (A := AS) hb9)
      exact ⟨⟨i + 1, R.s, A8, ka, kb, kc, kx, ky, kz, by simp, by omega, HFz, HWR, by omega, HKz, fun k hk => HA68.out k (HA46.out k (HAS4.out k hk)), hbx8, HRz, HGz⟩, by simp [intOf]; omega⟩
    · have hbw : Below w.heap.size w wr := HB.out.trans (HK.out.below HB.out.size (fun k hk => HAA.out k hk))
      have hx1 : ¬ (i : Int) < (n : Int) := by omega
      go_wp2
      go_ret
      exact ⟨rfl, hbw⟩
end Go.Proofs.YtmlkpfkeeifgeaaDoor
