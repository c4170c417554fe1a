/-
  Several texts in one: RfM, RfE, RfC, RfB, RfY, SameS.
-/
import Derived.Test.YtmlkpfkeeifgeaaDoorM3
import Derived.Test.YtmlkpfkeeifgeaaDoorRd
import Derived.Deep.RegionHeld3
namespace Go.Proofs.YtmlkpfkeeifgeaaDoor
open Go.ChangeShapes Go.WideShapes Go.ChangeAt Go.RowKit

/-- A slice. -/
structure Sl where
  a : Option Addr
  n : Nat
  c : Nat
def Sl.v (s : Sl) : Value := .slice s.a s.n s.c
/-- The document's fleet: its eight cells: names, states, those that leave, and the three rows of its drains. -/
def rcs (e gd : Int) (a b c x y z : Sl) : Array Value := #[.int .i64 e, .int .i64 gd, .slice a.a a.n a.c, .slice b.a b.n b.c, .slice c.a c.n c.c, .slice x.a x.n x.c, .slice y.a y.n y.c, .slice z.a z.n z.c]
/-- .. as a value. -/
def rv (e gd : Int) (a b c x y z : Sl) : Value := .agg (rcs e gd a b c x y z)
/-- The slice reads as the flags bs. -/
structure FlagsAt (w : World) (a : Option Addr) (len cap : Nat) (bs : List Bool) : Prop where
  hlen : bs.length = len
  hle : len ≤ cap
  hcap : cap ≤ maxLen
  at_ : ∀ j, j < len → ∃ b off, a = some ⟨b, off, none⟩ ∧ b < w.heap.size ∧ w.cell? ⟨b, off + j, none⟩ = some (.bool (bs.getD j false))
theorem FlagsAt.below {w w' : World} {a : Option Addr} {len cap : Nat} {bs : List Bool} (h : FlagsAt w a len cap bs) (hb : Below w.heap.size w w') : FlagsAt w' a len cap bs := by
  refine ⟨h.hlen, h.hle, h.hcap, fun j hj => ?_⟩
  obtain ⟨b, off, e, hlt, hc⟩ := h.at_ j hj
  exact ⟨b, off, e, Nat.lt_of_lt_of_le hlt hb.size, (hb.cell (p := ⟨b, off + j, none⟩) hlt).trans hc⟩
/-- Those that leave, as flags. -/
def hl (H : List Hs) : List Bool := H.map Hs.lv

theorem blk8 {w : World} {g : Nat} {a b c d e f x y : Value} {t : TypeId} (h : w.heap[g]? = some (.cells #[a, b, c, d, e, f, x, y] t (0, 0))) :
    w.cell? ⟨g, 0, none⟩ = some a ∧ w.cell? ⟨g, 1, none⟩ = some b ∧ w.cell? ⟨g, 2, none⟩ = some c ∧ w.cell? ⟨g, 3, none⟩ = some d ∧ w.cell? ⟨g, 4, none⟩ = some e ∧ w.cell? ⟨g, 5, none⟩ = some f ∧ w.cell? ⟨g, 6, none⟩ = some x ∧ w.cell? ⟨g, 7, none⟩ = some y := by
  refine ⟨?_, ?_, ?_, ?_, ?_, ?_, ?_, ?_⟩ <;> simp [World.cell?, h]

set_option maxHeartbeats 2000000 in
set_option maxRecDepth 100000 in
theorem rat_any (e gd : Int) (a b c x y z : Sl) (ns : List ByteArray) (s : ByteArray) (w : World) (h : StrsAt w a.a a.n a.c ns) :
    Calls Tryd.prog 50 #[rv e gd a b c x y z, .string s] w fun o w' => o = .returned (.int .i64 (plc s ns)) ∧ Below w.heap.size w w' := by
  have hb1 : Below w.heap.size w (w.alloc (.cells (rcs e gd a b c x y z) 33)) := (Below.refl _ w).alloc (Nat.le_refl _) _
  have hp := place_any a.a a.n a.c ns s _ (h.below (Nat.le_refl _) hb1)
  have hg : (w.alloc (.cells (rcs e gd a b c x y z) 33)).heap[w.heap.size]? = some (.cells (rcs e gd a b c x y z) 33 (0, 0)) := heap_alloc_new w _
  unfold rcs at hb1 hp hg
  obtain ⟨x0, x1, x2, -⟩ := blk8 hg
  unfold rv rcs
  clear h hg
  go_enter Tryd.func50, Tryd.ntmps50
  go_wp2_with (go_at_call 49; refine hp.mono ?_; rintro o w2 ⟨rfl, hw⟩; subst hw)
  go_ret
  exact ⟨rfl, hb1⟩

theorem plc_pl (x : ByteArray) (H : List Hs) : plc x (hn H) = pl x H := rfl
set_option maxHeartbeats 2000000 in
set_option maxRecDepth 100000 in
theorem rknown_any (e gd : Int) (a b c x y z : Sl) (H : List Hs) (s : ByteArray) (hs : s.size ≤ maxLen) (w : World) (h : StrsAt w a.a a.n a.c (hn H)) :
    Calls Tryd.prog 72 #[rv e gd a b c x y z, .string s] w fun o w' => o = .returned (.int .i64 (errF s H)) ∧ Below w.heap.size w w' := by
  have hb1 : Below w.heap.size w (w.alloc (.cells (rcs e gd a b c x y z) 33)) := (Below.refl _ w).alloc (Nat.le_refl _) _
  have hn1 := rname_any s hs (w.alloc (.cells (rcs e gd a b c x y z) 33))
  have hat := rat_any e gd a b c x y z (hn H) s _ (h.below (Nat.le_refl _) hb1)
  have hg : (w.alloc (.cells (rcs e gd a b c x y z) 33)).heap[w.heap.size]? = some (.cells (rcs e gd a b c x y z) 33 (0, 0)) := heap_alloc_new w _
  rw [plc_pl] at hat
  unfold rv at hat ⊢
  unfold rcs at hb1 hn1 hat hg ⊢
  obtain ⟨x0, x1, x2, x3, x4, x5, x6, x7⟩ := blk8 hg
  clear h hg hs
  cases h0 : nameB s with
  | false =>
    have e1 : errF s H = 11 := by unfold errF; rw [if_pos h0]
    rw [e1]
    rw [h0] at hn1
    clear hat
    go_enter Tryd.func72, Tryd.ntmps72
    go_wp2_with (go_at_call 92; refine hn1.mono ?_; rintro o w2 ⟨rfl, hw⟩; subst hw)
    go_ret
    exact ⟨rfl, hb1⟩
  | true =>
    rw [h0] at hn1
    cases h1 : isH s H with
    | false =>
      have e1 : errF s H = 5 := by unfold errF; rw [h0, if_neg (by simp), if_pos h1]
      rw [e1]
      rw [pl_no h1] at hat
      go_enter Tryd.func72, Tryd.ntmps72
      go_wp2_with (first
        | (go_at_call 92; refine hn1.mono ?_; rintro o w2 ⟨rfl, hw⟩; subst hw)
        | (go_at_call 50; refine hat.mono ?_; rintro o w3 ⟨rfl, hb3⟩))
      go_ret
      exact ⟨rfl, hb1.trans (hb3.mono hb1.size)⟩
    | true =>
      have e1 : errF s H = 0 := by unfold errF; rw [h0, if_neg (by simp), if_neg (by rw [h1]; simp)]
      rw [e1]
      rw [(pl_yes h1).1] at hat
      generalize plN s H = k at *
      have hk : ¬ (k : Int) < 0 := by omega
      go_enter Tryd.func72, Tryd.ntmps72
      go_wp2_with (first
        | (go_at_call 92; refine hn1.mono ?_; rintro o w2 ⟨rfl, hw⟩; subst hw)
        | (go_at_call 50; refine hat.mono ?_; rintro o w3 ⟨rfl, hb3⟩))
      go_ret
      exact ⟨rfl, hb1.trans (hb3.mono hb1.size)⟩
end Go.Proofs.YtmlkpfkeeifgeaaDoor
namespace Go.Proofs.YtmlkpfkeeifgeaaDoor
open Go.ChangeShapes Go.WideShapes Go.ChangeAt Go.RowKit

def nw (A : Nat → Prop) (w w' : World) (k : Nat) : Prop := A k ∨ (w.heap.size ≤ k ∧ k < w'.heap.size)
/-- The value reads as the state s; its blocks are of A. -/
structure RL6 (w : World) (A : Nat → Prop) (a b c x y z : Sl) (s : Fl) : Prop where
  nm : StrsAt w a.a a.n a.c (hn s.H)
  st : IntsAt w b.a b.n b.c (hz s.H)
  lv : FlagsAt w c.a c.n c.c (hl s.H)
  dr : RfAt w x.v y.v z.v s.L s.M
  bl : ∀ k, (bk a.a k ∨ bk b.a k ∨ bk c.a k) → A k
  bd : ∀ k, (bk x.a k ∨ bk y.a k ∨ bk z.a k) → A k
def RL (w : World) (A : Nat → Prop) (e gd : Int) (v : Value) (s : Fl) : Prop := ∃ a b c x y z : Sl, v = rv e gd a b c x y z ∧ RL6 w A a b c x y z s
theorem RL6.below {w w' : World} {A B : Nat → Prop} {a b c x y z : Sl} {s : Fl} (h : RL6 w A a b c x y z s) (hb : Below w.heap.size w w') (hA : ∀ k, A k → B k) : RL6 w' B a b c x y z s :=
  ⟨h.nm.below (Nat.le_refl _) hb, h.st.below (Nat.le_refl _) hb, h.lv.below hb, h.dr.below hb, fun k hk => hA k (h.bl k hk), fun k hk => hA k (h.bd k hk)⟩
theorem RL.below {w w' : World} {A B : Nat → Prop} {e gd : Int} {v : Value} {s : Fl} (h : RL w A e gd v s) (hb : Below w.heap.size w w') (hA : ∀ k, A k → B k) : RL w' B e gd v s := by
  obtain ⟨a, b, c, x, y, z, rfl, h6⟩ := h
  exact ⟨a, b, c, x, y, z, rfl, h6.below hb hA⟩
theorem Tx_sl {w : World} {v : Value} {l : List ByteArray} (h : TxAt w v l) : ∃ s : Sl, v = .slice s.a s.n s.c := by
  obtain ⟨a, c, e, -⟩ := h
  exact ⟨⟨a, l.length, c⟩, e⟩
theorem Ix_sl {w : World} {v : Value} {l : List Int} (h : IxAt w v l) : ∃ s : Sl, v = .slice s.a s.n s.c := by
  obtain ⟨a, c, e, -⟩ := h
  exact ⟨⟨a, l.length, c⟩, e⟩
/-- Another row of drains. -/
theorem RL6.turn {w w' : World} {A B : Nat → Prop} {a b c x y z x' y' z' : Sl} {s : Fl} {L M : List Dr} (h : RL6 w A a b c x y z s) (hb : Below w.heap.size w w') (hd : RfAt w' x'.v y'.v z'.v L M) (hA : ∀ k, A k → B k) (hB : ∀ k, (bk x'.a k ∨ bk y'.a k ∨ bk z'.a k) → B k) : RL6 w' B a b c x' y' z' ⟨s.H, L, M⟩ :=
  ⟨h.nm.below (Nat.le_refl _) hb, h.st.below (Nat.le_refl _) hb, h.lv.below hb, hd, fun k hk => hA k (h.bl k hk), hB⟩
theorem from_sl {w w' : World} {A : Nat → Prop} {x y z v : Sl} (hf : From w w' x.v y.v z.v v.v) (hA : ∀ k, (bk x.a k ∨ bk y.a k ∨ bk z.a k) → A k) : ∀ k, bk v.a k → nw A w w' k := by
  intro k hk
  rcases hf k (own_bk.2 hk) with h | h
  · exact .inl (hA k (h.imp own_bk.1 (Or.imp own_bk.1 own_bk.1)))
  · exact .inr h

theorem put3 {w : World} {g : Nat} {a b c d e f x y : Value} {t : TypeId} (h : w.heap[g]? = some (.cells #[a, b, c, d, e, f, x, y] t (0, 0))) (p q r : Value) :
    (((w.setCell ⟨g, 5, none⟩ p).setCell ⟨g, 6, none⟩ q).setCell ⟨g, 7, none⟩ r).heap[g]? = some (.cells #[a, b, c, d, e, p, q, r] t (0, 0)) := by
  have h1 := heap_setCell_same w g 5 _ t p h
  have h2 := heap_setCell_same _ g 6 _ t q h1
  have h3 := heap_setCell_same _ g 7 _ t r h2
  rw [h3]
  simp
theorem put8 {w : World} {g : Nat} {a b c d e f x y : Value} {t : TypeId} (h : w.heap[g]? = some (.cells #[a, b, c, d, e, f, x, y] t (0, 0))) (p0 p1 p2 p3 p4 p5 p6 p7 : Value) :
    ((((((((w.setCell ⟨g, 0, none⟩ p0).setCell ⟨g, 1, none⟩ p1).setCell ⟨g, 2, none⟩ p2).setCell ⟨g, 3, none⟩ p3).setCell ⟨g, 4, none⟩ p4).setCell ⟨g, 5, none⟩ p5).setCell ⟨g, 6, none⟩ p6).setCell ⟨g, 7, none⟩ p7).heap[g]? = some (.cells #[p0, p1, p2, p3, p4, p5, p6, p7] t (0, 0)) := by
  have h0 := heap_setCell_same w g 0 _ t p0 h
  have h1 := heap_setCell_same _ g 1 _ t p1 h0
  have h2 := heap_setCell_same _ g 2 _ t p2 h1
  have h3 := heap_setCell_same _ g 3 _ t p3 h2
  have h4 := heap_setCell_same _ g 4 _ t p4 h3
  have h5 := heap_setCell_same _ g 5 _ t p5 h4
  have h6 := heap_setCell_same _ g 6 _ t p6 h5
  have h7 := heap_setCell_same _ g 7 _ t p7 h6
  rw [h7]
  simp
theorem put3_rest (w : World) (B g : Nat) (hB : B ≤ g) (p q r : Value) : Below B w (((w.setCell ⟨g, 5, none⟩ p).setCell ⟨g, 6, none⟩ q).setCell ⟨g, 7, none⟩ r) ∧ ∀ k, k ≠ g → (((w.setCell ⟨g, 5, none⟩ p).setCell ⟨g, 6, none⟩ q).setCell ⟨g, 7, none⟩ r).heap[k]? = w.heap[k]? := by
  have h1 : Below B w (w.setCell ⟨g, 5, none⟩ p) := (Below.refl B w).setCell (p := ⟨g, 5, none⟩) hB p
  have h2 := h1.setCell (p := ⟨g, 6, none⟩) hB q
  have h3 := h2.setCell (p := ⟨g, 7, none⟩) hB r
  refine ⟨h3, fun k hk => ?_⟩
  exact (Below.heap_setCell _ ⟨g, 7, none⟩ r k hk).trans ((Below.heap_setCell _ ⟨g, 6, none⟩ q k hk).trans (Below.heap_setCell _ ⟨g, 5, none⟩ p k hk))
theorem put8_rest (w : World) (B g : Nat) (hB : B ≤ g) (p0 p1 p2 p3 p4 p5 p6 p7 : Value) : Below B w ((((((((w.setCell ⟨g, 0, none⟩ p0).setCell ⟨g, 1, none⟩ p1).setCell ⟨g, 2, none⟩ p2).setCell ⟨g, 3, none⟩ p3).setCell ⟨g, 4, none⟩ p4).setCell ⟨g, 5, none⟩ p5).setCell ⟨g, 6, none⟩ p6).setCell ⟨g, 7, none⟩ p7) ∧ ∀ k, k ≠ g → ((((((((w.setCell ⟨g, 0, none⟩ p0).setCell ⟨g, 1, none⟩ p1).setCell ⟨g, 2, none⟩ p2).setCell ⟨g, 3, none⟩ p3).setCell ⟨g, 4, none⟩ p4).setCell ⟨g, 5, none⟩ p5).setCell ⟨g, 6, none⟩ p6).setCell ⟨g, 7, none⟩ p7).heap[k]? = w.heap[k]? := by
  have h0 : Below B w (w.setCell ⟨g, 0, none⟩ p0) := (Below.refl B w).setCell (p := ⟨g, 0, none⟩) hB p0
  have h1 := h0.setCell (p := ⟨g, 1, none⟩) hB p1
  have h2 := h1.setCell (p := ⟨g, 2, none⟩) hB p2
  have h3 := h2.setCell (p := ⟨g, 3, none⟩) hB p3
  have h4 := h3.setCell (p := ⟨g, 4, none⟩) hB p4
  have h5 := h4.setCell (p := ⟨g, 5, none⟩) hB p5
  have h6 := h5.setCell (p := ⟨g, 6, none⟩) hB p6
  have h7 := h6.setCell (p := ⟨g, 7, none⟩) hB p7
  refine ⟨h7, fun k hk => ?_⟩
  exact (Below.heap_setCell _ ⟨g, 7, none⟩ p7 k hk).trans ((Below.heap_setCell _ ⟨g, 6, none⟩ p6 k hk).trans ((Below.heap_setCell _ ⟨g, 5, none⟩ p5 k hk).trans ((Below.heap_setCell _ ⟨g, 4, none⟩ p4 k hk).trans ((Below.heap_setCell _ ⟨g, 3, none⟩ p3 k hk).trans ((Below.heap_setCell _ ⟨g, 2, none⟩ p2 k hk).trans ((Below.heap_setCell _ ⟨g, 1, none⟩ p1 k hk).trans (Below.heap_setCell _ ⟨g, 0, none⟩ p0 k hk)))))))
theorem fz8 {w : World} {g : Nat} {a b c d e f x y : Value} {t : TypeId} (h : w.heap[g]? = some (.cells #[a, b, c, d, e, f, x, y] t (0, 0))) (o : Nat) : w.frozen? ⟨g, o, none⟩ = false := by simp [World.frozen?, h]

set_option maxHeartbeats 4000000 in
set_option maxRecDepth 100000 in
theorem rend_f {w : World} {A : Nat → Prop} {e gd : Int} {a b c x y z : Sl} {s : Fl} (q : ByteArray) (h : RL6 w A a b c x y z s) (hG : ∀ k, A k → k < w.heap.size) (hl : s.L.length ≤ 3500) (hm : s.M.length ≤ 3500) :
    Calls Tryd.prog 70 #[rv e gd a b c x y z, .string q] w fun o w' => ∃ x' y' z' : Sl, o = .returned (rv e gd a b c x' y' z') ∧ RL6 w' (nw A w w') a b c x' y' z' ⟨s.H, wo q s.L, wo q s.M⟩ ∧ Below w.heap.size w w' := by
  obtain ⟨w1, hw1⟩ : ∃ w1, w1 = (w.alloc (.cells (rcs e gd a b c x y z) 33)).alloc (.cells #[.int .i64 0, .int .i64 0, .slice none 0 0, .slice none 0 0, .slice none 0 0, .slice none 0 0, .slice none 0 0, .slice none 0 0] 33) := ⟨_, rfl⟩
  have hb1 : Below w.heap.size w w1 := by rw [hw1]; exact ((Below.refl _ w).alloc (Nat.le_refl _) _).alloc (by simp) _
  have hsz : w1.heap.size = w.heap.size + 2 := by rw [hw1]; simp
  have hq2 : w1.heap[w.heap.size]? = some (.cells (rcs e gd a b c x y z) 33 (0, 0)) := by
    rw [hw1, Below.heap_alloc _ _ _ (by simp)]
    exact heap_alloc_new w _
  have hq4 : w1.heap[w.heap.size + 1]? = some (.cells #[.int .i64 0, .int .i64 0, .slice none 0 0, .slice none 0 0, .slice none 0 0, .slice none 0 0, .slice none 0 0, .slice none 0 0] 33 (0, 0)) := by
    rw [hw1]
    have := heap_alloc_new (w.alloc (.cells (rcs e gd a b c x y z) 33)) (.cells #[.int .i64 0, .int .i64 0, .slice none 0 0, .slice none 0 0, .slice none 0 0, .slice none 0 0, .slice none 0 0, .slice none 0 0] 33)
    simpa using this
  have hr := rend_any w1 x.v y.v z.v s.L s.M q (h.dr.below hb1) hl hm
  unfold rcs at hw1 hq2
  unfold Sl.v at hr
  obtain ⟨c0, c1, c2, c3, c4, c5, c6, c7⟩ := blk8 hq2
  have H := Hid.mk' h
  unfold rv rcs
  clear h
  go_enter Tryd.func70, Tryd.ntmps70
  go_upto_region 1 with fail
  rw [← hw1]
  clear hw1
  go_upto_region 2 with (go_at_call 93; refine hr.mono ?_; rintro o w3 ⟨v0, v1, v2, rfl, hd3, ⟨f0, f1, f2⟩, hb3⟩; obtain ⟨x', rfl⟩ := Tx_sl hd3.wt; obtain ⟨y', rfl⟩ := Tx_sl hd3.un; obtain ⟨z', rfl⟩ := Ix_sl hd3.at_)
  have hq3 := (hb3.block w.heap.size (by omega)).trans hq2
  have hq5 := (hb3.block (w.heap.size + 1) (by omega)).trans hq4
  have hb4 : Below w3.heap.size w3 (w3.alloc (.cells #[.slice x'.a x'.n x'.c, .slice y'.a y'.n y'.c, .slice z'.a z'.n z'.c] 31)) := (Below.refl _ w3).alloc (Nat.le_refl _) _
  have hg4 := heap_alloc_new w3 (.cells #[.slice x'.a x'.n x'.c, .slice y'.a y'.n y'.c, .slice z'.a z'.n z'.c] 31)
  have hs3 := hb3.size
  have hlt3 : w.heap.size < w3.heap.size := by omega
  generalize w3.alloc (.cells #[.slice x'.a x'.n x'.c, .slice y'.a y'.n y'.c, .slice z'.a z'.n z'.c] 31) = w4 at *
  have hs4 := hb4.size
  have g2 := (hb4.block w.heap.size (by omega)).trans hq3
  have g5 := (hb4.block (w.heap.size + 1) (by omega)).trans hq5
  obtain ⟨k0, k1, k2, -⟩ := blk3 hg4
  obtain ⟨c0, c1, c2, c3, c4, c5, c6, c7⟩ := blk8 g2
  have z5 := fz8 g2 5
  have z6 := fz8 g2 6
  have z7 := fz8 g2 7
  have HD3 := Hid.mk' hd3
  have HF : Hid (From w1 w3 x.v y.v z.v x'.v ∧ From w1 w3 x.v y.v z.v y'.v ∧ From w1 w3 x.v y.v z.v z'.v) := ⟨f0, f1, f2⟩
  clear hd3 f0 f1 f2 hr hq3 hq5 hg4 hq2 hq4
  go_upto_region 3 with fail
  have g2' := put3 g2 (.slice x'.a x'.n x'.c) (.slice y'.a y'.n y'.c) (.slice z'.a z'.n z'.c)
  obtain ⟨hb5, hk5⟩ := put3_rest w4 w.heap.size w.heap.size (Nat.le_refl _) (.slice x'.a x'.n x'.c) (.slice y'.a y'.n y'.c) (.slice z'.a z'.n z'.c)
  have hg5 := (hk5 (w.heap.size + 1) (Nat.succ_ne_self _)).trans g5
  have HK5 : Hid (Keep (fun k => k ≠ w.heap.size ∧ k ≠ w.heap.size + 1) w4 _) := ⟨hb5.os, hb5.tape, hb5.output, hb5.size, fun k _ hk => hk5 k hk.1⟩
  clear c0 c1 c2 c3 c4 c5 c6 c7 z5 z6 z7 k0 k1 k2 g2 g5 hk5
  generalize (((w4.setCell ⟨w.heap.size, 5, none⟩ (.slice x'.a x'.n x'.c)).setCell ⟨w.heap.size, 6, none⟩ (.slice y'.a y'.n y'.c)).setCell ⟨w.heap.size, 7, none⟩ (.slice z'.a z'.n z'.c)) = w5 at *
  obtain ⟨c0, c1, c2, c3, c4, c5, c6, c7⟩ := blk8 g2'
  obtain ⟨d0, d1, d2, d3, d4, d5, d6, d7⟩ := blk8 hg5
  have f0 := fz8 hg5 0
  have f1 := fz8 hg5 1
  have f2 := fz8 hg5 2
  have f3 := fz8 hg5 3
  have f4 := fz8 hg5 4
  have f5 := fz8 hg5 5
  have f6 := fz8 hg5 6
  have f7 := fz8 hg5 7
  go_wp2
  have g8 := put8 hg5 (.int .i64 e) (.int .i64 gd) (.slice a.a a.n a.c) (.slice b.a b.n b.c) (.slice c.a c.n c.c) (.slice x'.a x'.n x'.c) (.slice y'.a y'.n y'.c) (.slice z'.a z'.n z'.c)
  obtain ⟨hb8, hk8⟩ := put8_rest w5 w.heap.size (w.heap.size + 1) (Nat.le_succ _) (.int .i64 e) (.int .i64 gd) (.slice a.a a.n a.c) (.slice b.a b.n b.c) (.slice c.a c.n c.c) (.slice x'.a x'.n x'.c) (.slice y'.a y'.n y'.c) (.slice z'.a z'.n z'.c)
  have HK8 : Hid (Keep (fun k => k ≠ w.heap.size ∧ k ≠ w.heap.size + 1) w5 _) := ⟨hb8.os, hb8.tape, hb8.output, hb8.size, fun k _ hk => hk8 k hk.2⟩
  clear hk8 d0 d1 d2 d3 d4 d5 d6 d7 f0 f1 f2 f3 f4 f5 f6 f7 c0 c1 c2 c3 c4 c5 c6 c7 hg5 g2'
  generalize ((((((((w5.setCell _ _).setCell _ _).setCell _ _).setCell _ _).setCell _ _).setCell _ _).setCell _ _).setCell _ _) = w6 at *
  obtain ⟨d0, d1, d2, d3, d4, d5, d6, d7⟩ := blk8 g8
  have hk36 : Keep (fun k => k ≠ w.heap.size ∧ k ≠ w.heap.size + 1) w3 w6 := (keep_below hb4).trans (HK5.out.trans HK8.out)
  have hbel : Below w.heap.size w w6 := (hb1.trans (hb3.mono (by omega))).trans ((hb4.mono (by omega)).trans (hb5.trans hb8))
  refine bodyPost_ret (v := .agg #[.int .i64 e, .int .i64 gd, .slice a.a a.n a.c, .slice b.a b.n b.c, .slice c.a c.n c.c, .slice x'.a x'.n x'.c, .slice y'.a y'.n y'.c, .slice z'.a z'.n z'.c]) (by simp [results, Tryd.results70, go_sem, d0, d1, d2, d3, d4, d5, d6, d7]) rfl ?_
  have hin : ∀ v : Sl, From w1 w3 x.v y.v z.v v.v → ∀ k, bk v.a k → A k ∨ (w.heap.size + 2 ≤ k ∧ k < w3.heap.size) := fun v hf k hk => by
    rcases from_sl hf H.out.bd k hk with h | h
    · exact .inl h
    · exact .inr (by rw [hsz] at h; exact h)
  have hs36 := hk36.size
  refine ⟨x', y', z', rfl, H.out.turn hbel (HD3.out.keep hk36 ?_) (fun k hk => .inl hk) ?_, hbel⟩
  · intro k hk
    have : A k ∨ (w.heap.size + 2 ≤ k ∧ k < w3.heap.size) := by
      rcases hk with hk | hk | hk
      · exact hin x' HF.out.1 k (own_bk.1 hk)
      · exact hin y' HF.out.2.1 k (own_bk.1 hk)
      · exact hin z' HF.out.2.2 k (own_bk.1 hk)
    show k ≠ w.heap.size ∧ k ≠ w.heap.size + 1
    rcases this with h | h
    · have := hG k h; omega
    · omega
  · intro k hk
    have : A k ∨ (w.heap.size + 2 ≤ k ∧ k < w3.heap.size) := by
      rcases hk with hk | hk | hk
      · exact hin x' HF.out.1 k hk
      · exact hin y' HF.out.2.1 k hk
      · exact hin z' HF.out.2.2 k hk
    rcases this with h | h
    · exact .inl h
    · exact .inr (by omega)
end Go.Proofs.YtmlkpfkeeifgeaaDoor
namespace Go.Proofs.YtmlkpfkeeifgeaaDoor
open Go.ChangeShapes Go.WideShapes Go.ChangeAt Go.RowKit

set_option maxHeartbeats 2000000 in
set_option maxRecDepth 100000 in
theorem rcap_f {w : World} {A : Nat → Prop} {e gd : Int} {a b c x y z : Sl} {s : Fl} (h : RL6 w A a b c x y z s) (he : e ≤ 1000) (hl : s.H.length ≤ 4000) :
    Calls Tryd.prog 47 #[rv e gd a b c x y z] w fun o w' => o = .returned (.int .i64 (capF s.H e)) ∧ Below w.heap.size w w' := by
  obtain ⟨w1, hw1⟩ : ∃ w1, w1 = w.alloc (.cells (rcs e gd a b c x y z) 33) := ⟨_, rfl⟩
  have hb1 : Below w.heap.size w w1 := by rw [hw1]; exact (Below.refl _ w).alloc (Nat.le_refl _) _
  have hg : w1.heap[w.heap.size]? = some (.cells (rcs e gd a b c x y z) 33 (0, 0)) := by rw [hw1]; exact heap_alloc_new w _
  have hst : IntsAt w1 b.a b.n b.c (hz s.H) := h.st.below (Nat.le_refl _) hb1
  have hn : b.n ≤ 4000 := by
    have := h.st.hlen
    rw [hz_length] at this
    omega
  unfold rcs at hw1 hg
  obtain ⟨x0, x1, x2, x3, x4, -⟩ := blk8 hg
  have hle := Gd.act_le (hz s.H)
  rw [hz_length] at hle
  have e1 : capF s.H e = ((Gd.act (hz s.H) : Nat) : Int) * Gd.pos e := by
    unfold capF
    rw [Gd.capI_small (by omega) (by omega) he]
  rw [e1]
  generalize hz s.H = zs at *
  have hcap := Gd.rcap_any b.a b.n b.c zs e he hn w1 (gd_ints hst)
  generalize ((Gd.act zs : Nat) : Int) * Gd.pos e = C at *
  unfold rv rcs
  clear h hg e1 hst hle hl hn he
  go_enter Tryd.func47, Tryd.ntmps47
  go_upto_region 1 with fail
  rw [← hw1]
  clear hw1
  go_wp2_with (go_at_call 76; refine hcap.mono ?_; rintro o w2 ⟨rfl, hw⟩; subst hw)
  go_ret
  exact ⟨rfl, hb1⟩
end Go.Proofs.YtmlkpfkeeifgeaaDoor
namespace Go.Proofs.YtmlkpfkeeifgeaaDoor
open Go.ChangeShapes Go.WideShapes Go.ChangeAt Go.RowKit

set_option maxHeartbeats 4000000 in
set_option maxRecDepth 100000 in
theorem rbeg_f {w : World} {A : Nat → Prop} {e gd : Int} {a b c x y z : Sl} {s : Fl} (q : ByteArray) (d : Int) (hsq : q.size ≤ maxLen) (h : RL6 w A a b c x y z s) (hG : ∀ k, A k → k < w.heap.size) (hl : s.L.length ≤ 3500) (hm : s.M.length ≤ 3500) :
    Calls Tryd.prog 74 #[rv e gd a b c x y z, .string q, .int .i64 d] w fun o w' => ∃ x' y' z' : Sl, o = .returned (rv e gd a b c x' y' z') ∧ RL6 w' (nw A w w') a b c x' y' z' ⟨s.H, begL q s.L s.M, begM q d s.M⟩ ∧ Below w.heap.size w w' := by
  obtain ⟨w1, hw1⟩ : ∃ w1, w1 = (w.alloc (.cells (rcs e gd a b c x y z) 33)).alloc (.cells #[.int .i64 0, .int .i64 0, .slice none 0 0, .slice none 0 0, .slice none 0 0, .slice none 0 0, .slice none 0 0, .slice none 0 0] 33) := ⟨_, rfl⟩
  have hb1 : Below w.heap.size w w1 := by rw [hw1]; exact ((Below.refl _ w).alloc (Nat.le_refl _) _).alloc (by simp) _
  have hsz : w1.heap.size = w.heap.size + 2 := by rw [hw1]; simp
  have hq2 : w1.heap[w.heap.size]? = some (.cells (rcs e gd a b c x y z) 33 (0, 0)) := by
    rw [hw1, Below.heap_alloc _ _ _ (by simp)]
    exact heap_alloc_new w _
  have hq4 : w1.heap[w.heap.size + 1]? = some (.cells #[.int .i64 0, .int .i64 0, .slice none 0 0, .slice none 0 0, .slice none 0 0, .slice none 0 0, .slice none 0 0, .slice none 0 0] 33 (0, 0)) := by
    rw [hw1]
    have := heap_alloc_new (w.alloc (.cells (rcs e gd a b c x y z) 33)) (.cells #[.int .i64 0, .int .i64 0, .slice none 0 0, .slice none 0 0, .slice none 0 0, .slice none 0 0, .slice none 0 0, .slice none 0 0] 33)
    simpa using this
  have hr := rbeg_any w1 x.v y.v z.v s.L s.M q d hsq (h.dr.below hb1) hl hm
  unfold rcs at hw1 hq2
  unfold Sl.v at hr
  obtain ⟨c0, c1, c2, c3, c4, c5, c6, c7⟩ := blk8 hq2
  have H := Hid.mk' h
  unfold rv rcs
  clear h
  go_enter Tryd.func74, Tryd.ntmps74
  go_upto_region 1 with fail
  rw [← hw1]
  clear hw1
  go_upto_region 2 with (go_at_call 95; refine hr.mono ?_; rintro o w3 ⟨v0, v1, v2, rfl, hd3, ⟨f0, f1, f2⟩, hb3⟩; obtain ⟨x', rfl⟩ := Tx_sl hd3.wt; obtain ⟨y', rfl⟩ := Tx_sl hd3.un; obtain ⟨z', rfl⟩ := Ix_sl hd3.at_)
  have hq3 := (hb3.block w.heap.size (by omega)).trans hq2
  have hq5 := (hb3.block (w.heap.size + 1) (by omega)).trans hq4
  have hb4 : Below w3.heap.size w3 (w3.alloc (.cells #[.slice x'.a x'.n x'.c, .slice y'.a y'.n y'.c, .slice z'.a z'.n z'.c] 31)) := (Below.refl _ w3).alloc (Nat.le_refl _) _
  have hg4 := heap_alloc_new w3 (.cells #[.slice x'.a x'.n x'.c, .slice y'.a y'.n y'.c, .slice z'.a z'.n z'.c] 31)
  have hs3 := hb3.size
  have hlt3 : w.heap.size < w3.heap.size := by omega
  generalize w3.alloc (.cells #[.slice x'.a x'.n x'.c, .slice y'.a y'.n y'.c, .slice z'.a z'.n z'.c] 31) = w4 at *
  have hs4 := hb4.size
  have g2 := (hb4.block w.heap.size (by omega)).trans hq3
  have g5 := (hb4.block (w.heap.size + 1) (by omega)).trans hq5
  obtain ⟨k0, k1, k2, -⟩ := blk3 hg4
  obtain ⟨c0, c1, c2, c3, c4, c5, c6, c7⟩ := blk8 g2
  have z5 := fz8 g2 5
  have z6 := fz8 g2 6
  have z7 := fz8 g2 7
  have HD3 := Hid.mk' hd3
  have HF : Hid (From w1 w3 x.v y.v z.v x'.v ∧ From w1 w3 x.v y.v z.v y'.v ∧ From w1 w3 x.v y.v z.v z'.v) := ⟨f0, f1, f2⟩
  clear hd3 f0 f1 f2 hr hq3 hq5 hg4 hq2 hq4
  go_upto_region 3 with fail
  have g2' := put3 g2 (.slice x'.a x'.n x'.c) (.slice y'.a y'.n y'.c) (.slice z'.a z'.n z'.c)
  obtain ⟨hb5, hk5⟩ := put3_rest w4 w.heap.size w.heap.size (Nat.le_refl _) (.slice x'.a x'.n x'.c) (.slice y'.a y'.n y'.c) (.slice z'.a z'.n z'.c)
  have hg5 := (hk5 (w.heap.size + 1) (Nat.succ_ne_self _)).trans g5
  have HK5 : Hid (Keep (fun k => k ≠ w.heap.size ∧ k ≠ w.heap.size + 1) w4 _) := ⟨hb5.os, hb5.tape, hb5.output, hb5.size, fun k _ hk => hk5 k hk.1⟩
  clear c0 c1 c2 c3 c4 c5 c6 c7 z5 z6 z7 k0 k1 k2 g2 g5 hk5
  generalize (((w4.setCell ⟨w.heap.size, 5, none⟩ (.slice x'.a x'.n x'.c)).setCell ⟨w.heap.size, 6, none⟩ (.slice y'.a y'.n y'.c)).setCell ⟨w.heap.size, 7, none⟩ (.slice z'.a z'.n z'.c)) = w5 at *
  obtain ⟨c0, c1, c2, c3, c4, c5, c6, c7⟩ := blk8 g2'
  obtain ⟨d0, d1, d2, d3, d4, d5, d6, d7⟩ := blk8 hg5
  have f0 := fz8 hg5 0
  have f1 := fz8 hg5 1
  have f2 := fz8 hg5 2
  have f3 := fz8 hg5 3
  have f4 := fz8 hg5 4
  have f5 := fz8 hg5 5
  have f6 := fz8 hg5 6
  have f7 := fz8 hg5 7
  go_wp2
  have g8 := put8 hg5 (.int .i64 e) (.int .i64 gd) (.slice a.a a.n a.c) (.slice b.a b.n b.c) (.slice c.a c.n c.c) (.slice x'.a x'.n x'.c) (.slice y'.a y'.n y'.c) (.slice z'.a z'.n z'.c)
  obtain ⟨hb8, hk8⟩ := put8_rest w5 w.heap.size (w.heap.size + 1) (Nat.le_succ _) (.int .i64 e) (.int .i64 gd) (.slice a.a a.n a.c) (.slice b.a b.n b.c) (.slice c.a c.n c.c) (.slice x'.a x'.n x'.c) (.slice y'.a y'.n y'.c) (.slice z'.a z'.n z'.c)
  have HK8 : Hid (Keep (fun k => k ≠ w.heap.size ∧ k ≠ w.heap.size + 1) w5 _) := ⟨hb8.os, hb8.tape, hb8.output, hb8.size, fun k _ hk => hk8 k hk.2⟩
  clear hk8 d0 d1 d2 d3 d4 d5 d6 d7 f0 f1 f2 f3 f4 f5 f6 f7 c0 c1 c2 c3 c4 c5 c6 c7 hg5 g2'
  generalize ((((((((w5.setCell _ _).setCell _ _).setCell _ _).setCell _ _).setCell _ _).setCell _ _).setCell _ _).setCell _ _) = w6 at *
  obtain ⟨d0, d1, d2, d3, d4, d5, d6, d7⟩ := blk8 g8
  have hk36 : Keep (fun k => k ≠ w.heap.size ∧ k ≠ w.heap.size + 1) w3 w6 := (keep_below hb4).trans (HK5.out.trans HK8.out)
  have hbel : Below w.heap.size w w6 := (hb1.trans (hb3.mono (by omega))).trans ((hb4.mono (by omega)).trans (hb5.trans hb8))
  refine bodyPost_ret (v := .agg #[.int .i64 e, .int .i64 gd, .slice a.a a.n a.c, .slice b.a b.n b.c, .slice c.a c.n c.c, .slice x'.a x'.n x'.c, .slice y'.a y'.n y'.c, .slice z'.a z'.n z'.c]) (by simp [results, Tryd.results74, go_sem, d0, d1, d2, d3, d4, d5, d6, d7]) rfl ?_
  have hin : ∀ v : Sl, From w1 w3 x.v y.v z.v v.v → ∀ k, bk v.a k → A k ∨ (w.heap.size + 2 ≤ k ∧ k < w3.heap.size) := fun v hf k hk => by
    rcases from_sl hf H.out.bd k hk with h | h
    · exact .inl h
    · exact .inr (by rw [hsz] at h; exact h)
  have hs36 := hk36.size
  refine ⟨x', y', z', rfl, H.out.turn hbel (HD3.out.keep hk36 ?_) (fun k hk => .inl hk) ?_, hbel⟩
  · intro k hk
    have : A k ∨ (w.heap.size + 2 ≤ k ∧ k < w3.heap.size) := by
      rcases hk with hk | hk | hk
      · exact hin x' HF.out.1 k (own_bk.1 hk)
      · exact hin y' HF.out.2.1 k (own_bk.1 hk)
      · exact hin z' HF.out.2.2 k (own_bk.1 hk)
    show k ≠ w.heap.size ∧ k ≠ w.heap.size + 1
    rcases this with h | h
    · have := hG k h; omega
    · omega
  · intro k hk
    have : A k ∨ (w.heap.size + 2 ≤ k ∧ k < w3.heap.size) := by
      rcases hk with hk | hk | hk
      · exact hin x' HF.out.1 k hk
      · exact hin y' HF.out.2.1 k hk
      · exact hin z' HF.out.2.2 k hk
    rcases this with h | h
    · exact .inl h
    · exact .inr (by omega)
end Go.Proofs.YtmlkpfkeeifgeaaDoor
namespace Go.Proofs.YtmlkpfkeeifgeaaDoor
open Go.ChangeShapes Go.WideShapes Go.ChangeAt Go.RowKit

/-- Its eight cells at q, and what came since is new. -/
def C8 (w1 : World) (q : Nat) (e gd : Int) (a b c x y z : Sl) (w : World) : Prop :=
  w.cell? ⟨q, 0, none⟩ = some (.int .i64 e) ∧ w.cell? ⟨q, 1, none⟩ = some (.int .i64 gd) ∧ w.cell? ⟨q, 2, none⟩ = some (.slice a.a a.n a.c) ∧ w.cell? ⟨q, 3, none⟩ = some (.slice b.a b.n b.c) ∧ w.cell? ⟨q, 4, none⟩ = some (.slice c.a c.n c.c) ∧ w.cell? ⟨q, 5, none⟩ = some (.slice x.a x.n x.c) ∧ w.cell? ⟨q, 6, none⟩ = some (.slice y.a y.n y.c) ∧ w.cell? ⟨q, 7, none⟩ = some (.slice z.a z.n z.c) ∧ Below w1.heap.size w1 w
theorem C8.at_ {w1 w : World} {q : Nat} {e gd : Int} {a b c x y z : Sl} (hq : q < w1.heap.size) (hg : w1.heap[q]? = some (.cells (rcs e gd a b c x y z) 33 (0, 0))) (hb : Below w1.heap.size w1 w) : C8 w1 q e gd a b c x y z w := by
  obtain ⟨x0, x1, x2, x3, x4, x5, x6, x7⟩ := blk8 ((hb.block q hq).trans hg)
  exact ⟨x0, x1, x2, x3, x4, x5, x6, x7, hb⟩
theorem C8.bel {w1 w : World} {q : Nat} {e gd : Int} {a b c x y z : Sl} (h : C8 w1 q e gd a b c x y z w) : Below w1.heap.size w1 w := h.2.2.2.2.2.2.2.2

set_option maxHeartbeats 2000000 in
set_option maxRecDepth 100000 in
theorem rmay_f {w : World} {A : Nat → Prop} {e gd : Int} {a b c x y z : Sl} {s : Fl} (h : RL6 w A a b c x y z s) (he : e ≤ 1000) (hl : s.H.length ≤ 4000) (q : ByteArray) :
    Calls Tryd.prog 75 #[rv e gd a b c x y z, .string q] w fun o w' => o = .returned (.bool (mayF q s.H e gd)) ∧ Below w.heap.size w w' := by
  obtain ⟨w1, hw1⟩ : ∃ w1, w1 = w.alloc (.cells (rcs e gd a b c x y z) 33) := ⟨_, rfl⟩
  have hb1 : Below w.heap.size w w1 := by rw [hw1]; exact (Below.refl _ w).alloc (Nat.le_refl _) _
  have hg : w1.heap[w.heap.size]? = some (.cells (rcs e gd a b c x y z) 33 (0, 0)) := by rw [hw1]; exact heap_alloc_new w _
  have hq : w.heap.size < w1.heap.size := by rw [hw1]; simp
  have hst : IntsAt w1 b.a b.n b.c (hz s.H) := h.st.below (Nat.le_refl _) hb1
  have hnm : StrsAt w1 a.a a.n a.c (hn s.H) := h.nm.below (Nat.le_refl _) hb1
  have hn4 : b.n ≤ 4000 := by
    have := h.st.hlen
    rw [hz_length] at this
    omega
  have HAT : Hid (∀ w', Below w1.heap.size w1 w' → Calls Tryd.prog 50 #[rv e gd a b c x y z, .string q] w' fun o w'' => o = .returned (.int .i64 (pl q s.H)) ∧ Below w'.heap.size w' w'') := fun w' hb => rat_any e gd a b c x y z (hn s.H) q w' (hnm.below (Nat.le_refl _) hb)
  have HMY : Hid (∀ w', Below w1.heap.size w1 w' → Calls Tryd.prog 96 #[.slice b.a b.n b.c, .int .i64 (pl q s.H), .int .i64 e, .int .i64 gd] w' fun o w'' => o = .returned (.bool (mayF q s.H e gd)) ∧ Below w'.heap.size w' w'') := fun w' hb => Gd.rmay_any b.a b.n b.c (hz s.H) (pl q s.H) e gd he hn4 w' (gd_ints (hst.below (Nat.le_refl _) hb))
  have HC : Hid (∀ w', Below w1.heap.size w1 w' → C8 w1 w.heap.size e gd a b c x y z w') := fun w' hb => C8.at_ hq hg hb
  have HB1 := Hid.mk' hb1
  have hsz := hb1.size
  generalize mayF q s.H e gd = B at *
  generalize pl q s.H = P at *
  unfold rcs at hw1
  unfold rv rcs at HAT
  unfold rv rcs
  clear h hg hst hnm hn4 he hl hb1
  go_enter Tryd.func75, Tryd.ntmps75
  go_upto_region 1 with fail
  rw [← hw1]
  clear hw1
  generalize hqq : w.heap.size = g at *
  have HQ : Hid (w.heap.size = g) := hqq
  clear hqq
  have h0 := HC.out w1.drew (below_drewN (Below.refl _ w1) 1)
  unfold C8 at h0
  go_region_held3 (fun w' => w'.cell? ⟨g, 0, none⟩ = some (.int .i64 e) ∧ w'.cell? ⟨g, 1, none⟩ = some (.int .i64 gd) ∧ w'.cell? ⟨g, 2, none⟩ = some (.slice a.a a.n a.c) ∧ w'.cell? ⟨g, 3, none⟩ = some (.slice b.a b.n b.c) ∧ w'.cell? ⟨g, 4, none⟩ = some (.slice c.a c.n c.c) ∧ w'.cell? ⟨g, 5, none⟩ = some (.slice x.a x.n x.c) ∧ w'.cell? ⟨g, 6, none⟩ = some (.slice y.a y.n y.c) ∧ w'.cell? ⟨g, 7, none⟩ = some (.slice z.a z.n z.c) ∧ Below w1.heap.size w1 w')
    (first | exact h0 | assumption | exact HC.out _ ((C8.bel (by assumption)).trans (hbx.mono (C8.bel (by assumption)).size)) | go_keep)
    (first
      | (go_at_call 50; refine (HAT.out _ (C8.bel (e := e) (gd := gd) (a := a) (b := b) (c := c) (x := x) (y := y) (z := z) (q := g) (by assumption))).mono ?_; rintro o w2 ⟨rfl, hbx⟩)
      | (go_at_call 96; refine (HMY.out _ (C8.bel (e := e) (gd := gd) (a := a) (b := b) (c := c) (x := x) (y := y) (z := z) (q := g) (by assumption))).mono ?_; rintro o w3 ⟨rfl, hbx⟩))
  all_goals (
    have hbz : Below w1.heap.size w1 w3 := C8.bel (e := e) (gd := gd) (a := a) (b := b) (c := c) (x := x) (y := y) (z := z) (q := g) (by assumption)
    go_wp2
    go_ret
    refine ⟨rfl, ?_⟩
    rw [HQ.out]
    exact HB1.out.trans (hbz.mono hsz))
end Go.Proofs.YtmlkpfkeeifgeaaDoor
namespace Go.Proofs.YtmlkpfkeeifgeaaDoor
open Go.ChangeShapes Go.WideShapes Go.ChangeAt Go.RowKit

set_option maxHeartbeats 2000000 in
set_option maxRecDepth 100000 in
theorem same_seen (B : Bool) (E : Int) (p q p' q' : Sl) (l m : List ByteArray) (w : World) (h1 : StrsAt w p.a p.n p.c l) (h2 : StrsAt w q.a q.n q.c m) (h3 : StrsAt w p'.a p'.n p'.c l) (h4 : StrsAt w q'.a q'.n q'.c m) :
    Calls Tryd.prog 16 #[.agg #[.bool B, .int .i64 E, .slice p.a p.n p.c, .slice q.a q.n q.c], .agg #[.bool B, .int .i64 E, .slice p'.a p'.n p'.c, .slice q'.a q'.n q'.c]] w fun o w' => o = .returned (.bool true) ∧ Below w.heap.size w w' := by
  obtain ⟨w1, hw1⟩ : ∃ w1, w1 = (w.alloc (.cells #[.bool B, .int .i64 E, .slice p.a p.n p.c, .slice q.a q.n q.c] 39)).alloc (.cells #[.bool B, .int .i64 E, .slice p'.a p'.n p'.c, .slice q'.a q'.n q'.c] 39) := ⟨_, rfl⟩
  have hb1 : Below w.heap.size w w1 := by rw [hw1]; exact ((Below.refl _ w).alloc (Nat.le_refl _) _).alloc (by simp) _
  have hsz : w1.heap.size = w.heap.size + 2 := by rw [hw1]; simp
  have g0 : w1.heap[w.heap.size]? = some (.cells #[.bool B, .int .i64 E, .slice p.a p.n p.c, .slice q.a q.n q.c] 39 (0, 0)) := by
    rw [hw1, Below.heap_alloc _ _ _ (by simp)]
    exact heap_alloc_new w _
  have g1 : w1.heap[w.heap.size + 1]? = some (.cells #[.bool B, .int .i64 E, .slice p'.a p'.n p'.c, .slice q'.a q'.n q'.c] 39 (0, 0)) := by
    rw [hw1]
    have := heap_alloc_new (w.alloc (.cells #[.bool B, .int .i64 E, .slice p.a p.n p.c, .slice q.a q.n q.c] 39)) (.cells #[.bool B, .int .i64 E, .slice p'.a p'.n p'.c, .slice q'.a q'.n q'.c] 39)
    simpa using this
  have hs1 := same_any _ _ _ _ _ _ l l w1 (h1.below (Nat.le_refl _) hb1) (h3.below (Nat.le_refl _) hb1)
  rw [decide_eq_true rfl] at hs1
  have HS2 : Hid (∀ w', Below w1.heap.size w1 w' → Calls Tryd.prog 25 #[.slice q.a q.n q.c, .slice q'.a q'.n q'.c] w' fun o w'' => o = .returned (.bool true) ∧ Below w'.heap.size w' w'') := fun w' hb => by
    have := same_any _ _ _ _ _ _ m m w' ((h2.below (Nat.le_refl _) hb1).below (Nat.le_refl _) hb) ((h4.below (Nat.le_refl _) hb1).below (Nat.le_refl _) hb)
    rwa [decide_eq_true rfl] at this
  have HX : Hid (∀ w', Below w1.heap.size w1 w' → w'.cell? ⟨w.heap.size, 3, none⟩ = some (.slice q.a q.n q.c) ∧ w'.cell? ⟨w.heap.size + 1, 3, none⟩ = some (.slice q'.a q'.n q'.c)) := fun w' hb => by
    obtain ⟨-, -, -, t3, -⟩ := blk4 ((hb.block w.heap.size (by omega)).trans g0)
    obtain ⟨-, -, -, u3, -⟩ := blk4 ((hb.block (w.heap.size + 1) (by omega)).trans g1)
    exact ⟨t3, u3⟩
  obtain ⟨x0, x1, x2, x3, -⟩ := blk4 g0
  obtain ⟨y0, y1, y2, y3, -⟩ := blk4 g1
  clear h1 h2 h3 h4 g0 g1
  go_enter Tryd.func16, Tryd.ntmps16
  go_upto_region 1 with fail
  rw [← hw1]
  clear hw1
  go_wp2_with (first
    | (go_at_call 25; refine hs1.mono ?_; rintro o w2 ⟨rfl, hb2⟩; clear hs1; obtain ⟨t3, u3⟩ := HX.out w2 hb2; have hs2 := HS2.out w2 hb2)
    | (go_at_call 25; refine hs2.mono ?_; rintro o w3 ⟨rfl, hb3⟩))
  go_ret
  exact ⟨rfl, hb1.trans ((hb2.trans (hb3.mono hb2.size)).mono hb1.size)⟩
end Go.Proofs.YtmlkpfkeeifgeaaDoor
