/-
  The front and the document's beside it: where both lie, and how they last while one or the other is worked on. No conditions.
-/
import Derived.Test.YtegjaoaoiojhfaaDoorRGo
import Derived.Test.YtegjaoaoiojhfaaDoorPassesP
namespace Go.Proofs.YtegjaoaoiojhfaaDoor
open Go.ChangeShapes Go.WideShapes Go.ChangeAt Go.RowKit

/-- What the document's Next hands back, in two blocks of the law's own. -/
theorem nx_boxes (w : World) (x y : Value) (k : Int) (d : ByteArray) :
    Below w.heap.size w ((w.alloc (.cells #[x, y] 28)).alloc (.cells #[.int .i64 k, .string d] 31)) ∧
    ((w.alloc (.cells #[x, y] 28)).alloc (.cells #[.int .i64 k, .string d] 31)).heap[w.heap.size]? = some (.cells #[x, y] 28 (0, 0)) ∧
    ((w.alloc (.cells #[x, y] 28)).alloc (.cells #[.int .i64 k, .string d] 31)).heap[w.heap.size + 1]? = some (.cells #[.int .i64 k, .string d] 31 (0, 0)) := by
  refine ⟨((Below.refl _ w).alloc (Nat.le_refl _) _).alloc (by simp) _, ?_, ?_⟩
  · rw [Below.heap_alloc _ _ _ (by simp)]
    exact heap_alloc_new _ _
  · have := heap_alloc_new (w.alloc (.cells #[x, y] 28)) (.cells #[.int .i64 k, .string d] 31)
    rwa [World.size_alloc] at this

/-- The front at g is t; the document's, in the law's block rb, is u; A: blocks that are none of the front's; what is of P is as it was at w3. -/
structure PS (w3 w : World) (P A : Nat → Prop) (g rb : Nat) (t u : Ft) (a : Option Addr) (n c : Nat) : Prop where
  fin : FIn w A g t
  sub : ∀ k, P k → A k
  keep : Keep P w3 w
  rbl : w.heap[rb]? = some (.cells #[.int .i64 u.st, .slice a n c] 28 (0, 0))
  rin : A rb
  frs : FrsAt w a n c u.hl
  own : ∀ x, a = some x → A x.block ∧ x.block ≠ rb
  nrb : ¬ P rb
  r1 : rb ≠ 1
  r2 : rb ≠ 2
/-- The blocks that have come since. -/
def More (A : Nat → Prop) (w w' : World) : Nat → Prop := fun k => A k ∨ (w.heap.size ≤ k ∧ k < w'.heap.size)
section
variable {w3 w w' : World} {P A : Nat → Prop} {g rb : Nat} {t t' u u' : Ft} {a a' : Option Addr} {n n' c c' : Nat}
theorem PS.new (h : PS w3 w P A g rb t u a n c) (hb : Below w.heap.size w w') : PS w3 w' P (More A w w') g rb t u a n c :=
  ⟨h.fin.belowN hb, fun k hk => .inl (h.sub k hk), h.keep.trans (keep_below hb), (hb.block rb (lt_of_heap h.rbl)).trans h.rbl, .inl h.rin, h.frs.below hb, fun x e => ⟨.inl (h.own x e).1, (h.own x e).2⟩, h.nrb, h.r1, h.r2⟩
theorem PS.front (h : PS w3 w P A g rb t u a n c) (hf : FIn w' A g t') (hk : Keep A w w') : PS w3 w' P A g rb t' u a n c :=
  ⟨hf, h.sub, h.keep.trans (hk.mono fun k _ hp => h.sub k hp), (hk.block rb (lt_of_heap h.rbl) h.rin).trans h.rbl, h.rin, h.frs.keepN hk (fun x _ e => (h.own x e).1), h.own, h.nrb, h.r1, h.r2⟩
theorem PS.setr (h : PS w3 w P A g rb t u a n c) (X : Int) (hX : u'.st = X) (hf : FrsAt w a' n' c' u'.hl) (ho : ∀ x, a' = some x → A x.block ∧ x.block ≠ rb) :
    PS w3 ((w.setCell ⟨rb, 0, none⟩ (.int .i64 X)).setCell ⟨rb, 1, none⟩ (.slice a' n' c')) P A g rb t u' a' n' c' := by
  subst hX
  obtain ⟨f, hk⟩ := h.fin.poke h.rin h.r1 h.r2 (.int .i64 u'.st) (.slice a' n' c')
  exact ⟨f, h.sub, h.keep.trans (hk P h.nrb), (put2 h.rbl _ _).1, h.rin, hf.keepN (hk (fun j => j ≠ rb) (fun e => e rfl)) (fun x _ e => (ho x e).2), ho, h.nrb, h.r1, h.r2⟩
theorem PS.drew (h : PS w3 w P A g rb t u a n c) : PS w3 w.drew P A g rb t u a n c :=
  ⟨h.fin.drew, h.sub, h.keep.drew, h.rbl, h.rin, h.frs.keepN (Keep.refl (fun _ => True) w).drew (fun _ _ _ => trivial), h.own, h.nrb, h.r1, h.r2⟩
/-- What a call of the document's hands back lies where it may. -/
theorem PS.orig (h : PS w3 w P A g rb t u a n c) (ho : Orig w w' a a') : ∀ x, a' = some x → More A w w' x.block ∧ x.block ≠ rb := by
  intro x e
  have hl := lt_of_heap h.rbl
  rcases ho x e with ⟨y, hy, hb⟩ | ⟨h1, h2⟩
  · have := h.own y hy
    rw [hb] at this
    exact ⟨.inl this.1, this.2⟩
  · exact ⟨.inr ⟨h1, h2⟩, by omega⟩
end

/-- The same, and a step of the law's lies at q. -/
structure PQ (w3 w : World) (P A : Nat → Prop) (g rb q : Nat) (t u : Ft) (a : Option Addr) (n c : Nat) (kd k : Int) (d : ByteArray) : Prop where
  ps : PS w3 w P A g rb t u a n c
  st : w.heap[q]? = some (.cells #[.int .i64 kd, .int .i64 k, .string d] 33 (0, 0))
  qin : A q
  qr : q ≠ rb
section
variable {w3 w w' : World} {P A : Nat → Prop} {g rb q : Nat} {t t' u u' : Ft} {a a' : Option Addr} {n n' c c' : Nat} {kd k : Int} {d : ByteArray}
theorem PQ.new (h : PQ w3 w P A g rb q t u a n c kd k d) (hb : Below w.heap.size w w') : PQ w3 w' P (More A w w') g rb q t u a n c kd k d :=
  ⟨h.ps.new hb, (hb.block q (lt_of_heap h.st)).trans h.st, .inl h.qin, h.qr⟩
theorem PQ.front (h : PQ w3 w P A g rb q t u a n c kd k d) (hf : FIn w' A g t') (hk : Keep A w w') : PQ w3 w' P A g rb q t' u a n c kd k d :=
  ⟨h.ps.front hf hk, (hk.block q (lt_of_heap h.st) h.qin).trans h.st, h.qin, h.qr⟩
theorem PQ.setr (h : PQ w3 w P A g rb q t u a n c kd k d) (X : Int) (hX : u'.st = X) (hf : FrsAt w a' n' c' u'.hl) (ho : ∀ x, a' = some x → A x.block ∧ x.block ≠ rb) :
    PQ w3 ((w.setCell ⟨rb, 0, none⟩ (.int .i64 X)).setCell ⟨rb, 1, none⟩ (.slice a' n' c')) P A g rb q t u' a' n' c' kd k d := by
  refine ⟨h.ps.setr X hX hf ho, ?_, h.qin, h.qr⟩
  have hk : Keep (fun j => j ≠ rb) w ((w.setCell ⟨rb, 0, none⟩ (.int .i64 X)).setCell ⟨rb, 1, none⟩ (.slice a' n' c')) := ((Keep.refl _ _).setCell (fun e => e rfl) _).setCell (fun e => e rfl) _
  exact (hk.block q (lt_of_heap h.st) h.qr).trans h.st
end

/-- What the law reads of its two blocks. -/
def S5 (w : World) (rb q : Nat) (S : Int) (a : Option Addr) (n c : Nat) (kd k : Int) (d : ByteArray) : Prop :=
  (w.cell? ⟨rb, 0, none⟩ = some (.int .i64 S) ∧ w.cell? ⟨rb, 1, none⟩ = some (.slice a n c)) ∧ w.cell? ⟨q, 0, none⟩ = some (.int .i64 kd) ∧ w.cell? ⟨q, 1, none⟩ = some (.int .i64 k) ∧ w.cell? ⟨q, 2, none⟩ = some (.string d)
theorem s5_below {w w' : World} {rb q : Nat} {S : Int} {a : Option Addr} {n c : Nat} {kd k : Int} {d : ByteArray} (h : S5 w rb q S a n c kd k d) (hb : Below w.heap.size w w') : S5 w' rb q S a n c kd k d := by
  obtain ⟨⟨h0, h1⟩, h2, h3, h4⟩ := h
  have hk : Keep (fun _ => True) w w' := keep_below hb
  exact ⟨⟨hk.cell h0 trivial, hk.cell h1 trivial⟩, hk.cell h2 trivial, hk.cell h3 trivial, hk.cell h4 trivial⟩
theorem s5_set {w : World} {rb q z : Nat} {S : Int} {a : Option Addr} {n c : Nat} {kd k : Int} {d : ByteArray} {u v : Value} (h : S5 w rb q S a n c kd k d) (h1 : z ≠ rb) (h2 : z ≠ q) : S5 ((w.setCell ⟨z, 0, none⟩ u).setCell ⟨z, 1, none⟩ v) rb q S a n c kd k d := by
  obtain ⟨⟨h0, h1'⟩, h2', h3, h4⟩ := h
  have hk : Keep (fun j => j ≠ z) w ((w.setCell ⟨z, 0, none⟩ u).setCell ⟨z, 1, none⟩ v) := ((Keep.refl _ _).setCell (fun e => e rfl) _).setCell (fun e => e rfl) _
  exact ⟨⟨hk.cell h0 h1.symm, hk.cell h1' h1.symm⟩, hk.cell h2' h2.symm, hk.cell h3 h2.symm, hk.cell h4 h2.symm⟩
theorem s5_other {w : World} {rb q : Nat} {S : Int} {a : Option Addr} {n c : Nat} {kd k : Int} {d : ByteArray} {o o' : Obj} (h : S5 (w.alloc o) rb q S a n c kd k d) (h1 : rb < w.heap.size) (h2 : q < w.heap.size) : S5 (w.alloc o') rb q S a n c kd k d := by
  obtain ⟨⟨h0, h1'⟩, h2', h3, h4⟩ := h
  have hb : Below w.heap.size w (w.alloc o) := (Below.refl _ w).alloc (Nat.le_refl _) _
  have hb' : Below w.heap.size w (w.alloc o') := (Below.refl _ w).alloc (Nat.le_refl _) _
  have e : ∀ (p : Addr), p.block < w.heap.size → (w.alloc o').cell? p = (w.alloc o).cell? p := fun p hp => (hb'.cell hp).trans (hb.cell hp).symm
  exact ⟨⟨(e ⟨rb, 0, none⟩ h1).trans h0, (e ⟨rb, 1, none⟩ h1).trans h1'⟩, (e ⟨q, 0, none⟩ h2).trans h2', (e ⟨q, 1, none⟩ h2).trans h3, (e ⟨q, 2, none⟩ h2).trans h4⟩
/-- A block that was made ahead of a call stands behind it as it was. -/
theorem z_of {w w8 : World} {rb q : Nat} (h : Below (w.alloc (.cells #[.int .i64 0, .slice none 0 0] 28)).heap.size (w.alloc (.cells #[.int .i64 0, .slice none 0 0] 28)) w8) (h1 : rb < w.heap.size) (h2 : q < w.heap.size) :
    w8.heap[w.heap.size]? = some (.cells #[.int .i64 0, .slice none 0 0] 28 (0, 0)) ∧ w.heap.size ≠ rb ∧ w.heap.size ≠ q :=
  ⟨(h.block _ (by rw [World.size_alloc]; exact Nat.lt_succ_self _)).trans (heap_alloc_new w _), by omega, by omega⟩
theorem z_keep {w w8 : World} {z : Nat} {o : Obj} (h : Below w.heap.size w w8) (hz : w.heap[z]? = some o) : w8.heap[z]? = some o := (h.block z (lt_of_heap hz)).trans hz
/-- What a call of the law's hands on, where a block was made ahead of it, and where none was. -/
theorem k_with {w w7 : World} {rb q : Nat} {a : Option Addr} {n c : Nat} {l : List Fr} (h : Below (w.drew.alloc (.cells #[.int .i64 0, .slice none 0 0] 28)).heap.size (w.drew.alloc (.cells #[.int .i64 0, .slice none 0 0] 28)) w7) (h1 : rb < w.heap.size) (h2 : q < w.heap.size) (hf : FrsAt w a n c l) :
    Below w.heap.size w w7 ∧ FrsAt w7 a n c l ∧ (rb < w7.heap.size ∧ q < w7.heap.size) ∧ w7.heap[w.heap.size]? = some (.cells #[.int .i64 0, .slice none 0 0] 28 (0, 0)) ∧ w.heap.size ≠ rb ∧ w.heap.size ≠ q := by
  have hd : Below w.heap.size w w.drew := below_drewN (Below.refl _ _) 1
  have hb : Below w.heap.size w w7 := (hd.alloc hd.size _).trans (h.mono (by rw [World.size_alloc]; exact Nat.le_succ_of_le hd.size))
  have hs := hb.size
  exact ⟨hb, hf.below hb, ⟨by omega, by omega⟩, z_of (w := w.drew) h h1 h2⟩
theorem k_without {w w7 : World} {rb q : Nat} {a : Option Addr} {n c : Nat} {l : List Fr} (h : Below w.drew.heap.size w.drew w7) (h1 : rb < w.heap.size) (h2 : q < w.heap.size) (hf : FrsAt w a n c l) :
    Below w.heap.size w w7 ∧ FrsAt w7 a n c l ∧ (rb < w7.heap.size ∧ q < w7.heap.size) := by
  have hd : Below w.heap.size w w.drew := below_drewN (Below.refl _ _) 1
  have hb : Below w.heap.size w w7 := hd.trans (h.mono hd.size)
  have hs := hb.size
  exact ⟨hb, hf.below hb, ⟨by omega, by omega⟩⟩
theorem g_lt {w7 w8 : World} {rb q : Nat} (h : Below w7.heap.size w7 w8) (h1 : rb < w7.heap.size) (h2 : q < w7.heap.size) : rb < w8.heap.size ∧ q < w8.heap.size := by
  have := h.size
  exact ⟨by omega, by omega⟩
theorem g_kept {w w8 : World} {z : Nat} (h : Below w.heap.size w w8) (hz : w.heap[z]? = some (.cells #[.int .i64 0, .slice none 0 0] 28 (0, 0))) :
    w8.cell? ⟨z, 0, none⟩ = some (.int .i64 0) ∧ w8.cell? ⟨z, 1, none⟩ = some (.slice none 0 0) ∧ w8.frozen? ⟨z, 0, none⟩ = false ∧ w8.frozen? ⟨z, 1, none⟩ = false ∧ Hid (w8.heap[z]? = some (.cells #[.int .i64 0, .slice none 0 0] 28 (0, 0))) := by
  have g := z_keep h hz
  exact ⟨(blk2 g).1, (blk2 g).2.1, fz2 g 0, fz2 g 1, g⟩
theorem g_with {w7 w8 : World} {rb q : Nat} {a a' : Option Addr} (h : Below (w7.alloc (.cells #[.int .i64 0, .slice none 0 0] 28)).heap.size (w7.alloc (.cells #[.int .i64 0, .slice none 0 0] 28)) w8) (ho : Orig (w7.alloc (.cells #[.int .i64 0, .slice none 0 0] 28)) w8 a a') (h1 : rb < w7.heap.size) (h2 : q < w7.heap.size) :
    Below w7.heap.size w7 w8 ∧ Orig w7 w8 a a' ∧ (rb < w8.heap.size ∧ q < w8.heap.size) ∧ w8.cell? ⟨w7.heap.size, 0, none⟩ = some (.int .i64 0) ∧ w8.cell? ⟨w7.heap.size, 1, none⟩ = some (.slice none 0 0) ∧ w8.frozen? ⟨w7.heap.size, 0, none⟩ = false ∧ w8.frozen? ⟨w7.heap.size, 1, none⟩ = false ∧ w7.heap.size ≠ rb ∧ w7.heap.size ≠ q ∧ Hid (w8.heap[w7.heap.size]? = some (.cells #[.int .i64 0, .slice none 0 0] 28 (0, 0))) := by
  have hb : Below w7.heap.size w7 w8 := ((Below.refl _ _).alloc (Nat.le_refl _) _).trans (h.mono (by rw [World.size_alloc]; exact Nat.le_succ _))
  obtain ⟨g, zr, zq⟩ := z_of h h1 h2
  have hs := hb.size
  refine ⟨hb, fun x e => ?_, ⟨by omega, by omega⟩, (blk2 g).1, (blk2 g).2.1, fz2 g 0, fz2 g 1, zr, zq, g⟩
  rcases ho x e with h | ⟨h, h'⟩
  · exact .inl h
  · rw [World.size_alloc] at h
    exact .inr ⟨by omega, h'⟩
/-- What the document's Go hands back stands in a block of the law's own. -/
def GoDone (w3 : World) (P : Nat → Prop) (g rb q : Nat) (s T : Ft) (a0 : Option Addr) (m0 c0 : Nat) (kd k : Int) (d : ByteArray) (z : Nat) (a7 : Option Addr) (n7 c7 : Nat) (wx : World) : Prop :=
  ∃ A' : Nat → Prop, PQ w3 wx P A' g rb q s s a0 m0 c0 kd k d ∧ wx.cell? ⟨z, 0, none⟩ = some (.int .i64 T.st) ∧ wx.cell? ⟨z, 1, none⟩ = some (.slice a7 n7 c7) ∧ FrsAt wx a7 n7 c7 T.hl ∧ ∀ x, a7 = some x → A' x.block ∧ x.block ≠ rb
section
variable {w3 w6 w7 w8 : World} {P A : Nat → Prop} {g rb q z : Nat} {s T : Ft} {a0 a7 : Option Addr} {m0 c0 n7 c7 : Nat} {kd k : Int} {d : ByteArray}
theorem done_last (h : PQ w3 w6 P A g rb q s s a0 m0 c0 kd k d) (h7 : Below w6.heap.size w6 w7) (h8 : Below w7.heap.size w7 w8) (ho : Orig w7 w8 a0 a7) (hf : FrsAt w8 a7 n7 c7 T.hl) :
    GoDone w3 P g rb q s T a0 m0 c0 kd k d w8.heap.size a7 n7 c7 (w8.alloc (.cells #[.int .i64 T.st, .slice a7 n7 c7] 28)) := by
  have hb : Below w8.heap.size w8 (w8.alloc (.cells #[.int .i64 T.st, .slice a7 n7 c7] 28)) := (Below.refl _ _).alloc (Nat.le_refl _) _
  have hc := blk2 (heap_alloc_new w8 (.cells #[.int .i64 T.st, .slice a7 n7 c7] 28))
  have h1 := h.new h7
  have h2 := h1.new h8
  refine ⟨_, h2.new hb, hc.1, hc.2.1, hf.below hb, fun x e => ?_⟩
  have := h1.ps.orig ho x e
  exact ⟨.inl this.1, this.2⟩
theorem done_set (h : PQ w3 w6 P A g rb q s s a0 m0 c0 kd k d) (hb : Below w6.heap.size w6 w8) (ho : Orig w6 w8 a0 a7) (hf : FrsAt w8 a7 n7 c7 T.hl) (hg : w8.heap[z]? = some (.cells #[.int .i64 0, .slice none 0 0] 28 (0, 0))) (hz : w6.heap.size ≤ z) (hne : ∀ x, a7 = some x → x.block ≠ z) :
    GoDone w3 P g rb q s T a0 m0 c0 kd k d z a7 n7 c7 ((w8.setCell ⟨z, 0, none⟩ (.int .i64 T.st)).setCell ⟨z, 1, none⟩ (.slice a7 n7 c7)) := by
  have h1 := h.new hb
  have hrb := lt_of_heap h.ps.rbl
  have hq := lt_of_heap h.st
  have hpos := h.ps.fin.tabs.pos
  obtain ⟨p1, p2⟩ := put2 hg (.int .i64 T.st) (.slice a7 n7 c7)
  obtain ⟨f, hk⟩ := h1.ps.fin.poke (q := z) (.inr ⟨hz, lt_of_heap hg⟩) (by omega) (by omega) (.int .i64 T.st) (.slice a7 n7 c7)
  have hP : ¬ P z := fun e => by
    have := h.ps.fin.guard z (h.ps.sub z e)
    omega
  refine ⟨More A w6 w8, ⟨⟨f, h1.ps.sub, h1.ps.keep.trans (hk P hP), (p2.block rb (lt_of_heap h1.ps.rbl) (by show rb ≠ z; omega)).trans h1.ps.rbl, h1.ps.rin, h1.ps.frs.keepN p2 (fun x _ e => ?_), h1.ps.own, h1.ps.nrb, h1.ps.r1, h1.ps.r2⟩, (p2.block q (lt_of_heap h1.st) (by show q ≠ z; omega)).trans h1.st, h1.qin, h1.qr⟩, (blk2 p1).1, (blk2 p1).2.1, hf.keepN p2 (fun x _ e => hne x e), h.ps.orig ho⟩
  have := h.ps.fin.guard _ (h.ps.own x e).1
  show x.block ≠ z
  omega
end
theorem Orig.wide {w6 w7 w8 : World} {a a' : Option Addr} (h : Orig w7 w8 a a') (hs : w6.heap.size ≤ w7.heap.size) : Orig w6 w8 a a' := fun x e => (h x e).imp id (fun q => ⟨Nat.le_trans hs q.1, q.2⟩)

end Go.Proofs.YtegjaoaoiojhfaaDoor
