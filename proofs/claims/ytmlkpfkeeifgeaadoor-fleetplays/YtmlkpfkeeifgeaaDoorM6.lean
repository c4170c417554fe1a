/-
  Several texts in one: RfN, RfK.
-/
import Derived.Test.YtmlkpfkeeifgeaaDoorM5
import Derived.Test.YtmlkpfkeeifgeaaDoorM4
import Derived.Test.YtmlkpfkeeifgeaaDoorM3
namespace Go.Proofs.YtmlkpfkeeifgeaaDoor
open Go.ChangeShapes Go.WideShapes Go.ChangeAt Go.RowKit Go.Joins Go.Deep

/-- Its own, or laid since. -/
def nq (A : Nat → Prop) (c : Nat) (w' : World) (k : Nat) : Prop := A k ∨ (c ≤ k ∧ k < w'.heap.size)
section
variable {w w1 w2 w3 w4 w' : World} {A : Nat → Prop} {a b c x y z : Sl} {s : Fl} {k q : Nat}
theorem nq_lt (hG : ∀ k, A k → k < w.heap.size) (hs : w.heap.size ≤ w'.heap.size) (h : nq A q w' k) : k < w'.heap.size := by
  rcases h with h | h
  · exact Nat.lt_of_lt_of_le (hG k h) hs
  · exact h.2
theorem nq_ne (hG : ∀ k, A k → k < w.heap.size) (h : nq A (w.heap.size + 2) w' k) : k ≠ w.heap.size ∧ k ≠ w.heap.size + 1 := by
  rcases h with h | h
  · have := hG k h
    omega
  · omega
theorem RL6.nq1 (h : RL6 w A a b c x y z s) (hb : Below w.heap.size w w1) : RL6 w1 (nq A q w1) a b c x y z s := h.below hb (fun _ hk => .inl hk)
theorem RL6.nqc (h : RL6 w3 (nw (nq A q w2) w2 w3) a b c x y z s) (hq : q ≤ w2.heap.size) (hs : w2.heap.size ≤ w3.heap.size) : RL6 w3 (nq A q w3) a b c x y z s := h.mono (fun k hk => by
  rcases hk with (hk | hk) | hk
  · exact .inl hk
  · exact .inr ⟨hk.1, by omega⟩
  · exact .inr ⟨by omega, hk.2⟩)
theorem nq_out (h : RL6 w4 (nq A (w.heap.size + 2) w3) a b c x y z s) (hs : w3.heap.size ≤ w4.heap.size) : RL6 w4 (nw A w w4) a b c x y z s := h.mono (fun k hk => by
  rcases hk with hk | hk
  · exact .inl hk
  · exact .inr ⟨by omega, by omega⟩)
theorem RL6.nqb (h : RL6 w1 (nq A q w1) a b c x y z s) (hb : Below w1.heap.size w1 w2) : RL6 w2 (nq A q w2) a b c x y z s := h.below hb (fun k hk => by
  have := hb.size
  rcases hk with hk | hk
  · exact .inl hk
  · exact .inr ⟨hk.1, by omega⟩)
end
/-- The value v reads as the state s; what is new of it was laid by the call. -/
def RP (w w' : World) (A : Nat → Prop) (e gd : Int) (s : Fl) (v : Value) : Prop := ∃ a b c x y z : Sl, v = .agg #[.int .i64 e, .int .i64 gd, .slice a.a a.n a.c, .slice b.a b.n b.c, .slice c.a c.n c.c, .slice x.a x.n x.c, .slice y.a y.n y.c, .slice z.a z.n z.c] ∧ RL6 w' (nw A w w') a b c x y z s ∧ Below w.heap.size w w'
theorem W.few2 {s : Fl} (h : W s) (hl : s.H.length ≤ 1900) : s.L.length ≤ 1900 ∧ s.M.length ≤ 1900 := by
  obtain ⟨l, g, e1, hw⟩ := h
  rw [e1, sta_length] at hl
  have h1 := sub_len (k := nms s.L) (l := l) hw.inv.n1 (fun x hx => (hw.lw x hx).1)
  have h2 := sub_len (k := nms s.M) (l := l) hw.inv.n2 (fun x hx => (hw.mw x hx).1)
  rw [nms_length] at h1 h2
  exact ⟨by omega, by omega⟩
theorem W.st {s : Fl} (h : W s) {i : Nat} (hi : i < s.H.length) : 0 ≤ (atH s.H i).st ∧ (atH s.H i).st ≤ 3 := by
  obtain ⟨l, g, e1, hw⟩ := h
  rw [e1] at hi ⊢
  rw [sta_length] at hi
  have e2 : (atH (sta g l) i).st = (g (l.getD i ⟨#[]⟩)).1 := by simp [atH, sta, List.getD, hi]
  rw [e2]
  exact hw.sr _ (by simp [List.getD, hi])
theorem putH_setS (H : List Hs) (i : Nat) (u : Int) : putH H i u (atH H i).lv = setS H i u := rfl
end Go.Proofs.YtmlkpfkeeifgeaaDoor
namespace Go.Proofs.YtmlkpfkeeifgeaaDoor
open Go.ChangeShapes Go.WideShapes Go.ChangeAt Go.RowKit Go.Joins Go.Deep

/-- The box of a call's first argument, and its result's block. -/
structure Bo (w wc : World) (e gd : Int) (a b c x y z : Sl) : Prop where
  hb : Below w.heap.size w wc
  sz : w.heap.size + 2 ≤ wc.heap.size
  g2 : wc.heap[w.heap.size]? = some (.cells #[.int .i64 e, .int .i64 gd, .slice a.a a.n a.c, .slice b.a b.n b.c, .slice c.a c.n c.c, .slice x.a x.n x.c, .slice y.a y.n y.c, .slice z.a z.n z.c] 33 (0, 0))
  g4 : wc.heap[w.heap.size + 1]? = some (.cells #[.int .i64 0, .int .i64 0, .slice none 0 0, .slice none 0 0, .slice none 0 0, .slice none 0 0, .slice none 0 0, .slice none 0 0] 33 (0, 0))
section
variable {w wc w3 : World} {A : Nat → Prop} {e gd : Int} {a b c x y z a' b' c' x' y' z' : Sl} {s : Fl}
theorem Bo.start (w : World) (e gd : Int) (a b c x y z : Sl) : Bo w ((w.alloc (.cells #[.int .i64 e, .int .i64 gd, .slice a.a a.n a.c, .slice b.a b.n b.c, .slice c.a c.n c.c, .slice x.a x.n x.c, .slice y.a y.n y.c, .slice z.a z.n z.c] 33)).alloc (.cells #[.int .i64 0, .int .i64 0, .slice none 0 0, .slice none 0 0, .slice none 0 0, .slice none 0 0, .slice none 0 0, .slice none 0 0] 33)) e gd a b c x y z := by
  refine ⟨((Below.refl _ w).alloc (Nat.le_refl _) _).alloc (by simp) _, by simp, ?_, ?_⟩
  · rw [Below.heap_alloc _ _ _ (by simp)]
    exact heap_alloc_new w _
  · have := heap_alloc_new (w.alloc (.cells #[.int .i64 e, .int .i64 gd, .slice a.a a.n a.c, .slice b.a b.n b.c, .slice c.a c.n c.c, .slice x.a x.n x.c, .slice y.a y.n y.c, .slice z.a z.n z.c] 33)) (.cells #[.int .i64 0, .int .i64 0, .slice none 0 0, .slice none 0 0, .slice none 0 0, .slice none 0 0, .slice none 0 0, .slice none 0 0] 33)
    simpa using this
theorem Bo.call (h : Bo w wc e gd a b c x y z) (hb : Below wc.heap.size wc w3) : Bo w w3 e gd a b c x y z :=
  ⟨h.hb.trans (hb.mono h.hb.size), Nat.le_trans h.sz hb.size, (hb.block _ (by have := h.sz; omega)).trans h.g2, (hb.block _ (by have := h.sz; omega)).trans h.g4⟩
theorem Bo.store (h : Bo w wc e gd a b c x y z) (a' b' c' x' y' z' : Sl) : Bo w ((((((((wc.setCell ⟨w.heap.size, 0, none⟩ (.int .i64 e)).setCell ⟨w.heap.size, 1, none⟩ (.int .i64 gd)).setCell ⟨w.heap.size, 2, none⟩ (.slice a'.a a'.n a'.c)).setCell ⟨w.heap.size, 3, none⟩ (.slice b'.a b'.n b'.c)).setCell ⟨w.heap.size, 4, none⟩ (.slice c'.a c'.n c'.c)).setCell ⟨w.heap.size, 5, none⟩ (.slice x'.a x'.n x'.c)).setCell ⟨w.heap.size, 6, none⟩ (.slice y'.a y'.n y'.c)).setCell ⟨w.heap.size, 7, none⟩ (.slice z'.a z'.n z'.c)) e gd a' b' c' x' y' z' := by
  obtain ⟨hb8, hk8⟩ := put8_rest wc w.heap.size w.heap.size (Nat.le_refl _) (.int .i64 e) (.int .i64 gd) (.slice a'.a a'.n a'.c) (.slice b'.a b'.n b'.c) (.slice c'.a c'.n c'.c) (.slice x'.a x'.n x'.c) (.slice y'.a y'.n y'.c) (.slice z'.a z'.n z'.c)
  exact ⟨h.hb.trans hb8, Nat.le_trans h.sz hb8.size, put8 h.g2 (.int .i64 e) (.int .i64 gd) (.slice a'.a a'.n a'.c) (.slice b'.a b'.n b'.c) (.slice c'.a c'.n c'.c) (.slice x'.a x'.n x'.c) (.slice y'.a y'.n y'.c) (.slice z'.a z'.n z'.c), (hk8 _ (Nat.succ_ne_self _)).trans h.g4⟩
theorem RL6.st8 (h : RL6 wc (nq A (w.heap.size + 2) wc) a' b' c' x' y' z' s) (hG : ∀ k, A k → k < w.heap.size) : RL6 ((((((((wc.setCell ⟨w.heap.size, 0, none⟩ (.int .i64 e)).setCell ⟨w.heap.size, 1, none⟩ (.int .i64 gd)).setCell ⟨w.heap.size, 2, none⟩ (.slice a'.a a'.n a'.c)).setCell ⟨w.heap.size, 3, none⟩ (.slice b'.a b'.n b'.c)).setCell ⟨w.heap.size, 4, none⟩ (.slice c'.a c'.n c'.c)).setCell ⟨w.heap.size, 5, none⟩ (.slice x'.a x'.n x'.c)).setCell ⟨w.heap.size, 6, none⟩ (.slice y'.a y'.n y'.c)).setCell ⟨w.heap.size, 7, none⟩ (.slice z'.a z'.n z'.c)) (nq A (w.heap.size + 2) ((((((((wc.setCell ⟨w.heap.size, 0, none⟩ (.int .i64 e)).setCell ⟨w.heap.size, 1, none⟩ (.int .i64 gd)).setCell ⟨w.heap.size, 2, none⟩ (.slice a'.a a'.n a'.c)).setCell ⟨w.heap.size, 3, none⟩ (.slice b'.a b'.n b'.c)).setCell ⟨w.heap.size, 4, none⟩ (.slice c'.a c'.n c'.c)).setCell ⟨w.heap.size, 5, none⟩ (.slice x'.a x'.n x'.c)).setCell ⟨w.heap.size, 6, none⟩ (.slice y'.a y'.n y'.c)).setCell ⟨w.heap.size, 7, none⟩ (.slice z'.a z'.n z'.c))) a' b' c' x' y' z' s :=
  (h.fin w.heap.size (fun _ hk => (nq_ne hG hk).1) (.int .i64 e) (.int .i64 gd) (.slice a'.a a'.n a'.c) (.slice b'.a b'.n b'.c) (.slice c'.a c'.n c'.c) (.slice x'.a x'.n x'.c) (.slice y'.a y'.n y'.c) (.slice z'.a z'.n z'.c)).mono (fun _ hk => hk.imp id (fun hk => ⟨hk.1, Nat.lt_of_lt_of_le hk.2 (put8_rest wc 0 w.heap.size (Nat.zero_le _) (.int .i64 e) (.int .i64 gd) (.slice a'.a a'.n a'.c) (.slice b'.a b'.n b'.c) (.slice c'.a c'.n c'.c) (.slice x'.a x'.n x'.c) (.slice y'.a y'.n y'.c) (.slice z'.a z'.n z'.c)).1.size⟩))
theorem Bo.res (h : Bo w wc e gd a b c x y z) (hG : ∀ k, A k → k < w.heap.size) (h6 : RL6 wc (nq A (w.heap.size + 2) wc) a' b' c' x' y' z' s) :
    ((((((((wc.setCell ⟨w.heap.size + 1, 0, none⟩ (.int .i64 e)).setCell ⟨w.heap.size + 1, 1, none⟩ (.int .i64 gd)).setCell ⟨w.heap.size + 1, 2, none⟩ (.slice a'.a a'.n a'.c)).setCell ⟨w.heap.size + 1, 3, none⟩ (.slice b'.a b'.n b'.c)).setCell ⟨w.heap.size + 1, 4, none⟩ (.slice c'.a c'.n c'.c)).setCell ⟨w.heap.size + 1, 5, none⟩ (.slice x'.a x'.n x'.c)).setCell ⟨w.heap.size + 1, 6, none⟩ (.slice y'.a y'.n y'.c)).setCell ⟨w.heap.size + 1, 7, none⟩ (.slice z'.a z'.n z'.c)).heap[w.heap.size + 1]? = some (.cells #[.int .i64 e, .int .i64 gd, .slice a'.a a'.n a'.c, .slice b'.a b'.n b'.c, .slice c'.a c'.n c'.c, .slice x'.a x'.n x'.c, .slice y'.a y'.n y'.c, .slice z'.a z'.n z'.c] 33 (0, 0)) ∧ RL6 ((((((((wc.setCell ⟨w.heap.size + 1, 0, none⟩ (.int .i64 e)).setCell ⟨w.heap.size + 1, 1, none⟩ (.int .i64 gd)).setCell ⟨w.heap.size + 1, 2, none⟩ (.slice a'.a a'.n a'.c)).setCell ⟨w.heap.size + 1, 3, none⟩ (.slice b'.a b'.n b'.c)).setCell ⟨w.heap.size + 1, 4, none⟩ (.slice c'.a c'.n c'.c)).setCell ⟨w.heap.size + 1, 5, none⟩ (.slice x'.a x'.n x'.c)).setCell ⟨w.heap.size + 1, 6, none⟩ (.slice y'.a y'.n y'.c)).setCell ⟨w.heap.size + 1, 7, none⟩ (.slice z'.a z'.n z'.c)) (nw A w ((((((((wc.setCell ⟨w.heap.size + 1, 0, none⟩ (.int .i64 e)).setCell ⟨w.heap.size + 1, 1, none⟩ (.int .i64 gd)).setCell ⟨w.heap.size + 1, 2, none⟩ (.slice a'.a a'.n a'.c)).setCell ⟨w.heap.size + 1, 3, none⟩ (.slice b'.a b'.n b'.c)).setCell ⟨w.heap.size + 1, 4, none⟩ (.slice c'.a c'.n c'.c)).setCell ⟨w.heap.size + 1, 5, none⟩ (.slice x'.a x'.n x'.c)).setCell ⟨w.heap.size + 1, 6, none⟩ (.slice y'.a y'.n y'.c)).setCell ⟨w.heap.size + 1, 7, none⟩ (.slice z'.a z'.n z'.c))) a' b' c' x' y' z' s ∧ Below w.heap.size w ((((((((wc.setCell ⟨w.heap.size + 1, 0, none⟩ (.int .i64 e)).setCell ⟨w.heap.size + 1, 1, none⟩ (.int .i64 gd)).setCell ⟨w.heap.size + 1, 2, none⟩ (.slice a'.a a'.n a'.c)).setCell ⟨w.heap.size + 1, 3, none⟩ (.slice b'.a b'.n b'.c)).setCell ⟨w.heap.size + 1, 4, none⟩ (.slice c'.a c'.n c'.c)).setCell ⟨w.heap.size + 1, 5, none⟩ (.slice x'.a x'.n x'.c)).setCell ⟨w.heap.size + 1, 6, none⟩ (.slice y'.a y'.n y'.c)).setCell ⟨w.heap.size + 1, 7, none⟩ (.slice z'.a z'.n z'.c)) := by
  obtain ⟨hb8, hk8⟩ := put8_rest wc w.heap.size (w.heap.size + 1) (Nat.le_succ _) (.int .i64 e) (.int .i64 gd) (.slice a'.a a'.n a'.c) (.slice b'.a b'.n b'.c) (.slice c'.a c'.n c'.c) (.slice x'.a x'.n x'.c) (.slice y'.a y'.n y'.c) (.slice z'.a z'.n z'.c)
  refine ⟨put8 h.g4 (.int .i64 e) (.int .i64 gd) (.slice a'.a a'.n a'.c) (.slice b'.a b'.n b'.c) (.slice c'.a c'.n c'.c) (.slice x'.a x'.n x'.c) (.slice y'.a y'.n y'.c) (.slice z'.a z'.n z'.c), ?_, h.hb.trans hb8⟩
  exact nq_out (h6.fin (w.heap.size + 1) (fun k hk => (nq_ne hG hk).2) (.int .i64 e) (.int .i64 gd) (.slice a'.a a'.n a'.c) (.slice b'.a b'.n b'.c) (.slice c'.a c'.n c'.c) (.slice x'.a x'.n x'.c) (.slice y'.a y'.n y'.c) (.slice z'.a z'.n z'.c)) hb8.size
theorem rat_x (e gd : Int) (h : RL6 w A a b c x y z s) (q : ByteArray) :
    Calls Tryd.prog 50 #[.agg #[.int .i64 e, .int .i64 gd, .slice a.a a.n a.c, .slice b.a b.n b.c, .slice c.a c.n c.c, .slice x.a x.n x.c, .slice y.a y.n y.c, .slice z.a z.n z.c], .string q] w fun o w' => o = .returned (.int .i64 (pl q s.H)) ∧ Below w.heap.size w w' := rat_any e gd a b c x y z (hn s.H) q w h.nm
theorem rknown_x (e gd : Int) (h : RL6 w A a b c x y z s) (q : ByteArray) (hq : q.size ≤ maxLen) :
    Calls Tryd.prog 72 #[.agg #[.int .i64 e, .int .i64 gd, .slice a.a a.n a.c, .slice b.a b.n b.c, .slice c.a c.n c.c, .slice x.a x.n x.c, .slice y.a y.n y.c, .slice z.a z.n z.c], .string q] w fun o w' => o = .returned (.int .i64 (errF q s.H)) ∧ Below w.heap.size w w' := rknown_any e gd a b c x y z s.H q hq w h.nm
theorem rmay_x (h : RL6 w A a b c x y z s) (he : e ≤ 1000) (hl : s.H.length ≤ 4000) (q : ByteArray) :
    Calls Tryd.prog 75 #[.agg #[.int .i64 e, .int .i64 gd, .slice a.a a.n a.c, .slice b.a b.n b.c, .slice c.a c.n c.c, .slice x.a x.n x.c, .slice y.a y.n y.c, .slice z.a z.n z.c], .string q] w fun o w' => o = .returned (.bool (mayF q s.H e gd)) ∧ Below w.heap.size w w' := rmay_f h he hl q
theorem rend_x (q : ByteArray) (h : RL6 w A a b c x y z s) (hG : ∀ k, A k → k < w.heap.size) (hl : s.L.length ≤ 3500) (hm : s.M.length ≤ 3500) :
    Calls Tryd.prog 70 #[.agg #[.int .i64 e, .int .i64 gd, .slice a.a a.n a.c, .slice b.a b.n b.c, .slice c.a c.n c.c, .slice x.a x.n x.c, .slice y.a y.n y.c, .slice z.a z.n z.c], .string q] w fun o w' => ∃ x' y' z' : Sl, o = .returned (.agg #[.int .i64 e, .int .i64 gd, .slice a.a a.n a.c, .slice b.a b.n b.c, .slice c.a c.n c.c, .slice x'.a x'.n x'.c, .slice y'.a y'.n y'.c, .slice z'.a z'.n z'.c]) ∧ RL6 w' (nw A w w') a b c x' y' z' ⟨s.H, wo q s.L, wo q s.M⟩ ∧ Below w.heap.size w w' := rend_f q h hG hl hm
theorem rbeg_x (q : ByteArray) (d : Int) (hsq : q.size ≤ maxLen) (h : RL6 w A a b c x y z s) (hG : ∀ k, A k → k < w.heap.size) (hl : s.L.length ≤ 3500) (hm : s.M.length ≤ 3500) :
    Calls Tryd.prog 74 #[.agg #[.int .i64 e, .int .i64 gd, .slice a.a a.n a.c, .slice b.a b.n b.c, .slice c.a c.n c.c, .slice x.a x.n x.c, .slice y.a y.n y.c, .slice z.a z.n z.c], .string q, .int .i64 d] w fun o w' => ∃ x' y' z' : Sl, o = .returned (.agg #[.int .i64 e, .int .i64 gd, .slice a.a a.n a.c, .slice b.a b.n b.c, .slice c.a c.n c.c, .slice x'.a x'.n x'.c, .slice y'.a y'.n y'.c, .slice z'.a z'.n z'.c]) ∧ RL6 w' (nw A w w') a b c x' y' z' ⟨s.H, begL q s.L s.M, begM q d s.M⟩ ∧ Below w.heap.size w w' := rbeg_f q d hsq h hG hl hm
theorem rplace_x (h : RL6 w A a b c x y z s) (q : ByteArray) :
    Calls Tryd.prog 49 #[.slice x.a x.n x.c, .string q] w fun o w' => o = .returned (.int .i64 (plc q (nms s.L))) ∧ w' = w := by
  obtain ⟨a0, c0, e0, hs, -⟩ := h.dr.wt
  unfold Sl.v at e0
  rw [e0]
  exact place_any a0 _ c0 (nms s.L) q w hs
/-- The host of place i: its state, whether it leaves, in memory. -/
theorem RL6.sti (h : RL6 w A a b c x y z s) {i : Nat} (hi : i < s.H.length) : i < b.n ∧ ∃ b2 p2, b.a = some ⟨b2, p2, none⟩ ∧ w.cell? ⟨b2, p2 + i, none⟩ = some (.int .i64 (atH s.H i).st) := by
  have hb : i < b.n := by have := h.st.hlen; rw [hz_length] at this; omega
  obtain ⟨b2, p2, e2, -, q2⟩ := h.st.at_ i hb
  rw [hz_getD] at q2
  exact ⟨hb, b2, p2, e2, q2⟩
theorem RL6.lvi (h : RL6 w A a b c x y z s) {i : Nat} (hi : i < s.H.length) : i < c.n ∧ ∃ c2 p3, c.a = some ⟨c2, p3, none⟩ ∧ w.cell? ⟨c2, p3 + i, none⟩ = some (.bool (atH s.H i).lv) := by
  have hb : i < c.n := by have := h.lv.hlen; rw [hl_length] at this; omega
  obtain ⟨b2, p2, e2, -, q2⟩ := h.lv.at_ i hb
  rw [hl_getD] at q2
  exact ⟨hb, b2, p2, e2, q2⟩
/-- .. where the rows' addresses are known. -/
theorem RL6.stk {b2 p2 bn bk : Nat} (h : RL6 w A a ⟨some ⟨b2, p2, none⟩, bn, bk⟩ c x y z s) {i : Nat} (hi : i < s.H.length) : w.cell? ⟨b2, p2 + i, none⟩ = some (.int .i64 (atH s.H i).st) ∧ (i : Int) < (bn : Int) ∧ i < bn := by
  obtain ⟨h1, b3, p3, e1, h2⟩ := h.sti hi
  cases e1
  exact ⟨h2, by simpa using h1, h1⟩
theorem RL6.lvk {b2 p2 bn bk : Nat} (h : RL6 w A a b ⟨some ⟨b2, p2, none⟩, bn, bk⟩ x y z s) {i : Nat} (hi : i < s.H.length) : w.cell? ⟨b2, p2 + i, none⟩ = some (.bool (atH s.H i).lv) ∧ (i : Int) < (bn : Int) ∧ i < bn := by
  obtain ⟨h1, b3, p3, e1, h2⟩ := h.lvi hi
  cases e1
  exact ⟨h2, by simpa using h1, h1⟩
theorem Bo.store3 (h : Bo w wc e gd a b c x y z) (x' y' z' : Sl) : Bo w (((wc.setCell ⟨w.heap.size, 5, none⟩ (.slice x'.a x'.n x'.c)).setCell ⟨w.heap.size, 6, none⟩ (.slice y'.a y'.n y'.c)).setCell ⟨w.heap.size, 7, none⟩ (.slice z'.a z'.n z'.c)) e gd a b c x' y' z' := by
  obtain ⟨hb8, hk8⟩ := put3_rest wc w.heap.size w.heap.size (Nat.le_refl _) (.slice x'.a x'.n x'.c) (.slice y'.a y'.n y'.c) (.slice z'.a z'.n z'.c)
  exact ⟨h.hb.trans hb8, Nat.le_trans h.sz hb8.size, put3 h.g2 (.slice x'.a x'.n x'.c) (.slice y'.a y'.n y'.c) (.slice z'.a z'.n z'.c), (hk8 _ (Nat.succ_ne_self _)).trans h.g4⟩
theorem RL6.st3 (h : RL6 wc (nq A (w.heap.size + 2) wc) a b c x' y' z' s) (hG : ∀ k, A k → k < w.heap.size) : RL6 (((wc.setCell ⟨w.heap.size, 5, none⟩ (.slice x'.a x'.n x'.c)).setCell ⟨w.heap.size, 6, none⟩ (.slice y'.a y'.n y'.c)).setCell ⟨w.heap.size, 7, none⟩ (.slice z'.a z'.n z'.c)) (nq A (w.heap.size + 2) (((wc.setCell ⟨w.heap.size, 5, none⟩ (.slice x'.a x'.n x'.c)).setCell ⟨w.heap.size, 6, none⟩ (.slice y'.a y'.n y'.c)).setCell ⟨w.heap.size, 7, none⟩ (.slice z'.a z'.n z'.c))) a b c x' y' z' s := by
  obtain ⟨hb8, hk8⟩ := put3_rest wc 0 w.heap.size (Nat.zero_le _) (.slice x'.a x'.n x'.c) (.slice y'.a y'.n y'.c) (.slice z'.a z'.n z'.c)
  exact (h.keep (K := fun k => k ≠ w.heap.size) ⟨hb8.os, hb8.tape, hb8.output, hb8.size, fun k _ hk => hk8 k hk⟩ (fun _ hk => (nq_ne hG hk).1)).mono (fun k hk => hk.imp id (fun hk => ⟨hk.1, Nat.lt_of_lt_of_le hk.2 hb8.size⟩))
theorem rask_x (h : RL6 w A a b c x y z s) (q : ByteArray) (hq : q.size ≤ maxLen) :
    Calls Tryd.prog 73 #[.agg #[.slice x.a x.n x.c, .slice y.a y.n y.c, .slice z.a z.n z.c], .string q] w fun o w' => ∃ x' : Sl, o = .returned (.tuple #[.agg #[.slice x'.a x'.n x'.c, .slice y.a y.n y.c, .slice z.a z.n z.c], .int .i64 (askE q s.L s.M)]) ∧ RL6 w' (nw A w w') a b c x' y z ⟨s.H, askL q s.L s.M, s.M⟩ ∧ Below w.heap.size w w' := by
  refine (rask_any w x.v y.v z.v s.L s.M q hq h.dr).mono fun o w' hh => ?_
  obtain ⟨v, ho, hd, hf, hb⟩ := hh
  obtain ⟨x', rfl⟩ := Tx_sl hd.wt
  refine ⟨x', ho, h.turn hb hd (fun k hk => .inl hk) ?_, hb⟩
  intro k hk
  rcases hk with hk | hk | hk
  · exact from_sl hf h.bd k hk
  · exact .inl (h.bd k (.inr (.inl hk)))
  · exact .inl (h.bd k (.inr (.inr hk)))
/-- What is returned. -/
theorem RP.mk {w8 : World} (h6 : RL6 w8 (nw A w w8) a b c x y z s) (hb : Below w.heap.size w w8) : RP w w8 A e gd s (.agg #[.int .i64 e, .int .i64 gd, .slice a.a a.n a.c, .slice b.a b.n b.c, .slice c.a c.n c.c, .slice x.a x.n x.c, .slice y.a y.n y.c, .slice z.a z.n z.c]) := ⟨a, b, c, x, y, z, rfl, h6, hb⟩
end
theorem and9 {p0 p1 p2 p3 p4 p5 p6 p7 p8 : Prop} {w w3 : World} (h : p0 ∧ p1 ∧ p2 ∧ p3 ∧ p4 ∧ p5 ∧ p6 ∧ p7 ∧ p8 ∧ Below w3.heap.size w3 w) : Below w3.heap.size w3 w := h.2.2.2.2.2.2.2.2.2
end Go.Proofs.YtmlkpfkeeifgeaaDoor
