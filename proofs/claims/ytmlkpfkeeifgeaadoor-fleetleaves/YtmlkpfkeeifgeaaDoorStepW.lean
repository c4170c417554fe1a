/-
  What the law's step does with a fleet: the state behind it, and what is told. Conditions: a fleet lies where it is said to lie; its state is one that may be; the step's names are no longer than the greatest length.
-/
import Derived.Test.YtmlkpfkeeifgeaaDoorFChain
import Derived.Test.YtmlkpfkeeifgeaaDoorFOps2
import Derived.Test.YtmlkpfkeeifgeaaDoorEarly
namespace Go.Proofs.YtmlkpfkeeifgeaaDoor
open Go.ChangeShapes Go.WideShapes Go.ChangeAt Go.RowKit

/-- What a step tells, and the state behind it. -/
structure Res where
  b : Bool
  E : Int
  P : List ByteArray
  Q : List ByteArray
  s : Fl
def stp (e gd k n : Int) (x : ByteArray) (l : List ByteArray) (s : Fl) : Res :=
  if k = 0 then ⟨false, reE l, reC l n s, reN l s, reS l n s⟩
  else if k = 1 then ⟨false, drE x s, [], [], drS x s⟩
  else if k = 2 then ⟨false, unE x s, [], [], unS x s⟩
  else if k = 3 then ⟨false, foE x s, [], [], foS x n s⟩
  else if k = 4 then ⟨false, ejE x e gd s, [], [], ejS x e gd s⟩
  else if k = 5 then ⟨false, 0, adN e gd n s, [], adS e gd n s⟩
  else if k = 6 then ⟨prB x s, 0, [], [], prS x s⟩
  else ⟨emB x s, 0, [], [], emS x s⟩

theorem put4 {w : World} {b : Nat} {x y z u : Value} {t : TypeId} (h : w.heap[b]? = some (.cells #[x, y, z, u] t (0, 0))) (p q r s : Value) :
    ((((w.setCell ⟨b, 0, none⟩ p).setCell ⟨b, 1, none⟩ q).setCell ⟨b, 2, none⟩ r).setCell ⟨b, 3, none⟩ s).heap[b]? = some (.cells #[p, q, r, s] t (0, 0)) ∧ Keep (fun k => k ≠ b) w ((((w.setCell ⟨b, 0, none⟩ p).setCell ⟨b, 1, none⟩ q).setCell ⟨b, 2, none⟩ r).setCell ⟨b, 3, none⟩ s) := by
  have h1 := heap_setCell_same w b 0 _ t p h
  have h2 := heap_setCell_same _ b 1 _ t q h1
  have h3 := heap_setCell_same _ b 2 _ t r h2
  have h4 := heap_setCell_same _ b 3 _ t s h3
  exact ⟨by rw [h4]; simp, (((((Keep.refl _ w).setCell (fun hn => hn rfl) _).setCell (fun hn => hn rfl) _).setCell (fun hn => hn rfl) _).setCell (fun hn => hn rfl) _)⟩

theorem own_form {w : World} {base n : Nat} {v : Value} {l : List ByteArray} (h : w.ownsRow base 9 1 v n (sc l)) : ∃ a n c, v = .slice a n c := by
  obtain ⟨a, c, e, -⟩ := owns_strs h
  exact ⟨a, _, c, e⟩
/-- What the step wants of the state. -/
structure Few (s : Fl) : Prop where
  inv : Inv s.L s.M
  hl : s.H.length ≤ 1900
  ml : s.M.length ≤ 2000
  hg : ∀ x ∈ hn s.H, nameB x = true
  lg : ∀ x ∈ nms s.L, nameB x = true

theorem Few.sz {s : Fl} (h : Few s) : ∀ i, i < s.H.length → (atH s.H i).nm.size ≤ maxLen := fun i hi => by
  have h1 : (atH s.H i).nm ∈ hn s.H := by rw [atH_eq hi]; exact List.mem_map_of_mem (List.getElem_mem hi)
  have := nameB_size (h.hg _ h1)
  unfold maxLen
  omega

section
variable {w : World} {A : Nat → Prop} {f : Nat} {e gd : Int} {s : Fl} {x : ByteArray} {l : List ByteArray} {n : Int} {ma : Option Addr} {ml mc : Nat}

theorem sc_0 (h : FA w A f e gd s) (hF : Few s) (_hs : x.size ≤ maxLen) (hl : StrsAt w ma ml mc l) (hls : ∀ y ∈ l, y.size ≤ maxLen) (hA : 0 < ml → ∀ z, ma = some z → A z.block) (R : Res) (hR : stp e gd 0 n x l s = R) :
    Calls Tryd.prog 21 #[.pointer (some ⟨f, 0, none⟩), .slice ma ml mc, .int .i64 n] w fun r w' => ∃ va vb, r = .returned (.tuple #[va, vb, .int .i64 R.E]) ∧ w'.ownsRow w.heap.size 9 1 va R.P.length (sc R.P) ∧ w'.ownsRow w.heap.size 9 1 vb R.Q.length (sc R.Q) ∧ FIn w' (fun k => (A k ∨ vb.ownBlock = some k) ∨ va.ownBlock = some k) f e gd R.s.H R.s.L R.s.M ∧ Keep A w w' := by
  have hfl := hF.hl
  have hfm := hF.ml
  subst hR
  exact fresolve_w0 h hF.inv ma ml mc hl hA hls n (by omega) (by omega) hF.sz

theorem sc_1 (h : FA w A f e gd s) (_hF : Few s) (hs : x.size ≤ maxLen) (_hl : StrsAt w ma ml mc l) (_hls : ∀ y ∈ l, y.size ≤ maxLen) (_hA : 0 < ml → ∀ z, ma = some z → A z.block) (R : Res) (hR : stp e gd 1 n x l s = R) :
    Calls Tryd.prog 23 #[.pointer (some ⟨f, 0, none⟩), .string x] w fun r w' => ∃ va vb, r = .returned (.int .i64 R.E) ∧ w'.ownsRow w.heap.size 9 1 va R.P.length (sc R.P) ∧ w'.ownsRow w.heap.size 9 1 vb R.Q.length (sc R.Q) ∧ FIn w' (fun k => (A k ∨ vb.ownBlock = some k) ∨ va.ownBlock = some k) f e gd R.s.H R.s.L R.s.M ∧ Keep A w w' := by
  subst hR
  refine (fdrain_w h x hs).mono ?_
  rintro r w' ⟨rfl, hf, hk⟩
  refine ⟨.slice none 0 0, .slice none 0 0, rfl, World.ownsRow_nil _ _ _ _, World.ownsRow_nil _ _ _ _, FIn.fewer hf ?_ (.inl (.inl h.a0)), hk⟩
  rintro k ((hk | hk) | hk)
  · exact hk
  · cases hk
  · cases hk

theorem sc_2 (h : FA w A f e gd s) (hF : Few s) (hs : x.size ≤ maxLen) (_hl : StrsAt w ma ml mc l) (_hls : ∀ y ∈ l, y.size ≤ maxLen) (_hA : 0 < ml → ∀ z, ma = some z → A z.block) (R : Res) (hR : stp e gd 2 n x l s = R) :
    Calls Tryd.prog 32 #[.pointer (some ⟨f, 0, none⟩), .string x] w fun r w' => ∃ va vb, r = .returned (.int .i64 R.E) ∧ w'.ownsRow w.heap.size 9 1 va R.P.length (sc R.P) ∧ w'.ownsRow w.heap.size 9 1 vb R.Q.length (sc R.Q) ∧ FIn w' (fun k => (A k ∨ vb.ownBlock = some k) ∨ va.ownBlock = some k) f e gd R.s.H R.s.L R.s.M ∧ Keep A w w' := by
  subst hR
  refine (fundrain_w h hF.inv x hs).mono ?_
  rintro r w' ⟨rfl, hf, hk⟩
  refine ⟨.slice none 0 0, .slice none 0 0, rfl, World.ownsRow_nil _ _ _ _, World.ownsRow_nil _ _ _ _, FIn.fewer hf ?_ (.inl (.inl h.a0)), hk⟩
  rintro k ((hk | hk) | hk)
  · exact hk
  · cases hk
  · cases hk

theorem sc_3 (h : FA w A f e gd s) (hF : Few s) (hs : x.size ≤ maxLen) (_hl : StrsAt w ma ml mc l) (_hls : ∀ y ∈ l, y.size ≤ maxLen) (_hA : 0 < ml → ∀ z, ma = some z → A z.block) (R : Res) (hR : stp e gd 3 n x l s = R) :
    Calls Tryd.prog 31 #[.pointer (some ⟨f, 0, none⟩), .string x, .int .i64 n] w fun r w' => ∃ va vb, r = .returned (.int .i64 R.E) ∧ w'.ownsRow w.heap.size 9 1 va R.P.length (sc R.P) ∧ w'.ownsRow w.heap.size 9 1 vb R.Q.length (sc R.Q) ∧ FIn w' (fun k => (A k ∨ vb.ownBlock = some k) ∨ va.ownBlock = some k) f e gd R.s.H R.s.L R.s.M ∧ Keep A w w' := by
  have hfm := hF.ml
  subst hR
  refine (fforce_w h hF.inv x n hs (by omega)).mono ?_
  rintro r w' ⟨rfl, hf, hk⟩
  refine ⟨.slice none 0 0, .slice none 0 0, rfl, World.ownsRow_nil _ _ _ _, World.ownsRow_nil _ _ _ _, FIn.fewer hf ?_ (.inl (.inl h.a0)), hk⟩
  rintro k ((hk | hk) | hk)
  · exact hk
  · cases hk
  · cases hk

theorem sc_4 (h : FA w A f e gd s) (hF : Few s) (hs : x.size ≤ maxLen) (_hl : StrsAt w ma ml mc l) (_hls : ∀ y ∈ l, y.size ≤ maxLen) (_hA : 0 < ml → ∀ z, ma = some z → A z.block) (R : Res) (hR : stp e gd 4 n x l s = R) :
    Calls Tryd.prog 33 #[.pointer (some ⟨f, 0, none⟩), .string x] w fun r w' => ∃ va vb, r = .returned (.int .i64 R.E) ∧ w'.ownsRow w.heap.size 9 1 va R.P.length (sc R.P) ∧ w'.ownsRow w.heap.size 9 1 vb R.Q.length (sc R.Q) ∧ FIn w' (fun k => (A k ∨ vb.ownBlock = some k) ∨ va.ownBlock = some k) f e gd R.s.H R.s.L R.s.M ∧ Keep A w w' := by
  have hfl := hF.hl
  subst hR
  refine (feject_w h x hs (by omega)).mono ?_
  rintro r w' ⟨rfl, hf, hk⟩
  refine ⟨.slice none 0 0, .slice none 0 0, rfl, World.ownsRow_nil _ _ _ _, World.ownsRow_nil _ _ _ _, FIn.fewer hf ?_ (.inl (.inl h.a0)), hk⟩
  rintro k ((hk | hk) | hk)
  · exact hk
  · cases hk
  · cases hk

theorem sc_5 (h : FA w A f e gd s) (hF : Few s) (_hs : x.size ≤ maxLen) (_hl : StrsAt w ma ml mc l) (_hls : ∀ y ∈ l, y.size ≤ maxLen) (_hA : 0 < ml → ∀ z, ma = some z → A z.block) (R : Res) (hR : stp e gd 5 n x l s = R) :
    Calls Tryd.prog 22 #[.pointer (some ⟨f, 0, none⟩), .int .i64 n] w fun r w' => ∃ va vb, r = .returned (va) ∧ w'.ownsRow w.heap.size 9 1 va R.P.length (sc R.P) ∧ w'.ownsRow w.heap.size 9 1 vb R.Q.length (sc R.Q) ∧ FIn w' (fun k => (A k ∨ vb.ownBlock = some k) ∨ va.ownBlock = some k) f e gd R.s.H R.s.L R.s.M ∧ Keep A w w' := by
  have hfl := hF.hl
  have hfm := hF.ml
  subst hR
  refine (fadmit_w h hF.inv n (by omega) (by have := hF.inv.few; omega) hF.lg (adS e gd n s) (adN e gd n s) rfl).mono ?_
  rintro r w' ⟨v, rfl, o, hf, hk⟩
  refine ⟨v, .slice none 0 0, rfl, o, World.ownsRow_nil _ _ _ _, hf.fewer ?_ (.inl (.inl h.a0)), hk⟩
  rintro k ((hk | hk) | hk)
  · exact .inl hk
  · cases hk
  · exact .inr hk

theorem sc_6 (h : FA w A f e gd s) (_hF : Few s) (_hs : x.size ≤ maxLen) (_hl : StrsAt w ma ml mc l) (_hls : ∀ y ∈ l, y.size ≤ maxLen) (_hA : 0 < ml → ∀ z, ma = some z → A z.block) (R : Res) (hR : stp e gd 6 n x l s = R) :
    Calls Tryd.prog 38 #[.pointer (some ⟨f, 0, none⟩), .string x] w fun r w' => ∃ va vb, r = .returned (.bool R.b) ∧ w'.ownsRow w.heap.size 9 1 va R.P.length (sc R.P) ∧ w'.ownsRow w.heap.size 9 1 vb R.Q.length (sc R.Q) ∧ FIn w' (fun k => (A k ∨ vb.ownBlock = some k) ∨ va.ownBlock = some k) f e gd R.s.H R.s.L R.s.M ∧ Keep A w w' := by
  subst hR
  refine (fprobe_w h x).mono ?_
  rintro r w' ⟨rfl, hf, hk⟩
  refine ⟨.slice none 0 0, .slice none 0 0, rfl, World.ownsRow_nil _ _ _ _, World.ownsRow_nil _ _ _ _, FIn.fewer hf ?_ (.inl (.inl h.a0)), hk⟩
  rintro k ((hk | hk) | hk)
  · exact hk
  · cases hk
  · cases hk

theorem sc_7 (h : FA w A f e gd s) (hF : Few s) (_hs : x.size ≤ maxLen) (_hl : StrsAt w ma ml mc l) (_hls : ∀ y ∈ l, y.size ≤ maxLen) (_hA : 0 < ml → ∀ z, ma = some z → A z.block) (R : Res) (hR : stp e gd 7 n x l s = R) :
    Calls Tryd.prog 30 #[.pointer (some ⟨f, 0, none⟩), .string x] w fun r w' => ∃ va vb, r = .returned (.bool R.b) ∧ w'.ownsRow w.heap.size 9 1 va R.P.length (sc R.P) ∧ w'.ownsRow w.heap.size 9 1 vb R.Q.length (sc R.Q) ∧ FIn w' (fun k => (A k ∨ vb.ownBlock = some k) ∨ va.ownBlock = some k) f e gd R.s.H R.s.L R.s.M ∧ Keep A w w' := by
  subst hR
  refine (fempty_w h hF.inv x).mono ?_
  rintro r w' ⟨rfl, hf, hk⟩
  refine ⟨.slice none 0 0, .slice none 0 0, rfl, World.ownsRow_nil _ _ _ _, World.ownsRow_nil _ _ _ _, FIn.fewer hf ?_ (.inl (.inl h.a0)), hk⟩
  rintro k ((hk | hk) | hk)
  · exact hk
  · cases hk
  · cases hk
end

/-- The two blocks of the step's own, and the fleet beside them. -/
theorem step_pre {w : World} {A : Nat → Prop} {f : Nat} {e gd : Int} {s : Fl} (h : FA w A f e gd s) (c0 c1 c2 c3 : Value) : ∃ w1, w1 = (w.alloc (.cells #[c0, c1, c2, c3] 36)).alloc (.cells #[.bool false, .int .i64 0, .slice none 0 0, .slice none 0 0] 39) ∧
    FA w1 (fun k => A k ∨ (w.heap.size ≤ k ∧ k < w1.heap.size)) f e gd s ∧ Below w.heap.size w w1 ∧ w1.heap[w.heap.size]? = some (.cells #[c0, c1, c2, c3] 36 (0, 0)) ∧ w1.heap[w.heap.size + 1]? = some (.cells #[.bool false, .int .i64 0, .slice none 0 0, .slice none 0 0] 39 (0, 0)) ∧ w1.heap.size = w.heap.size + 2 := by
  have hb1 : Below w.heap.size w (w.alloc (.cells #[c0, c1, c2, c3] 36)) := (Below.refl _ w).alloc (Nat.le_refl _) _
  have hb2 : Below (w.alloc (.cells #[c0, c1, c2, c3] 36)).heap.size (w.alloc (.cells #[c0, c1, c2, c3] 36)) ((w.alloc (.cells #[c0, c1, c2, c3] 36)).alloc (.cells #[.bool false, .int .i64 0, .slice none 0 0, .slice none 0 0] 39)) := (Below.refl _ _).alloc (Nat.le_refl _) _
  have hb := hb1.trans (hb2.mono hb1.size)
  refine ⟨_, rfl, h.belowN hb, hb, ?_, ?_, by simp⟩
  · rw [hb2.block w.heap.size (by simp)]
    exact heap_alloc_new w _
  · have := heap_alloc_new (w.alloc (.cells #[c0, c1, c2, c3] 36)) (.cells #[.bool false, .int .i64 0, .slice none 0 0, .slice none 0 0] 39)
    simpa using this
/-- The step's result is put where it is told. -/
theorem step_end {w w2 w3 : World} {A : Nat → Prop} {f : Nat} {e gd : Int} {R : Res} {va vb : Value} {q4 : Nat} (h0 : ∀ k, A k → k < w.heap.size) (a0 : A 0) (hq : q4 = w.heap.size + 1) (hk2 : Keep A w w2) (hs : w.heap.size + 2 ≤ w2.heap.size)
    (o1 : w3.ownsRow w2.heap.size 9 1 va R.P.length (sc R.P)) (o2 : w3.ownsRow w2.heap.size 9 1 vb R.Q.length (sc R.Q)) (hf : FIn w3 (fun k => ((A k ∨ (w.heap.size ≤ k ∧ k < w.heap.size + 2)) ∨ vb.ownBlock = some k) ∨ va.ownBlock = some k) f e gd R.s.H R.s.L R.s.M) (hk : Keep (fun k => A k ∨ (w.heap.size ≤ k ∧ k < w.heap.size + 2)) w2 w3)
    {c0 c1 c2 c3 : Value} (hg : w3.heap[q4]? = some (.cells #[c0, c1, c2, c3] 39 (0, 0))) (u0 u1 u2 u3 : Value) :
    ∀ w4, w4 = ((((w3.setCell ⟨q4, 0, none⟩ u0).setCell ⟨q4, 1, none⟩ u1).setCell ⟨q4, 2, none⟩ u2).setCell ⟨q4, 3, none⟩ u3) →
      w4.cell? ⟨q4, 0, none⟩ = some u0 ∧ w4.cell? ⟨q4, 1, none⟩ = some u1 ∧ w4.cell? ⟨q4, 2, none⟩ = some u2 ∧ w4.cell? ⟨q4, 3, none⟩ = some u3 ∧
      w4.ownsRow w.heap.size 9 1 va R.P.length (sc R.P) ∧ w4.ownsRow w.heap.size 9 1 vb R.Q.length (sc R.Q) ∧ FIn w4 (fun k => (A k ∨ vb.ownBlock = some k) ∨ va.ownBlock = some k) f e gd R.s.H R.s.L R.s.M ∧ Keep A w w4 := by
  intro w4 e4
  obtain ⟨p1, p2⟩ := put4 hg u0 u1 u2 u3
  rw [← e4] at p1 p2
  obtain ⟨z0, z1, z2, z3, -⟩ := blk4 p1
  have hne : ∀ v : Value, (∀ k, v.ownBlock = some k → w2.heap.size ≤ k ∧ k < w3.heap.size) → ∀ k, v.ownBlock = some k → k ≠ q4 := fun v hv k hk e => by have := hv k hk; omega
  refine ⟨z0, z1, z2, z3, own_mono (owns_keep o1 p2 (hne va o1.lt)) (by omega), own_mono (owns_keep o2 p2 (hne vb o2.lt)) (by omega), ?_, (hk2.trans (hk.mono fun k _ hA => .inl hA)).trans (p2.mono fun k _ hA e => by have := h0 k hA; omega)⟩
  have hf4 := hf.keep (w' := w4) (B := fun k => ((A k ∨ (w.heap.size ≤ k ∧ k < w.heap.size + 2)) ∨ vb.ownBlock = some k) ∨ va.ownBlock = some k) (p2.mono (by
    rintro k _ (hn | rfl) e
    · exact hn (.inl (.inl (.inr (by omega))))
    · have := h0 0 a0; omega)) (fun k hk => .inl hk) (fun k hk => Nat.lt_of_lt_of_le (hf.guard k hk) p2.size) hf.a0
  exact hf4.fewer (fun k hk => hk.imp (fun hk => hk.imp .inl id) id) (.inl (.inl a0))

set_option maxHeartbeats 4000000 in
set_option maxRecDepth 100000 in
theorem step_w {w : World} {A : Nat → Prop} {f : Nat} {e gd : Int} {s : Fl} (h : FA w A f e gd s) (hF : Few s) (kd n : Int) (x : ByteArray) (ma : Option Addr) (ml mc : Nat) (l : List ByteArray) (hs : x.size ≤ maxLen) (hl : StrsAt w ma ml mc l) (hls : ∀ y ∈ l, y.size ≤ maxLen) (hA : 0 < ml → ∀ z, ma = some z → A z.block) (k : Int) (hk : kindI kd = k) (R : Res) (hR : stp e gd k n x l s = R) :
    Calls Tryd.prog 14 #[.pointer (some ⟨f, 0, none⟩), .agg #[.int .i64 kd, .int .i64 n, .string x, .slice ma ml mc]] w fun r w' => ∃ va vb, r = .returned (.agg #[.bool R.b, .int .i64 R.E, va, vb]) ∧ w'.ownsRow w.heap.size 9 1 va R.P.length (sc R.P) ∧ w'.ownsRow w.heap.size 9 1 vb R.Q.length (sc R.Q) ∧
      FIn w' (fun k => (A k ∨ vb.ownBlock = some k) ∨ va.ownBlock = some k) f e gd R.s.H R.s.L R.s.M ∧ Keep A w w' := by
  have hk8 := kindI_of kd
  rw [hk] at hk8
  have h0 := h.guard
  have a0 := h.a0
  obtain ⟨w1, hw1, hf1, hb1, hq3, hq4, hsz⟩ := step_pre h (.int .i64 kd) (.int .i64 n) (.string x) (.slice ma ml mc)
  have hkd : ∀ w', Calls Tryd.prog 19 #[.agg #[.int .i64 kd, .int .i64 n, .string x, .slice ma ml mc]] w' fun e w'' => e = .returned (.int .i64 k) ∧ Below w'.heap.size w' w'' := fun w' => by
    have := kind_step kd n (.string x) (.slice ma ml mc) w'
    rwa [hk] at this
  have HKD := Hid.mk' hkd
  have hsz2 : w.heap.size + 1 < w1.heap.size := by omega
  have hlt1 : w.heap.size < w1.heap.size := by omega
  have HB2 : Hid (∀ w2, Below w1.heap.size w1 w2 → FA w2 (fun k => A k ∨ (w.heap.size ≤ k ∧ k < w.heap.size + 2)) f e gd s ∧ Keep A w w2 ∧ w.heap.size + 2 ≤ w2.heap.size ∧ w2.heap[w.heap.size]? = some (.cells #[.int .i64 kd, .int .i64 n, .string x, .slice ma ml mc] 36 (0, 0)) ∧ w2.heap[w.heap.size + 1]? = some (.cells #[.bool false, .int .i64 0, .slice none 0 0, .slice none 0 0] 39 (0, 0)) ∧ StrsAt w2 ma ml mc l) := fun w2 hb2 => by
    have hb := hb1.trans (hb2.mono hb1.size)
    refine ⟨by rw [hsz] at hf1; exact hf1.below hb2, keep_below hb, by rw [← hsz]; exact hb2.size, (hb2.block _ (by omega)).trans hq3, (hb2.block _ hsz2).trans hq4, hl.below (Nat.le_refl _) hb⟩
  obtain ⟨x0, x1, x2, x3, -⟩ := blk4 hq3
  obtain ⟨y0, y1, y2, y3, -⟩ := blk4 hq4
  have HF := Hid.mk' hF
  have HA1 : Hid (0 < ml → ∀ z, ma = some z → (A z.block ∨ (w.heap.size ≤ z.block ∧ z.block < w.heap.size + 2))) := fun h0 z hz => .inl (hA h0 z hz)
  have H0 := Hid.mk' h0
  have A0 := Hid.mk' a0
  clear h hl hA hf1 hq3 hq4 hkd hb1 hF h0 a0
  rcases hk8 with rfl | rfl | rfl | rfl | rfl | rfl | rfl | rfl
  · have hRb : R.b = false := by rw [← hR]; rfl
    have hRE : True := trivial
    have HC : Hid (∀ w2, Below w1.heap.size w1 w2 → Calls Tryd.prog 21 #[.pointer (some ⟨f, 0, none⟩), .slice ma ml mc, .int .i64 n] w2 fun r w3 => ∃ va vb, r = .returned (.tuple #[va, vb, .int .i64 R.E]) ∧ (∃ a n c, va = .slice a n c) ∧ (∃ a n c, vb = .slice a n c) ∧ w3.heap[w.heap.size + 1]? = some (.cells #[.bool false, .int .i64 0, .slice none 0 0, .slice none 0 0] 39 (0, 0)) ∧
        ∀ w4, w4 = ((((w3.setCell ⟨w.heap.size + 1, 0, none⟩ (.bool R.b)).setCell ⟨w.heap.size + 1, 1, none⟩ (.int .i64 R.E)).setCell ⟨w.heap.size + 1, 2, none⟩ va).setCell ⟨w.heap.size + 1, 3, none⟩ vb) →
          w4.cell? ⟨w.heap.size + 1, 0, none⟩ = some (.bool R.b) ∧ w4.cell? ⟨w.heap.size + 1, 1, none⟩ = some (.int .i64 R.E) ∧ w4.cell? ⟨w.heap.size + 1, 2, none⟩ = some va ∧ w4.cell? ⟨w.heap.size + 1, 3, none⟩ = some vb ∧ w4.ownsRow w.heap.size 9 1 va R.P.length (sc R.P) ∧ w4.ownsRow w.heap.size 9 1 vb R.Q.length (sc R.Q) ∧ FIn w4 (fun k => (A k ∨ vb.ownBlock = some k) ∨ va.ownBlock = some k) f e gd R.s.H R.s.L R.s.M ∧ Keep A w w4) := fun w2 hb2 => by
      obtain ⟨hf2, hk2, hs2, hg3, hg4, hl2⟩ := HB2.out w2 hb2
      refine (sc_0 (x := x) (l := l) (ma := ma) (ml := ml) (mc := mc) hf2 HF.out hs hl2 hls HA1.out R hR).mono ?_
      rintro r w3 ⟨va, vb, rfl, o1, o2, hf3, hk3⟩
      have hg := (hk3.block (w.heap.size + 1) (by omega) (.inr (by omega))).trans hg4
      exact ⟨va, vb, rfl, own_form o1, own_form o2, hg, step_end H0.out A0.out rfl hk2 hs2 o1 o2 hf3 hk3 hg _ _ _ _⟩
    rw [hRb] at HC ⊢
    have hkd := HKD.out w1
    clear hR hs hls HF HA1 H0 A0 HB2
    go_enter Tryd.func14, Tryd.ntmps14
    go_upto_region 1 with fail
    rw [← hw1]
    clear hw1
    go_wp2_with (first
      | (go_at_call 19; refine hkd.mono ?_; rintro r w2 ⟨rfl, hb2⟩; have hc := HC.out w2 hb2; have b1 := (hb2.cell (p := ⟨w.heap.size, 1, none⟩) hlt1).trans x1; have b3 := (hb2.cell (p := ⟨w.heap.size, 3, none⟩) hlt1).trans x3)
      | (go_at_call 21; refine hc.mono ?_; rintro r w3 ⟨va, vb, rfl, ⟨a7, n7, c7, rfl⟩, ⟨a8, n8, c8, rfl⟩, hg, hend⟩; obtain ⟨g0, g1, g2, g3, -⟩ := blk4 hg; have gf0 := fz4 hg 0; have gf1 := fz4 hg 1; have gf2 := fz4 hg 2; have gf3 := fz4 hg 3))
    obtain ⟨z0, z1, z2, z3, ho1, ho2, hf4, hk4⟩ := hend _ rfl
    refine bodyPost_ret (v := .agg #[.bool false, .int .i64 R.E, (.slice a7 n7 c7), (.slice a8 n8 c8)]) (by simp [results, Tryd.results14, go_sem, z0, z1, z2, z3]) rfl ?_
    exact ⟨_, _, rfl, ho1, ho2, hf4, hk4⟩
  · have hRb : R.b = false := by rw [← hR]; rfl
    have hRE : True := trivial
    have HC : Hid (∀ w2, Below w1.heap.size w1 w2 → Calls Tryd.prog 23 #[.pointer (some ⟨f, 0, none⟩), .string x] w2 fun r w3 => ∃ va vb, r = .returned (.int .i64 R.E) ∧ va = .slice none 0 0 ∧ vb = .slice none 0 0 ∧ w3.heap[w.heap.size + 1]? = some (.cells #[.bool false, .int .i64 0, .slice none 0 0, .slice none 0 0] 39 (0, 0)) ∧
        ∀ w4, w4 = ((((w3.setCell ⟨w.heap.size + 1, 0, none⟩ (.bool R.b)).setCell ⟨w.heap.size + 1, 1, none⟩ (.int .i64 R.E)).setCell ⟨w.heap.size + 1, 2, none⟩ va).setCell ⟨w.heap.size + 1, 3, none⟩ vb) →
          w4.cell? ⟨w.heap.size + 1, 0, none⟩ = some (.bool R.b) ∧ w4.cell? ⟨w.heap.size + 1, 1, none⟩ = some (.int .i64 R.E) ∧ w4.cell? ⟨w.heap.size + 1, 2, none⟩ = some va ∧ w4.cell? ⟨w.heap.size + 1, 3, none⟩ = some vb ∧ w4.ownsRow w.heap.size 9 1 va R.P.length (sc R.P) ∧ w4.ownsRow w.heap.size 9 1 vb R.Q.length (sc R.Q) ∧ FIn w4 (fun k => (A k ∨ vb.ownBlock = some k) ∨ va.ownBlock = some k) f e gd R.s.H R.s.L R.s.M ∧ Keep A w w4) := fun w2 hb2 => by
      obtain ⟨hf2, hk2, hs2, hg3, hg4, hl2⟩ := HB2.out w2 hb2
      refine (sc_1 (x := x) (l := l) (ma := ma) (ml := ml) (mc := mc) hf2 HF.out hs hl2 hls HA1.out R hR).mono ?_
      rintro r w3 ⟨va, vb, rfl, o1, o2, hf3, hk3⟩
      have hg := (hk3.block (w.heap.size + 1) (by omega) (.inr (by omega))).trans hg4
      have hQ : R.Q = [] := by rw [← hR]; rfl
      have hP : R.P = [] := by rw [← hR]; rfl
      have o1' : w3.ownsRow w2.heap.size 9 1 (.slice none 0 0) R.P.length (sc R.P) := by rw [hP]; exact World.ownsRow_nil _ _ _ _
      have o2' : w3.ownsRow w2.heap.size 9 1 (.slice none 0 0) R.Q.length (sc R.Q) := by rw [hQ]; exact World.ownsRow_nil _ _ _ _
      have hf3' : FIn w3 (fun k => ((A k ∨ (w.heap.size ≤ k ∧ k < w.heap.size + 2)) ∨ (Value.slice none 0 0).ownBlock = some k) ∨ (Value.slice none 0 0).ownBlock = some k) f e gd R.s.H R.s.L R.s.M := hf3.fewer (by
        rintro k ((hk | hk) | hk)
        · exact .inl (.inl hk)
        · cases hk
        · cases hk) (.inl (.inl (.inl A0.out)))
      exact ⟨_, _, rfl, rfl, rfl, hg, step_end H0.out A0.out rfl hk2 hs2 o1' o2' hf3' hk3 hg _ _ _ _⟩
    rw [hRb] at HC ⊢
    have hkd := HKD.out w1
    clear hR hs hls HF HA1 H0 A0 HB2
    go_enter Tryd.func14, Tryd.ntmps14
    go_upto_region 1 with fail
    rw [← hw1]
    clear hw1
    go_wp2_with (first
      | (go_at_call 19; refine hkd.mono ?_; rintro r w2 ⟨rfl, hb2⟩; have hc := HC.out w2 hb2; have b2 := (hb2.cell (p := ⟨w.heap.size, 2, none⟩) hlt1).trans x2)
      | (go_at_call 23; refine hc.mono ?_; rintro r w3 ⟨va, vb, rfl, rfl, rfl, hg, hend⟩; obtain ⟨g0, g1, g2, g3, -⟩ := blk4 hg; have gf0 := fz4 hg 0; have gf1 := fz4 hg 1; have gf2 := fz4 hg 2; have gf3 := fz4 hg 3))
    obtain ⟨z0, z1, z2, z3, ho1, ho2, hf4, hk4⟩ := hend _ rfl
    refine bodyPost_ret (v := .agg #[.bool false, .int .i64 R.E, .slice none 0 0, .slice none 0 0]) (by simp [results, Tryd.results14, go_sem, z0, z1, z2, z3]) rfl ?_
    exact ⟨_, _, rfl, ho1, ho2, hf4, hk4⟩
  · have hRb : R.b = false := by rw [← hR]; rfl
    have hRE : True := trivial
    have HC : Hid (∀ w2, Below w1.heap.size w1 w2 → Calls Tryd.prog 32 #[.pointer (some ⟨f, 0, none⟩), .string x] w2 fun r w3 => ∃ va vb, r = .returned (.int .i64 R.E) ∧ va = .slice none 0 0 ∧ vb = .slice none 0 0 ∧ w3.heap[w.heap.size + 1]? = some (.cells #[.bool false, .int .i64 0, .slice none 0 0, .slice none 0 0] 39 (0, 0)) ∧
        ∀ w4, w4 = ((((w3.setCell ⟨w.heap.size + 1, 0, none⟩ (.bool R.b)).setCell ⟨w.heap.size + 1, 1, none⟩ (.int .i64 R.E)).setCell ⟨w.heap.size + 1, 2, none⟩ va).setCell ⟨w.heap.size + 1, 3, none⟩ vb) →
          w4.cell? ⟨w.heap.size + 1, 0, none⟩ = some (.bool R.b) ∧ w4.cell? ⟨w.heap.size + 1, 1, none⟩ = some (.int .i64 R.E) ∧ w4.cell? ⟨w.heap.size + 1, 2, none⟩ = some va ∧ w4.cell? ⟨w.heap.size + 1, 3, none⟩ = some vb ∧ w4.ownsRow w.heap.size 9 1 va R.P.length (sc R.P) ∧ w4.ownsRow w.heap.size 9 1 vb R.Q.length (sc R.Q) ∧ FIn w4 (fun k => (A k ∨ vb.ownBlock = some k) ∨ va.ownBlock = some k) f e gd R.s.H R.s.L R.s.M ∧ Keep A w w4) := fun w2 hb2 => by
      obtain ⟨hf2, hk2, hs2, hg3, hg4, hl2⟩ := HB2.out w2 hb2
      refine (sc_2 (x := x) (l := l) (ma := ma) (ml := ml) (mc := mc) hf2 HF.out hs hl2 hls HA1.out R hR).mono ?_
      rintro r w3 ⟨va, vb, rfl, o1, o2, hf3, hk3⟩
      have hg := (hk3.block (w.heap.size + 1) (by omega) (.inr (by omega))).trans hg4
      have hQ : R.Q = [] := by rw [← hR]; rfl
      have hP : R.P = [] := by rw [← hR]; rfl
      have o1' : w3.ownsRow w2.heap.size 9 1 (.slice none 0 0) R.P.length (sc R.P) := by rw [hP]; exact World.ownsRow_nil _ _ _ _
      have o2' : w3.ownsRow w2.heap.size 9 1 (.slice none 0 0) R.Q.length (sc R.Q) := by rw [hQ]; exact World.ownsRow_nil _ _ _ _
      have hf3' : FIn w3 (fun k => ((A k ∨ (w.heap.size ≤ k ∧ k < w.heap.size + 2)) ∨ (Value.slice none 0 0).ownBlock = some k) ∨ (Value.slice none 0 0).ownBlock = some k) f e gd R.s.H R.s.L R.s.M := hf3.fewer (by
        rintro k ((hk | hk) | hk)
        · exact .inl (.inl hk)
        · cases hk
        · cases hk) (.inl (.inl (.inl A0.out)))
      exact ⟨_, _, rfl, rfl, rfl, hg, step_end H0.out A0.out rfl hk2 hs2 o1' o2' hf3' hk3 hg _ _ _ _⟩
    rw [hRb] at HC ⊢
    have hkd := HKD.out w1
    clear hR hs hls HF HA1 H0 A0 HB2
    go_enter Tryd.func14, Tryd.ntmps14
    go_upto_region 1 with fail
    rw [← hw1]
    clear hw1
    go_wp2_with (first
      | (go_at_call 19; refine hkd.mono ?_; rintro r w2 ⟨rfl, hb2⟩; have hc := HC.out w2 hb2; have b2 := (hb2.cell (p := ⟨w.heap.size, 2, none⟩) hlt1).trans x2)
      | (go_at_call 32; refine hc.mono ?_; rintro r w3 ⟨va, vb, rfl, rfl, rfl, hg, hend⟩; obtain ⟨g0, g1, g2, g3, -⟩ := blk4 hg; have gf0 := fz4 hg 0; have gf1 := fz4 hg 1; have gf2 := fz4 hg 2; have gf3 := fz4 hg 3))
    obtain ⟨z0, z1, z2, z3, ho1, ho2, hf4, hk4⟩ := hend _ rfl
    refine bodyPost_ret (v := .agg #[.bool false, .int .i64 R.E, .slice none 0 0, .slice none 0 0]) (by simp [results, Tryd.results14, go_sem, z0, z1, z2, z3]) rfl ?_
    exact ⟨_, _, rfl, ho1, ho2, hf4, hk4⟩
  · have hRb : R.b = false := by rw [← hR]; rfl
    have hRE : True := trivial
    have HC : Hid (∀ w2, Below w1.heap.size w1 w2 → Calls Tryd.prog 31 #[.pointer (some ⟨f, 0, none⟩), .string x, .int .i64 n] w2 fun r w3 => ∃ va vb, r = .returned (.int .i64 R.E) ∧ va = .slice none 0 0 ∧ vb = .slice none 0 0 ∧ w3.heap[w.heap.size + 1]? = some (.cells #[.bool false, .int .i64 0, .slice none 0 0, .slice none 0 0] 39 (0, 0)) ∧
        ∀ w4, w4 = ((((w3.setCell ⟨w.heap.size + 1, 0, none⟩ (.bool R.b)).setCell ⟨w.heap.size + 1, 1, none⟩ (.int .i64 R.E)).setCell ⟨w.heap.size + 1, 2, none⟩ va).setCell ⟨w.heap.size + 1, 3, none⟩ vb) →
          w4.cell? ⟨w.heap.size + 1, 0, none⟩ = some (.bool R.b) ∧ w4.cell? ⟨w.heap.size + 1, 1, none⟩ = some (.int .i64 R.E) ∧ w4.cell? ⟨w.heap.size + 1, 2, none⟩ = some va ∧ w4.cell? ⟨w.heap.size + 1, 3, none⟩ = some vb ∧ w4.ownsRow w.heap.size 9 1 va R.P.length (sc R.P) ∧ w4.ownsRow w.heap.size 9 1 vb R.Q.length (sc R.Q) ∧ FIn w4 (fun k => (A k ∨ vb.ownBlock = some k) ∨ va.ownBlock = some k) f e gd R.s.H R.s.L R.s.M ∧ Keep A w w4) := fun w2 hb2 => by
      obtain ⟨hf2, hk2, hs2, hg3, hg4, hl2⟩ := HB2.out w2 hb2
      refine (sc_3 (x := x) (l := l) (ma := ma) (ml := ml) (mc := mc) hf2 HF.out hs hl2 hls HA1.out R hR).mono ?_
      rintro r w3 ⟨va, vb, rfl, o1, o2, hf3, hk3⟩
      have hg := (hk3.block (w.heap.size + 1) (by omega) (.inr (by omega))).trans hg4
      have hQ : R.Q = [] := by rw [← hR]; rfl
      have hP : R.P = [] := by rw [← hR]; rfl
      have o1' : w3.ownsRow w2.heap.size 9 1 (.slice none 0 0) R.P.length (sc R.P) := by rw [hP]; exact World.ownsRow_nil _ _ _ _
      have o2' : w3.ownsRow w2.heap.size 9 1 (.slice none 0 0) R.Q.length (sc R.Q) := by rw [hQ]; exact World.ownsRow_nil _ _ _ _
      have hf3' : FIn w3 (fun k => ((A k ∨ (w.heap.size ≤ k ∧ k < w.heap.size + 2)) ∨ (Value.slice none 0 0).ownBlock = some k) ∨ (Value.slice none 0 0).ownBlock = some k) f e gd R.s.H R.s.L R.s.M := hf3.fewer (by
        rintro k ((hk | hk) | hk)
        · exact .inl (.inl hk)
        · cases hk
        · cases hk) (.inl (.inl (.inl A0.out)))
      exact ⟨_, _, rfl, rfl, rfl, hg, step_end H0.out A0.out rfl hk2 hs2 o1' o2' hf3' hk3 hg _ _ _ _⟩
    rw [hRb] at HC ⊢
    have hkd := HKD.out w1
    clear hR hs hls HF HA1 H0 A0 HB2
    go_enter Tryd.func14, Tryd.ntmps14
    go_upto_region 1 with fail
    rw [← hw1]
    clear hw1
    go_wp2_with (first
      | (go_at_call 19; refine hkd.mono ?_; rintro r w2 ⟨rfl, hb2⟩; have hc := HC.out w2 hb2; have b1 := (hb2.cell (p := ⟨w.heap.size, 1, none⟩) hlt1).trans x1; have b2 := (hb2.cell (p := ⟨w.heap.size, 2, none⟩) hlt1).trans x2)
      | (go_at_call 31; refine hc.mono ?_; rintro r w3 ⟨va, vb, rfl, rfl, rfl, hg, hend⟩; obtain ⟨g0, g1, g2, g3, -⟩ := blk4 hg; have gf0 := fz4 hg 0; have gf1 := fz4 hg 1; have gf2 := fz4 hg 2; have gf3 := fz4 hg 3))
    obtain ⟨z0, z1, z2, z3, ho1, ho2, hf4, hk4⟩ := hend _ rfl
    refine bodyPost_ret (v := .agg #[.bool false, .int .i64 R.E, .slice none 0 0, .slice none 0 0]) (by simp [results, Tryd.results14, go_sem, z0, z1, z2, z3]) rfl ?_
    exact ⟨_, _, rfl, ho1, ho2, hf4, hk4⟩
  · have hRb : R.b = false := by rw [← hR]; rfl
    have hRE : True := trivial
    have HC : Hid (∀ w2, Below w1.heap.size w1 w2 → Calls Tryd.prog 33 #[.pointer (some ⟨f, 0, none⟩), .string x] w2 fun r w3 => ∃ va vb, r = .returned (.int .i64 R.E) ∧ va = .slice none 0 0 ∧ vb = .slice none 0 0 ∧ w3.heap[w.heap.size + 1]? = some (.cells #[.bool false, .int .i64 0, .slice none 0 0, .slice none 0 0] 39 (0, 0)) ∧
        ∀ w4, w4 = ((((w3.setCell ⟨w.heap.size + 1, 0, none⟩ (.bool R.b)).setCell ⟨w.heap.size + 1, 1, none⟩ (.int .i64 R.E)).setCell ⟨w.heap.size + 1, 2, none⟩ va).setCell ⟨w.heap.size + 1, 3, none⟩ vb) →
          w4.cell? ⟨w.heap.size + 1, 0, none⟩ = some (.bool R.b) ∧ w4.cell? ⟨w.heap.size + 1, 1, none⟩ = some (.int .i64 R.E) ∧ w4.cell? ⟨w.heap.size + 1, 2, none⟩ = some va ∧ w4.cell? ⟨w.heap.size + 1, 3, none⟩ = some vb ∧ w4.ownsRow w.heap.size 9 1 va R.P.length (sc R.P) ∧ w4.ownsRow w.heap.size 9 1 vb R.Q.length (sc R.Q) ∧ FIn w4 (fun k => (A k ∨ vb.ownBlock = some k) ∨ va.ownBlock = some k) f e gd R.s.H R.s.L R.s.M ∧ Keep A w w4) := fun w2 hb2 => by
      obtain ⟨hf2, hk2, hs2, hg3, hg4, hl2⟩ := HB2.out w2 hb2
      refine (sc_4 (x := x) (l := l) (ma := ma) (ml := ml) (mc := mc) hf2 HF.out hs hl2 hls HA1.out R hR).mono ?_
      rintro r w3 ⟨va, vb, rfl, o1, o2, hf3, hk3⟩
      have hg := (hk3.block (w.heap.size + 1) (by omega) (.inr (by omega))).trans hg4
      have hQ : R.Q = [] := by rw [← hR]; rfl
      have hP : R.P = [] := by rw [← hR]; rfl
      have o1' : w3.ownsRow w2.heap.size 9 1 (.slice none 0 0) R.P.length (sc R.P) := by rw [hP]; exact World.ownsRow_nil _ _ _ _
      have o2' : w3.ownsRow w2.heap.size 9 1 (.slice none 0 0) R.Q.length (sc R.Q) := by rw [hQ]; exact World.ownsRow_nil _ _ _ _
      have hf3' : FIn w3 (fun k => ((A k ∨ (w.heap.size ≤ k ∧ k < w.heap.size + 2)) ∨ (Value.slice none 0 0).ownBlock = some k) ∨ (Value.slice none 0 0).ownBlock = some k) f e gd R.s.H R.s.L R.s.M := hf3.fewer (by
        rintro k ((hk | hk) | hk)
        · exact .inl (.inl hk)
        · cases hk
        · cases hk) (.inl (.inl (.inl A0.out)))
      exact ⟨_, _, rfl, rfl, rfl, hg, step_end H0.out A0.out rfl hk2 hs2 o1' o2' hf3' hk3 hg _ _ _ _⟩
    rw [hRb] at HC ⊢
    have hkd := HKD.out w1
    clear hR hs hls HF HA1 H0 A0 HB2
    go_enter Tryd.func14, Tryd.ntmps14
    go_upto_region 1 with fail
    rw [← hw1]
    clear hw1
    go_wp2_with (first
      | (go_at_call 19; refine hkd.mono ?_; rintro r w2 ⟨rfl, hb2⟩; have hc := HC.out w2 hb2; have b2 := (hb2.cell (p := ⟨w.heap.size, 2, none⟩) hlt1).trans x2)
      | (go_at_call 33; refine hc.mono ?_; rintro r w3 ⟨va, vb, rfl, rfl, rfl, hg, hend⟩; obtain ⟨g0, g1, g2, g3, -⟩ := blk4 hg; have gf0 := fz4 hg 0; have gf1 := fz4 hg 1; have gf2 := fz4 hg 2; have gf3 := fz4 hg 3))
    obtain ⟨z0, z1, z2, z3, ho1, ho2, hf4, hk4⟩ := hend _ rfl
    refine bodyPost_ret (v := .agg #[.bool false, .int .i64 R.E, .slice none 0 0, .slice none 0 0]) (by simp [results, Tryd.results14, go_sem, z0, z1, z2, z3]) rfl ?_
    exact ⟨_, _, rfl, ho1, ho2, hf4, hk4⟩
  · have hRb : R.b = false := by rw [← hR]; rfl
    have hRE : R.E = 0 := by rw [← hR]; rfl
    have HC : Hid (∀ w2, Below w1.heap.size w1 w2 → Calls Tryd.prog 22 #[.pointer (some ⟨f, 0, none⟩), .int .i64 n] w2 fun r w3 => ∃ va vb, r = .returned (va) ∧ (∃ a n c, va = .slice a n c) ∧ vb = .slice none 0 0 ∧ w3.heap[w.heap.size + 1]? = some (.cells #[.bool false, .int .i64 0, .slice none 0 0, .slice none 0 0] 39 (0, 0)) ∧
        ∀ w4, w4 = ((((w3.setCell ⟨w.heap.size + 1, 0, none⟩ (.bool R.b)).setCell ⟨w.heap.size + 1, 1, none⟩ (.int .i64 R.E)).setCell ⟨w.heap.size + 1, 2, none⟩ va).setCell ⟨w.heap.size + 1, 3, none⟩ vb) →
          w4.cell? ⟨w.heap.size + 1, 0, none⟩ = some (.bool R.b) ∧ w4.cell? ⟨w.heap.size + 1, 1, none⟩ = some (.int .i64 R.E) ∧ w4.cell? ⟨w.heap.size + 1, 2, none⟩ = some va ∧ w4.cell? ⟨w.heap.size + 1, 3, none⟩ = some vb ∧ w4.ownsRow w.heap.size 9 1 va R.P.length (sc R.P) ∧ w4.ownsRow w.heap.size 9 1 vb R.Q.length (sc R.Q) ∧ FIn w4 (fun k => (A k ∨ vb.ownBlock = some k) ∨ va.ownBlock = some k) f e gd R.s.H R.s.L R.s.M ∧ Keep A w w4) := fun w2 hb2 => by
      obtain ⟨hf2, hk2, hs2, hg3, hg4, hl2⟩ := HB2.out w2 hb2
      refine (sc_5 (x := x) (l := l) (ma := ma) (ml := ml) (mc := mc) hf2 HF.out hs hl2 hls HA1.out R hR).mono ?_
      rintro r w3 ⟨va, vb, rfl, o1, o2, hf3, hk3⟩
      have hg := (hk3.block (w.heap.size + 1) (by omega) (.inr (by omega))).trans hg4
      have hQ : R.Q = [] := by rw [← hR]; rfl
      have o2' : w3.ownsRow w2.heap.size 9 1 (.slice none 0 0) R.Q.length (sc R.Q) := by rw [hQ]; exact World.ownsRow_nil _ _ _ _
      have hf3' : FIn w3 (fun k => ((A k ∨ (w.heap.size ≤ k ∧ k < w.heap.size + 2)) ∨ (Value.slice none 0 0).ownBlock = some k) ∨ va.ownBlock = some k) f e gd R.s.H R.s.L R.s.M := hf3.fewer (by
        rintro k ((hk | hk) | hk)
        · exact .inl (.inl hk)
        · cases hk
        · exact .inr hk) (.inl (.inl (.inl A0.out)))
      exact ⟨va, _, rfl, own_form o1, rfl, hg, step_end H0.out A0.out rfl hk2 hs2 o1 o2' hf3' hk3 hg _ _ _ _⟩
    rw [hRb, hRE] at HC ⊢
    have hkd := HKD.out w1
    clear hR hs hls HF HA1 H0 A0 HB2
    go_enter Tryd.func14, Tryd.ntmps14
    go_upto_region 1 with fail
    rw [← hw1]
    clear hw1
    go_wp2_with (first
      | (go_at_call 19; refine hkd.mono ?_; rintro r w2 ⟨rfl, hb2⟩; have hc := HC.out w2 hb2; have b1 := (hb2.cell (p := ⟨w.heap.size, 1, none⟩) hlt1).trans x1)
      | (go_at_call 22; refine hc.mono ?_; rintro r w3 ⟨va, vb, rfl, ⟨a7, n7, c7, rfl⟩, rfl, hg, hend⟩; obtain ⟨g0, g1, g2, g3, -⟩ := blk4 hg; have gf0 := fz4 hg 0; have gf1 := fz4 hg 1; have gf2 := fz4 hg 2; have gf3 := fz4 hg 3))
    obtain ⟨z0, z1, z2, z3, ho1, ho2, hf4, hk4⟩ := hend _ rfl
    refine bodyPost_ret (v := .agg #[.bool false, .int .i64 0, (.slice a7 n7 c7), .slice none 0 0]) (by simp [results, Tryd.results14, go_sem, z0, z1, z2, z3]) rfl ?_
    exact ⟨_, _, rfl, ho1, ho2, hf4, hk4⟩
  · have hRb : True := trivial
    have hRE : R.E = 0 := by rw [← hR]; rfl
    have HC : Hid (∀ w2, Below w1.heap.size w1 w2 → Calls Tryd.prog 38 #[.pointer (some ⟨f, 0, none⟩), .string x] w2 fun r w3 => ∃ va vb, r = .returned (.bool R.b) ∧ va = .slice none 0 0 ∧ vb = .slice none 0 0 ∧ w3.heap[w.heap.size + 1]? = some (.cells #[.bool false, .int .i64 0, .slice none 0 0, .slice none 0 0] 39 (0, 0)) ∧
        ∀ w4, w4 = ((((w3.setCell ⟨w.heap.size + 1, 0, none⟩ (.bool R.b)).setCell ⟨w.heap.size + 1, 1, none⟩ (.int .i64 R.E)).setCell ⟨w.heap.size + 1, 2, none⟩ va).setCell ⟨w.heap.size + 1, 3, none⟩ vb) →
          w4.cell? ⟨w.heap.size + 1, 0, none⟩ = some (.bool R.b) ∧ w4.cell? ⟨w.heap.size + 1, 1, none⟩ = some (.int .i64 R.E) ∧ w4.cell? ⟨w.heap.size + 1, 2, none⟩ = some va ∧ w4.cell? ⟨w.heap.size + 1, 3, none⟩ = some vb ∧ w4.ownsRow w.heap.size 9 1 va R.P.length (sc R.P) ∧ w4.ownsRow w.heap.size 9 1 vb R.Q.length (sc R.Q) ∧ FIn w4 (fun k => (A k ∨ vb.ownBlock = some k) ∨ va.ownBlock = some k) f e gd R.s.H R.s.L R.s.M ∧ Keep A w w4) := fun w2 hb2 => by
      obtain ⟨hf2, hk2, hs2, hg3, hg4, hl2⟩ := HB2.out w2 hb2
      refine (sc_6 (x := x) (l := l) (ma := ma) (ml := ml) (mc := mc) hf2 HF.out hs hl2 hls HA1.out R hR).mono ?_
      rintro r w3 ⟨va, vb, rfl, o1, o2, hf3, hk3⟩
      have hg := (hk3.block (w.heap.size + 1) (by omega) (.inr (by omega))).trans hg4
      have hQ : R.Q = [] := by rw [← hR]; rfl
      have hP : R.P = [] := by rw [← hR]; rfl
      have o1' : w3.ownsRow w2.heap.size 9 1 (.slice none 0 0) R.P.length (sc R.P) := by rw [hP]; exact World.ownsRow_nil _ _ _ _
      have o2' : w3.ownsRow w2.heap.size 9 1 (.slice none 0 0) R.Q.length (sc R.Q) := by rw [hQ]; exact World.ownsRow_nil _ _ _ _
      have hf3' : FIn w3 (fun k => ((A k ∨ (w.heap.size ≤ k ∧ k < w.heap.size + 2)) ∨ (Value.slice none 0 0).ownBlock = some k) ∨ (Value.slice none 0 0).ownBlock = some k) f e gd R.s.H R.s.L R.s.M := hf3.fewer (by
        rintro k ((hk | hk) | hk)
        · exact .inl (.inl hk)
        · cases hk
        · cases hk) (.inl (.inl (.inl A0.out)))
      exact ⟨_, _, rfl, rfl, rfl, hg, step_end H0.out A0.out rfl hk2 hs2 o1' o2' hf3' hk3 hg _ _ _ _⟩
    rw [hRE] at HC ⊢
    have hkd := HKD.out w1
    clear hR hs hls HF HA1 H0 A0 HB2
    go_enter Tryd.func14, Tryd.ntmps14
    go_upto_region 1 with fail
    rw [← hw1]
    clear hw1
    go_wp2_with (first
      | (go_at_call 19; refine hkd.mono ?_; rintro r w2 ⟨rfl, hb2⟩; have hc := HC.out w2 hb2; have b2 := (hb2.cell (p := ⟨w.heap.size, 2, none⟩) hlt1).trans x2)
      | (go_at_call 38; refine hc.mono ?_; rintro r w3 ⟨va, vb, rfl, rfl, rfl, hg, hend⟩; obtain ⟨g0, g1, g2, g3, -⟩ := blk4 hg; have gf0 := fz4 hg 0; have gf1 := fz4 hg 1; have gf2 := fz4 hg 2; have gf3 := fz4 hg 3))
    obtain ⟨z0, z1, z2, z3, ho1, ho2, hf4, hk4⟩ := hend _ rfl
    refine bodyPost_ret (v := .agg #[.bool R.b, .int .i64 0, .slice none 0 0, .slice none 0 0]) (by simp [results, Tryd.results14, go_sem, z0, z1, z2, z3]) rfl ?_
    exact ⟨_, _, rfl, ho1, ho2, hf4, hk4⟩
  · have hRb : True := trivial
    have hRE : R.E = 0 := by rw [← hR]; rfl
    have HC : Hid (∀ w2, Below w1.heap.size w1 w2 → Calls Tryd.prog 30 #[.pointer (some ⟨f, 0, none⟩), .string x] w2 fun r w3 => ∃ va vb, r = .returned (.bool R.b) ∧ va = .slice none 0 0 ∧ vb = .slice none 0 0 ∧ w3.heap[w.heap.size + 1]? = some (.cells #[.bool false, .int .i64 0, .slice none 0 0, .slice none 0 0] 39 (0, 0)) ∧
        ∀ w4, w4 = ((((w3.setCell ⟨w.heap.size + 1, 0, none⟩ (.bool R.b)).setCell ⟨w.heap.size + 1, 1, none⟩ (.int .i64 R.E)).setCell ⟨w.heap.size + 1, 2, none⟩ va).setCell ⟨w.heap.size + 1, 3, none⟩ vb) →
          w4.cell? ⟨w.heap.size + 1, 0, none⟩ = some (.bool R.b) ∧ w4.cell? ⟨w.heap.size + 1, 1, none⟩ = some (.int .i64 R.E) ∧ w4.cell? ⟨w.heap.size + 1, 2, none⟩ = some va ∧ w4.cell? ⟨w.heap.size + 1, 3, none⟩ = some vb ∧ w4.ownsRow w.heap.size 9 1 va R.P.length (sc R.P) ∧ w4.ownsRow w.heap.size 9 1 vb R.Q.length (sc R.Q) ∧ FIn w4 (fun k => (A k ∨ vb.ownBlock = some k) ∨ va.ownBlock = some k) f e gd R.s.H R.s.L R.s.M ∧ Keep A w w4) := fun w2 hb2 => by
      obtain ⟨hf2, hk2, hs2, hg3, hg4, hl2⟩ := HB2.out w2 hb2
      refine (sc_7 (x := x) (l := l) (ma := ma) (ml := ml) (mc := mc) hf2 HF.out hs hl2 hls HA1.out R hR).mono ?_
      rintro r w3 ⟨va, vb, rfl, o1, o2, hf3, hk3⟩
      have hg := (hk3.block (w.heap.size + 1) (by omega) (.inr (by omega))).trans hg4
      have hQ : R.Q = [] := by rw [← hR]; rfl
      have hP : R.P = [] := by rw [← hR]; rfl
      have o1' : w3.ownsRow w2.heap.size 9 1 (.slice none 0 0) R.P.length (sc R.P) := by rw [hP]; exact World.ownsRow_nil _ _ _ _
      have o2' : w3.ownsRow w2.heap.size 9 1 (.slice none 0 0) R.Q.length (sc R.Q) := by rw [hQ]; exact World.ownsRow_nil _ _ _ _
      have hf3' : FIn w3 (fun k => ((A k ∨ (w.heap.size ≤ k ∧ k < w.heap.size + 2)) ∨ (Value.slice none 0 0).ownBlock = some k) ∨ (Value.slice none 0 0).ownBlock = some k) f e gd R.s.H R.s.L R.s.M := hf3.fewer (by
        rintro k ((hk | hk) | hk)
        · exact .inl (.inl hk)
        · cases hk
        · cases hk) (.inl (.inl (.inl A0.out)))
      exact ⟨_, _, rfl, rfl, rfl, hg, step_end H0.out A0.out rfl hk2 hs2 o1' o2' hf3' hk3 hg _ _ _ _⟩
    rw [hRE] at HC ⊢
    have hkd := HKD.out w1
    clear hR hs hls HF HA1 H0 A0 HB2
    go_enter Tryd.func14, Tryd.ntmps14
    go_upto_region 1 with fail
    rw [← hw1]
    clear hw1
    go_wp2_with (first
      | (go_at_call 19; refine hkd.mono ?_; rintro r w2 ⟨rfl, hb2⟩; have hc := HC.out w2 hb2; have b2 := (hb2.cell (p := ⟨w.heap.size, 2, none⟩) hlt1).trans x2)
      | (go_at_call 30; refine hc.mono ?_; rintro r w3 ⟨va, vb, rfl, rfl, rfl, hg, hend⟩; obtain ⟨g0, g1, g2, g3, -⟩ := blk4 hg; have gf0 := fz4 hg 0; have gf1 := fz4 hg 1; have gf2 := fz4 hg 2; have gf3 := fz4 hg 3))
    obtain ⟨z0, z1, z2, z3, ho1, ho2, hf4, hk4⟩ := hend _ rfl
    refine bodyPost_ret (v := .agg #[.bool R.b, .int .i64 0, .slice none 0 0, .slice none 0 0]) (by simp [results, Tryd.results14, go_sem, z0, z1, z2, z3]) rfl ?_
    exact ⟨_, _, rfl, ho1, ho2, hf4, hk4⟩
end Go.Proofs.YtmlkpfkeeifgeaaDoor
