/-
  The pool and the document's pool beside it: where both lie, and how they last while one or the other is worked on. No conditions.
-/
import Derived.Test.YtedbiaopbfejfaaRefG
import Derived.Test.YtedbiaopbfejfaaRefT
import Derived.Test.YtedbiaopbfejfaaRefD
import Derived.Test.YtedbiaopbfejfaaRefK
import Derived.Test.YtedbiaopbfejfaaRefS
namespace Go.Proofs.Ytedbiaopbfejfaa
open Go.ChangeShapes Go.WideShapes Go.ChangeAt Go.RowKit Go.Maps

/-- The pool at g is s; the document's, in the law's block b, is u; what was there ahead of w1 is as it was. -/
structure PS (w1 wr : World) (g b R : Nat) (s u : St) (K : Nat) (v0 v1 v2 : Value) : Prop where
  q : ∃ A, PAt wr A g R s K ∧ ∀ k, k < w1.heap.size → A k
  blk : wr.heap[b]? = some (.cells #[.int .i64 (R : Int), v0, v1, v2] 28 (0, 0))
  rv : Rv wr v0 v1 v2 u
  hb : w1.heap.size ≤ b
  keep : Keep (fun k => k < w1.heap.size) w1 wr

section
variable {w1 wr w' : World} {g b R K : Nat} {s u : St} {v0 v1 v2 : Value}
theorem PS.same (h : PS w1 wr g b R s u K v0 v1 v2) (hb : Below wr.heap.size wr w') : PS w1 w' g b R s u K v0 v1 v2 := by
  obtain ⟨A, hq, hA⟩ := h.q
  exact ⟨⟨A, hq.belowS hb, hA⟩, (hb.block b (lt_of_heap h.blk)).trans h.blk, h.rv.below hb, h.hb, h.keep.trans (keep_below hb)⟩
theorem PS.upg (h : PS w1 wr g b R s u K v0 v1 v2) : ∃ A, PAt wr A g R s K ∧ A b ∧ (∀ w' s2 K2, PAt w' A g R s2 K2 → Keep A wr w' → PS w1 w' g b R s2 u K2 v0 v1 v2) := by
  obtain ⟨A0, hq, hA0⟩ := h.q
  obtain ⟨gm, gc, sn, rn, D, cn, hg, hc, hm, ht, hn1, hn2⟩ := hq.q.ex
  have hcell : ∀ k cs t, wr.heap[k]? = some (.cells cs t (0, 0)) → t ≠ 59 → k < wr.heap.size ∧ k ≠ g ∧ k ≠ gm ∧ k ≠ gc := by
    intro k cs t hk htt
    refine ⟨lt_of_heap hk, fun e => ?_, fun e => (map_ne_cells hm (e ▸ hk)) rfl, fun e => ?_⟩
    · rw [e, hg] at hk
      simp at hk
      exact htt hk.2.symm
    · rw [e, hc] at hk
      simp at hk
  have hown : ∀ v zs, Own wr v zs → ∀ k, v.ownBlock = some k → k < wr.heap.size ∧ k ≠ g ∧ k ≠ gm ∧ k ≠ gc := by
    intro v zs ho k hk
    rcases ho.2 with ⟨rfl, _⟩ | ⟨x, cap, cur, rfl, _, hx, _⟩
    · simp [Value.ownBlock] at hk
    · have : x = k := by simpa [Value.ownBlock] using hk
      subst this
      exact hcell x _ 3 hx (by decide)
  have hlow : ∀ k, k < w1.heap.size → k < wr.heap.size ∧ k ≠ g ∧ k ≠ gm ∧ k ≠ gc := fun k hk => by
    have := hA0 k hk
    exact ⟨hq.q.guard k this, fun e => hq.q.gout (e ▸ this), fun e => hn1 (e ▸ this), fun e => hn2 (e ▸ this)⟩
  have hb2 := hcell b _ 28 h.blk (by decide)
  refine ⟨fun k => k < wr.heap.size ∧ k ≠ g ∧ k ≠ gm ∧ k ≠ gc, ⟨⟨⟨gm, gc, sn, rn, D, cn, hg, hc, hm, ht, fun e => e.2.2.1 rfl, fun e => e.2.2.2 rfl⟩, fun e => e.2.1 rfl, fun k hk => hk.1⟩, hq.le, hq.max⟩, hb2, fun w' s2 K2 hp hk => ?_⟩
  exact ⟨⟨_, hp, hlow⟩, (hk.block b hb2.1 hb2).trans h.blk, ⟨owns_keep h.rv.m hk (hown _ _ h.rv.m), owns_keep h.rv.i hk (hown _ _ h.rv.i), owns_keep h.rv.b hk (hown _ _ h.rv.b)⟩, h.hb, h.keep.trans (hk.mono fun k _ hk => hlow k hk)⟩
theorem PS.put (h : PS w1 wr g b R s u K v0 v1 v2) {u2 : St} {x0 x1 x2 : Value} (hr : Rv wr x0 x1 x2 u2) : PS w1 (put4 wr b (.int .i64 (R : Int)) x0 x1 x2) g b R s u2 K x0 x1 x2 := by
  obtain ⟨A, hq, hAb, _⟩ := h.upg
  obtain ⟨A0, hq0, hA0⟩ := h.q
  have hk := put4_keep wr b (.int .i64 (R : Int)) x0 x1 x2
  have hb := h.hb
  have hbl : ¬ A0 b ∨ A0 b := by
    by_cases e : A0 b
    · exact .inr e
    · exact .inl e
  refine ⟨⟨fun k => k < w1.heap.size, ?_, fun k hk => hk⟩, put4_at h.blk _ _ _ _, hr.keepNe h.blk (by decide) hk, h.hb, h.keep.trans (hk.mono fun k _ hk => by omega)⟩
  obtain ⟨gm, gc, sn, rn, D, cn, hg, hc, hm, ht, hn1, hn2⟩ := hq.q.ex
  have e1 : g ≠ b := fun e => hq.q.gout (e ▸ hAb)
  have e2 : gm ≠ b := fun e => hn1 (e ▸ hAb)
  have e3 : gc ≠ b := fun e => hn2 (e ▸ hAb)
  obtain ⟨gm', gc', sn', rn', D', cn', hg', hc', hm', ht', hn1', hn2'⟩ := hq0.q.ex
  rw [hg] at hg'
  simp at hg'
  obtain ⟨rfl, rfl⟩ := hg'
  have _ := hbl
  refine ⟨⟨⟨gm, gc, sn, rn, D, cn, (hk.block g (lt_of_heap hg) e1).trans hg, (hk.block gc (lt_of_heap hc) e3).trans hc, map_block hm (hk.block gm hm.lt e2), ht, fun e => hn1' (hA0 _ e), fun e => hn2' (hA0 _ e)⟩, fun e => hq0.q.gout (hA0 _ e), fun k hk2 => ?_⟩, hq.le, hq.max⟩
  have := hk.size
  have := hq0.q.guard k (hA0 k hk2)
  omega
end

/-- What holds all through the look at both. -/
structure LP (w1 wx : World) (g b R : Nat) (s : St) (K : Nat) (v0 v1 v2 : Value) (w' : World) : Prop where
  ps : PS w1 w' g b R s s K v0 v1 v2
  bel : Below wx.heap.size wx w'
section
variable {w1 wx w' w'' : World} {g b R K : Nat} {s : St} {v0 v1 v2 : Value}
theorem lp_step (h : LP w1 wx g b R s K v0 v1 v2 w') (hb : Below w'.heap.size w' w'') :
    w''.cell? ⟨b, 0, none⟩ = some (.int .i64 (R : Int)) ∧ w''.cell? ⟨b, 1, none⟩ = some v0 ∧ w''.cell? ⟨b, 2, none⟩ = some v1 ∧ w''.cell? ⟨b, 3, none⟩ = some v2 ∧ LP w1 wx g b R s K v0 v1 v2 w'' := by
  have h1 := h.ps.same hb
  obtain ⟨p0, p1, p2, p3, _⟩ := blk4 h1.blk
  exact ⟨p0, p1, p2, p3, h1, below_trans h.bel hb⟩
theorem lp_of (h : w'.cell? ⟨b, 0, none⟩ = some (.int .i64 (R : Int)) ∧ w'.cell? ⟨b, 1, none⟩ = some v0 ∧ w'.cell? ⟨b, 2, none⟩ = some v1 ∧ w'.cell? ⟨b, 3, none⟩ = some v2 ∧ LP w1 wx g b R s K v0 v1 v2 w') : LP w1 wx g b R s K v0 v1 v2 w' := h.2.2.2.2

theorem LP.len (h : LP w1 wx g b R s K v0 v1 v2 w') (n : Nat) (hn : s.ids.length = n) : Calls Try.prog 23 #[.pointer (some ⟨g, 0, none⟩)] w' fun e w'' => e = .returned (.int .i64 n) ∧ w'' = w' := by
  obtain ⟨A, hq, _⟩ := h.ps.q
  have := len_w hq
  rw [hn] at this
  exact this
theorem LP.rlen (h : LP w1 wx g b R s K v0 v1 v2 w') (n : Nat) (hn : s.ids.length = n) (h8 : n ≤ 8) : Calls Try.prog 24 #[.agg #[.int .i64 (R : Int), v0, v1, v2]] w' fun e w'' => e = .returned (.int .i64 n) ∧ Below w'.heap.size w' w'' := rlen_any R h.ps.rv (by omega) n hn
theorem LP.room (h : LP w1 wx g b R s K v0 v1 v2 w') (d : Nat) (hd : R - s.ids.length = d) : Calls Try.prog 25 #[.pointer (some ⟨g, 0, none⟩)] w' fun e w'' => e = .returned (.int .i64 d) ∧ w'' = w' := by
  obtain ⟨A, hq, _⟩ := h.ps.q
  exact room_w hq d hd
theorem LP.is (h : LP w1 wx g b R s K v0 v1 v2 w') (x : Int) (hx : Wf x) (bx : Bool) (hb : decide (x ∈ s.ids) = bx) : Calls Try.prog 26 #[.pointer (some ⟨g, 0, none⟩), .int .i64 x] w' fun e w'' => e = .returned (.bool bx) ∧ Below w'.heap.size w' w'' := by
  obtain ⟨A, hq, _⟩ := h.ps.q
  exact is_w hq x hx bx hb
theorem LP.ris (h : LP w1 wx g b R s K v0 v1 v2 w') (x : Int) (bx : Bool) (hb : decide (x ∈ s.ids) = bx) : Calls Try.prog 27 #[.agg #[.int .i64 (R : Int), v0, v1, v2], .int .i64 x] w' fun e w'' => e = .returned (.bool bx) ∧ Below w'.heap.size w' w'' := ris_any R x h.ps.rv bx hb
theorem LP.making (h : LP w1 wx g b R s K v0 v1 v2 w') (n : Nat) (hn : s.M.length = n) : Calls Try.prog 29 #[.pointer (some ⟨g, 0, none⟩)] w' fun e w'' => ∃ a c, e = .returned (.slice a n c) ∧ IntsAt w'' a n c (srt s.M) ∧ Below w'.heap.size w' w'' := by
  obtain ⟨A, hq, _⟩ := h.ps.q
  have hl : (srt s.M).length = n := by rw [srt_length]; exact hn
  exact (making_n hq _ rfl hl).mono fun e w'' ⟨a, c, h1, h2, h3⟩ => ⟨a, c, h1, h2.rdn hl, h3⟩
theorem LP.busy (h : LP w1 wx g b R s K v0 v1 v2 w') (n : Nat) (hn : s.B.length = n) : Calls Try.prog 32 #[.pointer (some ⟨g, 0, none⟩)] w' fun e w'' => ∃ a c, e = .returned (.slice a n c) ∧ IntsAt w'' a n c (srt s.B) ∧ Below w'.heap.size w' w'' := by
  obtain ⟨A, hq, _⟩ := h.ps.q
  have hl : (srt s.B).length = n := by rw [srt_length]; exact hn
  exact (busy_n hq _ rfl hl).mono fun e w'' ⟨a, c, h1, h2, h3⟩ => ⟨a, c, h1, h2.rdn hl, h3⟩
theorem LP.all (h : LP w1 wx g b R s K v0 v1 v2 w') (n : Nat) (hn : s.ids.length = n) : Calls Try.prog 33 #[.pointer (some ⟨g, 0, none⟩)] w' fun e w'' => ∃ a c, e = .returned (.slice a n c) ∧ IntsAt w'' a n c (srt s.ids) ∧ Below w'.heap.size w' w'' := by
  obtain ⟨A, hq, _⟩ := h.ps.q
  have hl : (srt s.ids).length = n := by rw [srt_length]; exact hn
  exact (all_n hq _ rfl hl).mono fun e w'' ⟨a, c, h1, h2, h3⟩ => ⟨a, c, h1, h2.rdn hl, h3⟩
theorem LP.idle (h : LP w1 wx g b R s K v0 v1 v2 w') (n : Nat) (hn : s.I.length = n) : Calls Try.prog 31 #[.pointer (some ⟨g, 0, none⟩)] w' fun e w'' => ∃ a c, e = .returned (.slice a n c) ∧ IntsAt w'' a n c s.I ∧ Below w'.heap.size w' w'' := by
  obtain ⟨A, hq, _⟩ := h.ps.q
  exact (idle_n hq _ rfl hn).mono fun e w'' ⟨a, c, h1, h2, h3⟩ => ⟨a, c, h1, h2.rdn hn, h3⟩
theorem LP.rall (h : LP w1 wx g b R s K v0 v1 v2 w') (n : Nat) (hn : s.ids.length = n) (h8 : n ≤ 8) : Calls Try.prog 34 #[.agg #[.int .i64 (R : Int), v0, v1, v2]] w' fun e w'' => ∃ a c, e = .returned (.slice a n c) ∧ IntsAt w'' a n c (srt s.ids) ∧ Below w'.heap.size w' w'' := rall_any R h.ps.rv (by omega) n hn
theorem sorted_n (w : World) (a : Option Addr) (n c : Nat) (zs : List Int) (h : IntsAt w a n c zs) (h8 : n ≤ 100) : Calls Try.prog 30 #[.slice a n c] w fun e w' => ∃ a c, e = .returned (.slice a n c) ∧ IntsAt w' a n c (srt zs) ∧ Below w.heap.size w w' := by
  refine (rsorted_any w a n c zs h h8).mono ?_
  rintro e w' ⟨v, rfl, ho, hb⟩
  obtain ⟨a2, c2, e2, i2, _⟩ := owns_ints ho
  rw [e2]
  exact ⟨a2, c2, rfl, i2, hb⟩
theorem Own.ints {w : World} {a : Option Addr} {n c : Nat} {zs : List Int} (h : Own w (.slice a n c) zs) (hn : zs.length = n) : IntsAt w a n c zs := by
  obtain ⟨a2, c2, e, h1, _⟩ := h.openN n hn
  cases e
  exact h1
end

end Go.Proofs.Ytedbiaopbfejfaa
