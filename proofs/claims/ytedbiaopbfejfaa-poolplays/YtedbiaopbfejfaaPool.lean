/-
  A pool in memory: its map and its channel of tokens; how it lasts; what Len, Room, Is and takeRoom do, each as a contract, of nil too. Conditions: the pool lies where it is said to lie; ids are ints.
-/
import Derived.Test.YtedbiaopbfejfaaPure
import Derived.Deep.CutRange
import Derived.Deep.CutBlock
namespace Go.Proofs.Ytedbiaopbfejfaa
open Go.ChangeShapes Go.WideShapes Go.ChangeAt Go.RowKit Go.Maps

theorem zero63 (w : World) : (zeroValue 63).run Try.prog w = .ok (cv (0, 0)) w := by kernel_rfl

/-- A pool's blocks lie at g: its map, its tokens; none of its blocks is one of A. -/
structure PIn (w : World) (A : Nat → Prop) (g R m : Nat) (s : St) (K : Nat) : Prop where
  ex : ∃ gm gc sn rn D cn, w.heap[g]? = some (.cells #[.map (some gm), .chan (some gc)] 59 (0, 0)) ∧ w.heap[gc]? = some (.chan R (Array.replicate m tok) false sn rn false) ∧
    w.ownsMap Try.prog 3 connElem gm s.ids.length D ∧ Tells D s cn K ∧ ¬ A gm ∧ ¬ A gc
  gout : ¬ A g
  guard : ∀ k, A k → k < w.heap.size

/-- A pool lies at block g: its room, its connections; none of its blocks is one of A. -/
structure PAt (w : World) (A : Nat → Prop) (g R : Nat) (s : St) (K : Nat) : Prop where
  q : PIn w A g R (R - s.ids.length) s K
  le : s.ids.length ≤ R
  max : R ≤ 8

theorem map_block {w w' : World} {gm n : Nat} {D : DataW Unit} (h : w.ownsMap Try.prog 3 connElem gm n D) (hb : w'.heap[gm]? = w.heap[gm]?) : w'.ownsMap Try.prog 3 connElem gm n D := by
  obtain ⟨es, cl, h3, r⟩ := h
  exact ⟨es, cl, hb.trans h3, r⟩
theorem map_tight {w : World} {gm n : Nat} {D : DataW Unit} (h : w.ownsMap Try.prog 3 connElem gm n D) : w.ownsMap Try.prog 3 connElem gm (Maps.size D) D := by
  obtain ⟨es, cl, h1, h2, h3, rfl⟩ := h
  exact ⟨es, cl, h1, h2, by simp [Maps.size, length_sorted], rfl⟩
theorem map_ne_cells {w : World} {gm n g : Nat} {D : DataW Unit} {cs : Array Value} {t : TypeId} {f : Nat × Nat} (h : w.ownsMap Try.prog 3 connElem gm n D) (hg : w.heap[g]? = some (.cells cs t f)) : gm ≠ g := by
  obtain ⟨es, cl, h3, _⟩ := h
  intro e
  rw [e, hg] at h3
  simp at h3
theorem map_ne_chan {w : World} {gm n g a b c : Nat} {D : DataW Unit} {cs : Array Value} {t : Bool} {u : Bool} (h : w.ownsMap Try.prog 3 connElem gm n D) (hg : w.heap[g]? = some (.chan a cs t b c u)) : gm ≠ g := by
  obtain ⟨es, cl, h3, _⟩ := h
  intro e
  rw [e, hg] at h3
  simp at h3

section
variable {w w' : World} {A B : Nat → Prop} {g R m : Nat} {s : St} {K : Nat}
theorem PIn.lt (h : PIn w A g R m s K) : g < w.heap.size := by
  obtain ⟨gm, gc, sn, rn, D, cn, hb, _⟩ := h.ex
  exact (blk2 hb).2.2
theorem PIn.inv (h : PIn w A g R m s K) : ∃ cn, Inv s cn K := by
  obtain ⟨gm, gc, sn, rn, D, cn, _, _, _, ht, _⟩ := h.ex
  exact ⟨cn, ht.inv⟩
theorem PIn.drewN (h : PIn w A g R m s K) (q : Nat) : PIn (w.drewN q) A g R m s K := by
  obtain ⟨gm, gc, sn, rn, D, cn, hb, hc, hm, r⟩ := h.ex
  exact ⟨⟨gm, gc, sn, rn, D, cn, hb, hc, map_block hm rfl, r⟩, h.gout, h.guard⟩
theorem PIn.keep (h : PIn w A g R m s K) (hk : Keep (fun k => ¬ A k) w w') (hB : ∀ k, B k → A k ∨ w.heap.size ≤ k) (hs : ∀ k, B k → k < w'.heap.size) : PIn w' B g R m s K := by
  have hl := h.lt
  obtain ⟨gm, gc, sn, rn, D, cn, hb, hc, hm, ht, hA1, hA2⟩ := h.ex
  have hml := hm.lt
  have hcl := lt_of_heap hc
  refine ⟨⟨gm, gc, sn, rn, D, cn, by rw [hk.block g hl h.gout]; exact hb, by rw [hk.block gc hcl hA2]; exact hc, map_block hm (hk.block gm hml hA1), ht, fun e => ?_, fun e => ?_⟩, fun e => ?_, hs⟩
  · rcases hB _ e with h1 | h1
    · exact hA1 h1
    · omega
  · rcases hB _ e with h1 | h1
    · exact hA2 h1
    · omega
  · rcases hB _ e with h1 | h1
    · exact h.gout h1
    · omega
theorem PAt.lt (h : PAt w A g R s K) : g < w.heap.size := h.q.lt
theorem PAt.drewN (h : PAt w A g R s K) (q : Nat) : PAt (w.drewN q) A g R s K := ⟨h.q.drewN q, h.le, h.max⟩
theorem PAt.keep (h : PAt w A g R s K) (hk : Keep (fun k => ¬ A k) w w') (hB : ∀ k, B k → A k ∨ w.heap.size ≤ k) (hs : ∀ k, B k → k < w'.heap.size) : PAt w' B g R s K := ⟨h.q.keep hk hB hs, h.le, h.max⟩
theorem PAt.below (h : PAt w A g R s K) (hb : Below w.heap.size w w') : PAt w' (fun k => A k ∨ (w.heap.size ≤ k ∧ k < w'.heap.size)) g R s K :=
  h.keep (keep_below hb) (fun _ hk => hk.imp id (fun h => h.1)) (fun k hk => by
    rcases hk with h5 | h5
    · exact Nat.lt_of_lt_of_le (h.q.guard k h5) hb.size
    · exact h5.2)
theorem PAt.belowS (h : PAt w A g R s K) (hb : Below w.heap.size w w') : PAt w' A g R s K :=
  h.keep (keep_below hb) (fun _ hk => .inl hk) (fun k hk => Nat.lt_of_lt_of_le (h.q.guard k hk) hb.size)
theorem PAt.fewer (h : PAt w A g R s K) (hB : ∀ k, B k → A k) : PAt w B g R s K :=
  h.keep (Keep.refl _ w) (fun k hk => .inl (hB k hk)) (fun k hk => h.q.guard k (hB k hk))

end

/-- How a key is asked. -/
theorem map_look {w : World} {gm n : Nat} {D : DataW Unit} {s : St} {cn : Int → Int × Int} {K : Nat} (hm : w.ownsMap Try.prog 3 connElem gm n D) (ht : Tells D s cn K) {x : Int} (hx : Wf x) :
    ∃ a b, (Instr.lookup 56 (.map (some gm)) (.int .i64 x) true).run Try.prog w = .ok (.tuple #[.agg #[.int .i64 a, .int .i64 b], .bool (decide (x ∈ s.ids))]) w := by
  obtain ⟨v, ps, hrun, hv⟩ := hm.look_ok keyed3 Try.underlying56 (zero63 w) (connElem_mk (0, 0)) (keyOf3 hx)
  obtain ⟨p, rfl, _⟩ := connElem_inv hv
  rw [ht.hasB] at hrun
  exact ⟨p.1, p.2, hrun⟩
theorem map_at {w : World} {gm n : Nat} {D : DataW Unit} {s : St} {cn : Int → Int × Int} {K : Nat} (hm : w.ownsMap Try.prog 3 connElem gm n D) (ht : Tells D s cn K) {x : Int} (hx : x ∈ s.ids) :
    (Instr.lookup 56 (.map (some gm)) (.int .i64 x) false).run Try.prog w = .ok (.agg #[.int .i64 (cn x).1, .int .i64 (cn x).2]) w := by
  obtain ⟨v, ps, hrun, hv⟩ := hm.lookup keyed3 Try.underlying56 (zero63 w) (connElem_mk (0, 0)) (keyOf3 (ht.inv.wf x hx))
  obtain ⟨p, rfl, hp⟩ := connElem_inv hv
  rw [(ht.has x hx).2] at hp
  have : cn x = p := cd_inj (congrArg Prod.fst hp)
  rw [this]
  exact hrun

theorem len_nil (w : World) : Calls Try.prog 23 #[.pointer none] w fun e w' => e = .returned (.int .i64 0) ∧ w' = w := by
  go_enter Try.func23, Try.ntmps23
  go_wp2
  go_ret
  exact ⟨rfl, rfl⟩
theorem room_nil (w : World) : Calls Try.prog 25 #[.pointer none] w fun e w' => e = .returned (.int .i64 0) ∧ w' = w := by
  go_enter Try.func25, Try.ntmps25
  go_wp2
  go_ret
  exact ⟨rfl, rfl⟩
theorem is_nil (x : Int) (w : World) : Calls Try.prog 26 #[.pointer none, .int .i64 x] w fun e w' => e = .returned (.bool false) ∧ w' = w := by
  go_enter Try.func26, Try.ntmps26
  go_wp2
  go_ret
  exact ⟨rfl, rfl⟩

section
variable {w : World} {A : Nat → Prop} {g R m : Nat} {s : St} {K : Nat}
theorem len_w (h : PAt w A g R s K) : Calls Try.prog 23 #[.pointer (some ⟨g, 0, none⟩)] w fun e w' => e = .returned (.int .i64 s.ids.length) ∧ w' = w := by
  obtain ⟨gm, gc, sn, rn, D, cn, hb, hc, hm, ht, _⟩ := h.q.ex
  obtain ⟨c0, c1, hl⟩ := blk2 hb
  have hlen := fun ty => hm.len Try.underlying56 ty
  rw [ht.size] at hlen
  generalize s.ids.length = n at *
  clear hb h hc hm ht
  go_enter Try.func23, Try.ntmps23
  go_wp2
  go_ret
  exact ⟨rfl, rfl⟩

theorem room_w (h : PAt w A g R s K) (n : Nat) (hn : R - s.ids.length = n) : Calls Try.prog 25 #[.pointer (some ⟨g, 0, none⟩)] w fun e w' => e = .returned (.int .i64 n) ∧ w' = w := by
  obtain ⟨gm, gc, sn, rn, D, cn, hb, hc, hm, ht, _⟩ := h.q.ex
  obtain ⟨c0, c1, hl⟩ := blk2 hb
  rw [hn] at hc
  have hlen := fun ty => Conc.run_len_chan (P := Try.prog) 57 ty Try.underlying57 hc
  rw [Array.size_replicate] at hlen
  clear hb h hc hm ht hn
  go_enter Try.func25, Try.ntmps25
  go_wp2
  go_ret
  exact ⟨rfl, rfl⟩

theorem is_q (h : PIn w A g R m s K) (x : Int) (hx : Wf x) (b : Bool) (hbb : decide (x ∈ s.ids) = b) : Calls Try.prog 26 #[.pointer (some ⟨g, 0, none⟩), .int .i64 x] w fun e w' => e = .returned (.bool b) ∧ Below w.heap.size w w' := by
  obtain ⟨gm, gc, sn, rn, D, cn, hb, hc, hm, ht, _⟩ := h.ex
  obtain ⟨c0, c1, hl⟩ := blk2 hb
  obtain ⟨a, b2, hlook⟩ := map_look hm ht hx
  rw [hbb] at hlook
  clear hb h hc hm ht hbb
  go_enter Try.func26, Try.ntmps26
  go_wp2
  go_ret
  exact ⟨rfl, (Below.refl _ w).alloc (Nat.le_refl _) _⟩
theorem is_w (h : PAt w A g R s K) (x : Int) (hx : Wf x) (b : Bool) (hbb : decide (x ∈ s.ids) = b) : Calls Try.prog 26 #[.pointer (some ⟨g, 0, none⟩), .int .i64 x] w fun e w' => e = .returned (.bool b) ∧ Below w.heap.size w w' := is_q h.q x hx b hbb

set_option maxRecDepth 100000 in
theorem takeRoom_some (h : PIn w A g R (m + 1) s K) :
    Calls Try.prog 38 #[.pointer (some ⟨g, 0, none⟩)] w fun e w' => e = .returned (.bool true) ∧ PIn w' A g R m s K ∧ Keep A w w' := by
  obtain ⟨gm, gc, sn, rn, D, cn, hb, hc, hm, ht, hA1, hA2⟩ := h.ex
  obtain ⟨c0, c1, hl⟩ := blk2 hb
  have hcl := lt_of_heap hc
  have hne : gc ≠ g := fun e => by rw [e, hb] at hc; simp at hc
  have hnm : gc ≠ gm := fun e => map_ne_chan hm hc e.symm
  have HP : Hid (PIn (w.setChan gc R (Array.replicate m tok) false sn (rn + 1) false) A g R m s K ∧ Keep A w (w.setChan gc R (Array.replicate m tok) false sn (rn + 1) false)) :=
    ⟨⟨⟨gm, gc, sn, rn + 1, D, cn, by rw [setChan_other _ _ _ _ _ _ _ _ _ hne]; exact hb, Conc.heap_setChan _ _ _ _ _ _ _ _ hcl, map_block hm (setChan_other _ _ _ _ _ _ _ _ _ hnm), ht, hA1, hA2⟩, h.gout, fun k hk => by rw [Conc.size_setChan]; exact h.guard k hk⟩, (Keep.refl A w).setChan hA2 _ _ _ _ _ _⟩
  clear hb h hm ht
  go_enter Try.func38, Try.ntmps38
  go_upto_region 2 with fail
  refine wp_of_reg (fun b k cs => ?_)
  refine Reg.sel_recv (c := gc) (z := tok) (w₁ := w) rfl rfl (by simp [go_sem, execOp, Conc.rcase, Act.eval, tok]) hc (by simp) ?_
  rw [rep_extract]
  refine Reg.op rfl rfl (fun K hK => ?_)
  go_simp
  refine hK _ _ ?_
  clear hK K
  refine Reg.op rfl rfl (fun K hK => ?_)
  go_simp
  refine hK _ _ ?_
  clear hK K
  refine Reg.done ?_
  go_wp2
  go_ret
  exact ⟨rfl, HP.out.1, HP.out.2⟩

set_option maxRecDepth 100000 in
theorem takeRoom_none (h : PIn w A g R 0 s K) :
    Calls Try.prog 38 #[.pointer (some ⟨g, 0, none⟩)] w fun e w' => e = .returned (.bool false) ∧ w' = w := by
  obtain ⟨gm, gc, sn, rn, D, cn, hb, hc, hm, ht, hA1, hA2⟩ := h.ex
  obtain ⟨c0, c1, hl⟩ := blk2 hb
  rw [Array.replicate_zero] at hc
  clear hb h hm ht
  go_enter Try.func38, Try.ntmps38
  go_upto_region 2 with fail
  refine wp_of_reg (fun b k cs => ?_)
  refine Reg.sel_none (c := gc) (z := tok) (w₁ := w) rfl rfl (by simp [go_sem, execOp, Conc.rcase, Act.eval, tok]) hc ?_
  refine Reg.op rfl rfl (fun K hK => ?_)
  go_simp
  refine hK _ _ ?_
  clear hK K
  refine Reg.op rfl rfl (fun K hK => ?_)
  go_simp
  refine hK _ _ ?_
  clear hK K
  refine Reg.done ?_
  go_wp2
  go_ret
  exact ⟨rfl, rfl⟩
end

end Go.Proofs.Ytedbiaopbfejfaa
