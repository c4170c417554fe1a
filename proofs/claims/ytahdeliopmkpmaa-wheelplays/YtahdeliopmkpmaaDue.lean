/-
  What Due does: it takes out the entries that are due, and tells their keys, rising. Conditions: the wheel lies where it is said to lie.
-/
import Derived.Test.YtahdeliopmkpmaaSet
import Derived.Test.YtahdeliopmkpmaaShelf
import Derived.Sort.OwnSortedInts
import Derived.Deep.RegionLaw
namespace Go.Proofs.Ytahdeliopmkpmaa
open Go.ChangeShapes Go.WideShapes Go.ChangeAt Go.RowKit Go.Maps

/-- Ints as cells. -/
def ic (zs : List Int) : List Value := zs.map (Value.int .i64)
theorem ic_length (zs : List Int) : (ic zs).length = zs.length := by simp [ic]
def srt (zs : List Int) : List Int := zs.mergeSort fun x y => decide (x ≤ y)
theorem srt_length (zs : List Int) : (srt zs).length = zs.length := by simp [srt]

theorem sort_any (w : World) (base : Nat) (v : Value) (zs : List Int) (h : w.ownsRow base 3 1 v zs.length (ic zs)) (hl : zs.length ≤ 1000) :
    Calls Try.prog 39 #[v] w fun e w' => e = .returned (.tuple #[]) ∧ w'.ownsRow base 3 1 v zs.length (ic (srt zs)) ∧ w.grownBy w' v.ownBlock := by
  rcases h.2 with ⟨rfl, h0⟩ | ⟨gk, cap, cur, rfl, hb, hg, h1, h2, h3, h4⟩
  · refine (Try.slices_Sort_int_none none 0 w).mono ?_
    rintro e w' ⟨rfl, rfl⟩
    obtain rfl : zs = [] := List.eq_nil_of_length_eq_zero h0
    exact ⟨rfl, by simpa [srt, ic] using h, World.grownBy.refl _ _⟩
  · rw [Nat.mul_one] at h4
    refine (Try.slices_Sort_int gk 0 cap zs w (Go.holds_of_blockI hg h4) (Array.getElem?_eq_some_iff.1 hg).1 (by omega)).mono ?_
    rintro e w' ⟨rfl, n, os, rfl⟩
    exact ⟨rfl, Go.ownsRow_sortedI (ts := srt zs) (srt_length zs) hb hg h1 h2 h3, Go.grownBy_sortedI _⟩

/-- It lasts while nothing of its own is written. -/
theorem WIn.others {w w' : World} {A : Nat → Prop} {g : Nat} {mv ov : Value} {L : List Ent} (h : WIn w A g mv ov L) (hk : Keep (fun k => ¬ A k) w w') : WIn w' (fun k => A k ∨ (w.heap.size ≤ k ∧ k < w'.heap.size)) g mv ov L := by
  have hl := h.blk.lt
  have hr := h.ord.lt
  have ho := h.ord.last hk (fun k hk' h1 => h.ord.out k hk' (.inl (.inl h1))) (fun i hi h1 => h.ord.eout i hi (.inl (.inl h1)))
  have hml : ∀ gm, mv = .map (some gm) → gm < w.heap.size := fun gm hg => h.moGuard gm (.inr hg)
  have hmA : ∀ gm, mv = .map (some gm) → ¬ A gm := fun gm hg h1 => by
    rcases h.map with ⟨h2, _⟩ | ⟨gm', D, h2, h3, _⟩
    · rw [h2] at hg; simp at hg
    · rw [h2] at hg; simp at hg; subst hg; exact h3 h1
  refine ⟨h.blk.keep hk h.gout, ?_, ho.guard (fun k hk' => ?_) (fun i hi => ?_), ?_, h.wf, h.apart, ?_, h.heap, h.few⟩
  · rintro (h1 | h1)
    · exact h.gout h1
    · omega
  · have h1 := h.ord.out k hk'
    have h2 := hr k hk'
    rintro ((h3 | h3) | h3)
    · rcases h3 with h3 | h3
      · exact h1 (.inl (.inl h3))
      · omega
    · exact h1 (.inl (.inr h3))
    · exact h1 (.inr h3)
  · have h1 := h.ord.eout i hi
    have h2 := (h.ord.ent i hi).lt
    rintro ((h3 | h3) | h3)
    · rcases h3 with h3 | h3
      · exact h1 (.inl (.inl h3))
      · omega
    · exact h1 (.inl (.inr h3))
    · exact h1 (.inr h3)
  · have hm := h.map.keep hk hmA
    rcases hm with hm | ⟨gm, D, h1, h2, h3⟩
    · exact .inl hm
    · refine .inr ⟨gm, D, h1, ?_, h3⟩
      have := hml gm h1
      rintro (h4 | h4)
      · exact h2 h4
      · omega
  · rintro k (h1 | h1)
    · exact Nat.lt_of_lt_of_le (h.guard k h1) hk.size
    · exact h1.2

/-- 'delete' as one step of a region that draws. -/
theorem step_delete {P : Program} {ops : Array Oper} {o : Oper} {a : Act} {w : World} {K : Act → World → Prop} {Q : Exit → Act → World → Prop} {E : Prop}
    (hg : o.guard = none) (m x : Operand) (t k : TypeId) (hop : o.op = Op.call { callee := Callee.builtin Builtin.delete, args := #[m, x], argTypes := #[t, k] })
    (gm : Nat) (key : Value) (hm : a.eval m = .map (some gm)) (hx : a.eval x = key) (w' : World) (ty : TypeId) (hty : o.type = ty) (hrun : (Builtin.delete_ #[t, k] ty #[.map (some gm), key]).run P w = .ok (.tuple #[]) w')
    (hK : K (a.put o.dst (.tuple #[])) w') :
    if Region.wanted o (yielded ops a.tmps) = true then Oper.wp P o a w K Q else E := by
  have hw : Region.wanted o (yielded ops a.tmps) = true := by simp [Region.wanted, hg]
  rw [if_pos hw]
  subst hty
  unfold Oper.wp
  simp [execOp, hop, resolve, invoke, builtin, hm, hx, hrun, Result.andThen]
  exact hK

/-- How many the order has. -/
def ordLen (w : World) (g : Nat) : Nat := match w.cell? ⟨g, 1, none⟩ with | some (.slice _ n _) => n | _ => 0
theorem WIn.ordLen {w : World} {A : Nat → Prop} {g : Nat} {mv ov : Value} {L : List Ent} (h : WIn w A g mv ov L) : ordLen w g = L.length := by
  obtain ⟨a, cap, e⟩ := ov_shape h.ord
  unfold Ytahdeliopmkpmaa.ordLen
  rw [h.blk.c1, e]

theorem past_mono {now a b : Int} (h : a ≤ b) (hp : past now a = false) : past now b = false := by
  unfold past at hp ⊢
  simp at hp ⊢
  have : cut a ≤ cut b := by unfold cut; split <;> split <;> (try split) <;> (try split) <;> omega
  omega

/-- All behind the first are as late. -/
theorem heap_late {L : List Ent} (hh : HeapN L.length L) {now : Int} (hp : past now (nth L 0).a = false) : ∀ e ∈ L, past now e.a = false := by
  intro e he
  obtain ⟨i, hi, rfl⟩ := mem_nth he
  have := hh.first i i (Nat.le_refl _) hi
  refine past_mono ?_ hp
  unfold Ge at this
  omega

/-- The first is taken out, and struck. -/
theorem WIn.popped {w w1 w2 : World} {A : Nat → Prop} {g gm : Nat} {ov : Value} {L : List Ent} {e : Ent} {D : DataW Unit} (h : WIn w A g (.map (some gm)) ov L) (hA : ¬ A gm) (ht : Tells D L) (htidy : Tidy D) (hsz : Maps.size D ≤ L.length)
    (ho : Out (Mo A (.map (some gm))) g (.map (some gm)) L e w w1) (hown : w2.ownsMap Try.prog 3 ptrElem gm L.length (D.del (.int .i64 e.k))) (hk : Keep (fun k => k ≠ gm) w1 w2) :
    ∃ ov2 L2, WIn w2 A g (.map (some gm)) ov2 L2 ∧ (e :: L2).Perm L ∧ Keep A w w2 := by
  obtain ⟨ov2, L2, hb, ho2, hp, hh, _, hk1⟩ := ho
  have hggm : g ≠ gm := fun e1 => h.moG (.inr (by rw [e1]))
  have hap := pairwise_perm h.apart hp
  have hd : ∀ x ∈ L2, x.k ≠ e.k := fun x hx e1 => (List.pairwise_cons.1 hap).1 x hx e1.symm
  have heL : e ∈ L := hp.mem_iff.1 (by simp)
  have hl := hp.length_eq
  simp at hl
  have hk2 : Keep A w w2 := (hk1.mono fun _ _ h3 => .inl h3).trans (hk.mono fun k _ hk' e1 => hA (e1 ▸ hk'))
  have hs := Maps.size_del (k := .int .i64 e.k) htidy
  rw [(ht.has e heL).1] at hs
  simp at hs
  refine ⟨ov2, L2, ⟨hb.keep hk hggm, h.gout, ?_, ?_, fun x hx => h.wf x (hp.mem_iff.1 (by simp [hx])), (List.pairwise_cons.1 hap).2, fun k hk' => Nat.lt_of_lt_of_le (h.guard k hk') hk2.size, hh, by have := h.few; omega⟩, hp, hk2⟩
  · exact ho2.last hk (fun k hk' e1 => ho2.out k hk' (.inl (.inr (by rw [e1])))) (fun i hi e1 => ho2.eout i hi (.inl (.inr (by rw [e1]))))
  · exact .inr ⟨gm, _, rfl, hA, (ownsMap_tight hown).mono (by omega), ht.del hp hd⟩

/-- Behind the heap's Pop. -/
theorem WIn.after {w w1 : World} {A : Nat → Prop} {g gm : Nat} {ov : Value} {L : List Ent} {e : Ent} (h : WIn w A g (.map (some gm)) ov L) (ho : Out (Mo A (.map (some gm))) g (.map (some gm)) L e w w1) :
    w1.cell? ⟨g, 0, none⟩ = some (.map (some gm)) ∧ w1.cell? ⟨e.b, 0, none⟩ = some (.int .i64 e.k) ∧ ∃ w2, (Builtin.delete_ #[58, 3] 0 #[.map (some gm), .int .i64 e.k]).run Try.prog w1.drew = .ok (.tuple #[]) w2 ∧ w2.cell? ⟨e.b, 0, none⟩ = some (.int .i64 e.k) ∧
      ∃ ov2 L2, WIn w2 A g (.map (some gm)) ov2 L2 ∧ (e :: L2).Perm L ∧ Keep A w w2 := by
  obtain ⟨D, hA, hown, htl⟩ : ∃ D, ¬ A gm ∧ w.ownsMap Try.prog 3 ptrElem gm L.length D ∧ Tells D L := by
    rcases h.map with ⟨h1, _⟩ | ⟨gm', D, h1, h2, h3, h4⟩
    · simp at h1
    · simp at h1; subst h1; exact ⟨D, h2, h3, h4⟩
  obtain ⟨ov2, L2, hb, ho2, hp, hh, ⟨p, hep⟩, hk1⟩ := ho
  have heL : e ∈ L := hp.mem_iff.1 (by simp)
  have hown1 : w1.drew.ownsMap Try.prog 3 ptrElem gm L.length D := by
    obtain ⟨es, cl, h3, r⟩ := hown
    exact ⟨es, cl, (hk1.block gm (Array.getElem?_eq_some_iff.1 h3).1 (.inr rfl)).trans h3, r⟩
  obtain ⟨w2, hrun, hown2, htu⟩ := hown1.drop keyed3 Try.underlying58 (keyOf3 (h.wf e heL)) 0
  have hgr := htu.grown
  have hkk : Keep (fun k => k ≠ gm) w1 w2 := keep_grown (A := fun k => k ≠ gm) (w := w1) ⟨hgr.os, hgr.tape, hgr.output, hgr.size, hgr.block⟩ (fun k hk hne => by simp at hk; exact hne hk.symm)
  have hne : e.b ≠ gm := fun e1 => by
    obtain ⟨es, cl, h3, _⟩ := hown1
    have h3' : w1.heap[gm]? = some (.map es cl) := h3
    unfold EntAt at hep
    rw [e1, h3'] at hep; simp at hep
  refine ⟨hb.c0, hep.c0, w2, hrun, (hep.keep hkk hne).c0, h.popped hA htl (hown.tidy keyed3) hown.size_le ⟨ov2, L2, hb, ho2, hp, hh, ⟨p, hep⟩, hk1⟩ hown2 hkk⟩

/-- A, and a slice's own block. -/
def Av (A : Nat → Prop) (v : Value) (k : Nat) : Prop := A k ∨ v.ownBlock = some k

/-- On the way: what is out, what is in. -/
structure Duing (w : World) (A : Nat → Prop) (g : Nat) (mv : Value) (L : List Ent) (now : Int) (v : Value) (wr : World) (ov : Value) (L' Dl : List Ent) : Prop where
  win : WIn wr (Av A v) g mv ov L'
  perm : (Dl ++ L').Perm L
  due : ∀ e ∈ Dl, past now e.a = true
  own : wr.ownsRow w.heap.size 3 1 v Dl.length (ic (Dl.map Ent.k))
  keep : Keep A w wr

theorem info3 : (Try.prog.info? 3).map (fun i => (i.zero, i.size, i.bytes)) = some (some (.int .i64 0), 1, 8) := by kernel_rfl

/-- One more is out. -/
theorem Duing.step {w : World} {A : Nat → Prop} {g : Nat} {mv : Value} {L : List Ent} {now : Int} {v : Value} {wr : World} {ov : Value} {L' Dl : List Ent} (h : Duing w A g mv L now v wr ov L' Dl) (hgd : ∀ k, A k → k < w.heap.size)
    {e : Ent} {w2 : World} {ov2 : Value} {L2 : List Ent} (hp : past now e.a = true) (hw2 : WIn w2 (Av A v) g mv ov2 L2) (hp2 : (e :: L2).Perm L') (hk2 : Keep (Av A v) wr w2)
    {v' : Value} {w3 : World} {o : Obj} (hown : w3.ownsRow w.heap.size 3 1 v' (Dl.length + 1) (ic (Dl.map Ent.k) ++ [.int .i64 e.k])) (hgr : (w2.alloc o).grownBy w3 v.ownBlock) (hloc : v'.ownBlock = v.ownBlock ∨ v'.ownBlock = some (w2.alloc o).heap.size) :
    Duing w A g mv L now v' w3 ov2 L2 (Dl ++ [e]) := by
  have hsz := hgr.size
  have hkk : Keep (fun k => ¬ Av A v k) w2 w3 := ((Keep.refl _ w2).alloc o).trans (keep_grown hgr (fun k hk hn => hn (.inr hk)))
  have hw3 := hw2.others hkk
  have hlt : ∀ k, v'.ownBlock = some k → k < w3.heap.size := fun k hk => (hown.lt k hk).2
  refine ⟨hw3.fewer ?_, ?_, ?_, ?_, ?_⟩
  · rintro k (h1 | h1)
    · exact .inl (.inl h1)
    · rcases hloc with e1 | e1
      · exact .inl (.inr (e1 ▸ h1))
      · rw [e1] at h1
        cases h1
        refine .inr ⟨by simp, hlt _ e1⟩
  · have h1 : ((Dl ++ [e]) ++ L2).Perm (Dl ++ L') := by
      rw [List.append_assoc]
      exact List.Perm.append_left _ hp2
    exact h1.trans h.perm
  · intro x hx
    rcases List.mem_append.1 hx with hx | hx
    · exact h.due x hx
    · simp at hx; subst hx; exact hp
  · have e1 : ic ((Dl ++ [e]).map Ent.k) = ic (Dl.map Ent.k) ++ [.int .i64 e.k] := by simp [ic]
    rw [e1, List.length_append]
    exact hown
  · refine h.keep.trans ((hk2.mono fun _ _ h1 => .inl h1).trans (((Keep.refl _ w2).alloc o).trans (keep_grown hgr (fun k hk hA => ?_))))
    have h1 := (h.own.lt k hk).1
    have := hgd k hA
    omega

theorem owns_keep {w w' : World} {A : Nat → Prop} {base : Nat} {e : TypeId} {size : Nat} {v : Value} {n : Nat} {xs : List Value} (h : w.ownsRow base e size v n xs) (hk : Keep A w w') (hv : ∀ k, v.ownBlock = some k → A k) : w'.ownsRow base e size v n xs := by
  refine ⟨h.1, ?_⟩
  rcases h.2 with hn | ⟨g, cap, cur, rfl, hb, hgg, rest⟩
  · exact .inl hn
  · exact .inr ⟨g, cap, cur, rfl, hb, by rw [hk.block g (Array.getElem?_eq_some_iff.1 hgg).1 (hv g rfl)]; exact hgg, rest⟩

theorem int_one (k : Int) : ∀ u ∈ [Value.int .i64 k], u.oneCell' = true := by
  intro u hu
  simp at hu
  subst hu
  rfl

/-- The keys, sorted. -/
theorem Duing.finish {w : World} {A : Nat → Prop} {g : Nat} {mv : Value} {L : List Ent} {now : Int} {v : Value} {wr : World} {ov : Value} {L' Dl : List Ent} (h : Duing w A g mv L now v wr ov L' Dl) (hgd : ∀ k, A k → k < w.heap.size) (hlate : ∀ e ∈ L', past now e.a = false)
    {w' : World} (hown : w'.ownsRow w.heap.size 3 1 v (Dl.map Ent.k).length (ic (srt (Dl.map Ent.k)))) (hgr : wr.grownBy w' v.ownBlock) :
    ∃ ov' L' Dl, WIn w' (Av A v) g mv ov' L' ∧ (Dl ++ L').Perm L ∧ (∀ e ∈ Dl, past now e.a = true) ∧ (∀ e ∈ L', past now e.a = false) ∧ w'.ownsRow w.heap.size 3 1 v Dl.length (ic (srt (Dl.map Ent.k))) ∧ Keep A w w' := by
  refine ⟨ov, L', Dl, (h.win.others (keep_grown hgr (fun k hk hn => hn (.inr hk)))).fewer (fun _ h1 => .inl h1), h.perm, h.due, hlate, by rw [List.length_map] at hown; exact hown, h.keep.trans (keep_grown hgr (fun k hk hA => ?_))⟩
  have h1 := (h.own.lt k hk).1
  have := hgd k hA
  omega

theorem due_nil (now : Int) (w : World) : Calls Try.prog 19 #[.pointer none, .int .i64 now] w fun e w' => e = .returned (.slice none 0 0) ∧ w' = w := by
  have hs := Try.slices_Sort_int_none none 0 w
  go_enter Try.func19, Try.ntmps19
  go_wp2
  refine wp_loop_rounds 1 ?_
  rw [rounds_succ]
  go_wp2_with (first
    | (go_at_call 23; refine (next_nil _).mono ?_; rintro e w' ⟨rfl, rfl⟩)
    | (go_at_call 39; refine hs.mono ?_; rintro e w' ⟨rfl, rfl⟩))
  go_ret
  exact ⟨rfl, rfl⟩

set_option maxHeartbeats 2000000 in
set_option maxRecDepth 100000 in
theorem due_any (w : World) (A : Nat → Prop) (g : Nat) (mv ov : Value) (L : List Ent) (now : Int) (h : WIn w A g mv ov L) :
    Calls Try.prog 19 #[.pointer (some ⟨g, 0, none⟩), .int .i64 now] w fun x w' => ∃ v ov' L' Dl, x = .returned v ∧ WIn w' (Av A v) g mv ov' L' ∧ (Dl ++ L').Perm L ∧ (∀ e ∈ Dl, past now e.a = true) ∧ (∀ e ∈ L', past now e.a = false) ∧
      w'.ownsRow w.heap.size 3 1 v Dl.length (ic (srt (Dl.map Ent.k))) ∧ Keep A w w' := by
  obtain ⟨ti, hi, hz0, hz1, hz2⟩ := info_parts info3
  have HG : Hid (∀ k, A k → k < w.heap.size) := h.guard
  have HF : Hid (L.length ≤ 999) := h.few
  go_enter Try.func19, Try.ntmps19
  go_wp2
  go_loopw [5] (fun v wr => ∃ ov' L' Dl, Duing w A g mv L now v wr ov' L' Dl) (fun _ wr => ordLen wr g)
  case atStart => exact ⟨ov, L, [], h.fewer (fun k hk => by rcases hk with h1 | h1; exact h1; simp [Value.ownBlock] at h1), List.Perm.refl _, by simp, World.ownsRow_nil _ _ _ _, Keep.refl _ _⟩
  case round =>
    obtain ⟨ov', L', Dl, hd⟩ := hrel
    have hwin := hd.win
    have hlen := hd.perm.length_eq
    rw [List.length_append] at hlen
    have hlen2 : Dl.length ≤ 999 := by have := HF.out; omega
    have HD : Hid (Duing w A g mv L now u5 wr ov' L' Dl) := hd
    have hsort := sort_any wr w.heap.size u5 (Dl.map Ent.k) (by rw [List.length_map]; exact hd.own) (by rw [List.length_map]; omega)
    clear hlen
    by_cases h0 : L' = []
    · subst h0
      have hnx := next_none wr _ g mv ov' hwin
      clear hd hwin
      go_wp2_with (first
        | (go_at_call 23; refine hnx.mono ?_; rintro e w1 ⟨rfl, hw1⟩; obtain rfl : wr = w1 := hw1.symm)
        | (go_at_call 39; refine hsort.mono ?_; rintro e w' ⟨rfl, hso, hsg⟩))
      go_ret
      obtain ⟨ox, Lx, Dx, q⟩ := HD.out.finish HG.out (by simp) hso hsg
      exact ⟨u5, ox, Lx, Dx, rfl, q⟩
    · have hpos : 0 < L'.length := List.length_pos_iff.2 h0
      have hnx := next_some wr _ g mv ov' L' hwin hpos
      cases hp : past now (nth L' 0).a with
      | false =>
        have HL : Hid (∀ e ∈ L', past now e.a = false) := heap_late hwin.heap hp
        clear hd hwin h0
        generalize (nth L' 0).a = x at hnx hp
        go_wp2_with (first
          | (go_at_call 23; refine hnx.mono ?_; rintro e w1 ⟨rfl, hw1⟩; obtain rfl : wr = w1 := hw1.symm)
          | (go_at_call 37; refine (past_any _ _ _).mono ?_; rintro e w1 ⟨rfl, hw1⟩; obtain rfl : wr = w1 := hw1.symm)
          | (go_at_call 39; refine hsort.mono ?_; rintro e w' ⟨rfl, hso, hsg⟩))
        go_ret
        obtain ⟨ox, Lx, Dx, q⟩ := HD.out.finish HG.out HL.out hso hsg
        exact ⟨u5, ox, Lx, Dx, rfl, q⟩
      | true =>
        obtain ⟨m, hm⟩ : ∃ m, L'.length = m + 1 := ⟨L'.length - 1, by omega⟩
        have hpop := hpop_any (Mo (Av A u5) mv) g mv ov' L' m wr hwin.blk hwin.ord hwin.moG hm (by have := hwin.few; omega) hwin.heap
        obtain ⟨gm, rfl⟩ : ∃ gm, mv = .map (some gm) := by
          rcases hwin.map with ⟨_, h2⟩ | ⟨gm, D, h2, _⟩
          · exact absurd h2 h0
          · exact ⟨gm, h2⟩
        have HA : Hid (∀ w1, Out (Mo (Av A u5) (.map (some gm))) g (.map (some gm)) L' (nth L' 0) wr w1 → _) := fun w1 ho => hwin.after ho
        have HOL : Hid (ordLen wr g = L'.length) := hwin.ordLen
        clear hd hwin h0 hsort h
        unfold ptrE at hpop
        go_wp2_with (first
          | (go_at_call 23; refine hnx.mono ?_; rintro e w1 ⟨rfl, hw1⟩; obtain rfl : wr = w1 := hw1.symm)
          | (go_at_call 37; refine (past_any _ _ _).mono ?_; rintro e w1 ⟨rfl, hw1⟩; obtain rfl : wr = w1 := hw1.symm)
          | (go_at_call 38; refine hpop.mono ?_; rintro e w1 ⟨rfl, ho⟩; have hta := ta63 ⟨(nth L' 0).b, 0, none⟩ w1))
        obtain ⟨cg, ce, w2, hrun, ce2, ov2, L2, hw2, hp2, hk2⟩ := HA.out w1 ho
        have hown2 : w2.ownsRow w.heap.size 3 1 u5 Dl.length (ic (Dl.map Ent.k)) := owns_keep HD.out.own hk2 (fun _ h1 => .inr h1)
        have hsz2 : w.heap.size ≤ w2.heap.size := Nat.le_trans HD.out.keep.size hk2.size
        have HW2 : Hid (WIn w2 (Av A u5) g (.map (some gm)) ov2 L2 ∧ (nth L' 0 :: L2).Perm L' ∧ Keep (Av A u5) wr w2) := ⟨hw2, hp2, hk2⟩
        have HP : Hid (past now (nth L' 0).a = true) := hp
        clear HA hta ho hw2 hp2 hk2 hpop hnx hp
        generalize nth L' 0 = e at *
        go_region_law (refine step_delete rfl (.tmp 31) (.tmp 35) 58 3 rfl gm (.int .i64 e.k) (by simp [Act.eval]) (by simp [Act.eval]) w2 0 rfl hrun ?_)
        all_goals (
          go_wp2_with (at_builtin; refine wpList_append_own_at _ rfl _ _ 26 rfl w.heap.size 3 ti (.int .i64 0) 1 8 Try.underlying26 hi hz0 hz1 hz2 rfl (by decide) _ Dl.length _ rfl (hown2.alloc _) ⟨w2.heap.size, 0, none⟩ 1 1 [.int .i64 e.k] rfl rfl (cell_one_new _ _ _) (int_one e.k) (by unfold maxLen; omega) (by omega) (by simp; omega) ?_)
          intro v' w3 hown3 hgr3 _ hloc3
          go_wp2
          obtain ⟨q1, q2, q3⟩ := HW2.out
          have hst := HD.out.step HG.out HP.out q1 q2 q3 hown3 hgr3 (by simpa using hloc3)
          refine ⟨⟨_, _, _, hst⟩, ?_⟩
          have h1 := hst.win.ordLen
          have h2 := HOL.out
          have h3 := q2.length_eq
          simp at h3
          rw [h1, h2]
          omega)

end Go.Proofs.Ytahdeliopmkpmaa
