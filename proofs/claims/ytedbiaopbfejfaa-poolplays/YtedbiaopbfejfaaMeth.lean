/-
  What Make, Drop and rest (Ready, Give) do, each as a contract, of nil too. Conditions: the pool lies where it is said to lie; ids are ints; fewer than a million were laid to rest.
-/
import Derived.Test.YtedbiaopbfejfaaTop
import Derived.Deep.RegionLaw
namespace Go.Proofs.Ytedbiaopbfejfaa
open Go.ChangeShapes Go.WideShapes Go.ChangeAt Go.RowKit Go.Maps

section
variable {w w2 : World} {A : Nat → Prop} {g R m gm gc sn rn n K K' : Nat} {s s' : St} {D : DataW Unit} {cn : Int → Int × Int} {x : Int} {p : Int × Int}
/-- With one more entry, or another one. -/
theorem PIn.put (h : PIn w A g R m s K) (hb : w.heap[g]? = some (.cells #[.map (some gm), .chan (some gc)] 59 (0, 0))) (hc : w.heap[gc]? = some (.chan R (Array.replicate m tok) false sn rn false)) (hm : w.ownsMap Try.prog 3 connElem gm s.ids.length D) (ht : Tells D s cn K) (hA1 : ¬ A gm) (hA2 : ¬ A gc)
    (hmem : ∀ y, y ∈ s'.ids ↔ y ∈ s.ids ∨ y = x) (hl : s'.ids.length = if x ∈ s.ids then s.ids.length else s.ids.length + 1) (hi : Inv s' (upd cn x p) K') (hown : w2.ownsMap Try.prog 3 connElem gm n (D.put (.int .i64 x) (cd p))) (hg : w.grownBy w2 (some gm)) : PIn w2 A g R m s' K' ∧ Keep A w w2 := by
  have htd := hm.tidy keyed3
  have ht2 := ht.put htd hmem hl hi
  have hn := map_tight hown
  rw [ht2.size] at hn
  have h1 : gm ≠ g := map_ne_cells hm hb
  have h2 : gm ≠ gc := map_ne_chan hm hc
  refine ⟨⟨⟨gm, gc, sn, rn, _, _, (hg.block g (lt_of_heap hb) (fun e => h1 (by cases e; rfl))).trans hb, (hg.block gc (lt_of_heap hc) (fun e => h2 (by cases e; rfl))).trans hc, hn, ht2, hA1, hA2⟩, h.gout, fun k hk => Nat.lt_of_lt_of_le (h.guard k hk) hg.size⟩, keep_grown hg (fun k e => by cases e; exact hA1)⟩
/-- Without one. -/
theorem PIn.del (h : PIn w A g R m s K) (hb : w.heap[g]? = some (.cells #[.map (some gm), .chan (some gc)] 59 (0, 0))) (hc : w.heap[gc]? = some (.chan R (Array.replicate m tok) false sn rn false)) (hm : w.ownsMap Try.prog 3 connElem gm s.ids.length D) (ht : Tells D s cn K) (hA1 : ¬ A gm) (hA2 : ¬ A gc)
    (hx : x ∈ s.ids) (hown : w2.ownsMap Try.prog 3 connElem gm n (D.del (.int .i64 x))) (hg : w.grownBy w2 (some gm)) :
    w2.heap[g]? = some (.cells #[.map (some gm), .chan (some gc)] 59 (0, 0)) ∧ w2.heap[gc]? = some (.chan R (Array.replicate m tok) false sn rn false) ∧
      PIn (w2.setChan gc R (Array.replicate (m + 1) tok) false (sn + 1) rn false) A g R (m + 1) (dr s x) K ∧ Keep A w (w2.setChan gc R (Array.replicate (m + 1) tok) false (sn + 1) rn false) := by
  have htd := hm.tidy keyed3
  have ht2 := ht.del htd hx
  have hn := map_tight hown
  rw [ht2.size] at hn
  have h1 : gm ≠ g := map_ne_cells hm hb
  have h2 : gm ≠ gc := map_ne_chan hm hc
  have h3 : gc ≠ g := fun e => by rw [e, hb] at hc; simp at hc
  have hb2 := (hg.block g (lt_of_heap hb) (fun e => h1 (by cases e; rfl))).trans hb
  have hc2 := (hg.block gc (lt_of_heap hc) (fun e => h2 (by cases e; rfl))).trans hc
  refine ⟨hb2, hc2, ⟨⟨gm, gc, sn + 1, rn, _, _, by rw [setChan_other _ _ _ _ _ _ _ _ _ h3]; exact hb2, Conc.heap_setChan _ _ _ _ _ _ _ _ (lt_of_heap hc2), map_block hn (setChan_other _ _ _ _ _ _ _ _ _ h2.symm), ht2, hA1, hA2⟩, h.gout, fun k hk => by rw [Conc.size_setChan]; exact Nat.lt_of_lt_of_le (h.guard k hk) hg.size⟩, ?_⟩
  exact (keep_grown hg (fun k e => by cases e; exact hA1)).setChan hA2 _ _ _ _ _ _
end

/-- What Make tells, and who is there then. -/
def makeE (R : Nat) (s : St) (x : Int) : Int := if x ∈ s.ids then 6 else if R ≤ s.ids.length then 7 else 0
def makeS (R : Nat) (s : St) (x : Int) : St := if x ∈ s.ids then s else if R ≤ s.ids.length then s else mkS s x

theorem make_nil (x : Int) (w : World) : Calls Try.prog 14 #[.pointer none, .int .i64 x] w fun e w' => e = .returned (.int .i64 1) ∧ w' = w := by
  go_enter Try.func14, Try.ntmps14
  go_wp2
  go_ret
  exact ⟨rfl, rfl⟩

section
variable {w : World} {A : Nat → Prop} {g R K : Nat} {s : St} {x : Int}
set_option maxRecDepth 100000 in
theorem make_w (h : PAt w A g R s K) (hx : Wf x) : Calls Try.prog 14 #[.pointer (some ⟨g, 0, none⟩), .int .i64 x] w fun e w' => e = .returned (.int .i64 (makeE R s x)) ∧ PAt w' A g R (makeS R s x) K ∧ Keep A w w' := by
  unfold makeE makeS
  have HH : Hid (∀ w2, Below w.heap.size w w2 → PAt w2 A g R s K ∧ Keep A w w2) := fun w2 hb => ⟨h.belowS hb, keep_below hb⟩
  by_cases h0 : x ∈ s.ids
  · have hi := is_w h x hx true (decide_eq_true h0)
    rw [if_pos h0, if_pos h0]
    clear h h0 hx
    go_enter Try.func14, Try.ntmps14
    go_wp2_with (first | (go_at_call 26; refine hi.mono ?_; rintro e w2 ⟨rfl, hb2⟩))
    go_ret
    exact ⟨rfl, HH.out _ hb2⟩
  · have hi := is_w h x hx false (decide_eq_false h0)
    rw [if_neg h0, if_neg h0]
    by_cases h1 : R ≤ s.ids.length
    · rw [if_pos h1, if_pos h1]
      have HN : Hid (∀ w2, Below w.heap.size w w2 → Calls Try.prog 38 #[.pointer (some ⟨g, 0, none⟩)] w2 fun e w' => e = .returned (.bool false) ∧ w' = w2) := fun w2 hb => by
        have hq := (h.belowS hb).q
        rw [show R - s.ids.length = 0 by omega] at hq
        exact takeRoom_none hq
      clear h h0 h1 hx
      go_enter Try.func14, Try.ntmps14
      go_wp2_with (first
        | (go_at_call 26; refine hi.mono ?_; rintro e w2 ⟨rfl, hb2⟩; have ht := HN.out w2 hb2)
        | (go_at_call 38; refine ht.mono ?_; rintro e w' ⟨rfl, hw'⟩; subst w'))
      go_ret
      exact ⟨rfl, HH.out _ hb2⟩
    · rw [if_neg h1, if_neg h1]
      obtain ⟨m, hm⟩ : ∃ m, R - s.ids.length = m + 1 := ⟨R - s.ids.length - 1, by omega⟩
      have HN : Hid (∀ w2, Below w.heap.size w w2 → Calls Try.prog 38 #[.pointer (some ⟨g, 0, none⟩)] w2 fun e w' => e = .returned (.bool true) ∧ PIn w' A g R m s K ∧ Keep A w2 w') := fun w2 hb => by
        have hq := (h.belowS hb).q
        rw [hm] at hq
        exact takeRoom_some hq
      have hmax := h.max
      have hl8 : s.ids.length ≤ 8 := by omega
      have hkey := keyOf3 hx
      have HW := Hid.mk' hx
      have H0 := Hid.mk' h0
      have H1 : Hid (R - (mkS s x).ids.length = m ∧ (mkS s x).ids.length ≤ R) := Hid.mk' (by have := (ids_made x s).1; omega)
      clear h h0 h1 hx hm
      go_enter Try.func14, Try.ntmps14
      go_wp2_with (first
        | (go_at_call 26; refine hi.mono ?_; rintro e w2 ⟨rfl, hb2⟩; have ht := HN.out w2 hb2; have hk2 := (HH.out w2 hb2).2)
        | (go_at_call 38; refine ht.mono ?_; rintro e w3 ⟨rfl, hq3, hk3⟩; obtain ⟨gm, gc, sn, rn, D, cn, hb, hc, hm, htl, hA1, hA2⟩ := hq3.ex; obtain ⟨c0, c1, hl⟩ := blk2 hb)
        | (at_mapUpdate; refine wpList_mapUpdate_own _ rfl _ _ _ 56 rfl 3 63 keyed3 Try.underlying56 connElem gm _ D rfl hm (by unfold maxLen; omega) _ _ _ rfl rfl hkey (cd (0, 0)) [] rfl ?_; intro w4 hown4 hg4))
      go_ret
      have hpp := hq3.put hb hc hm htl hA1 hA2 (ids_made x s).2 (by rw [if_neg H0.out]; exact (ids_made x s).1) (htl.inv.made H0.out HW.out) hown4 hg4
      refine ⟨rfl, ⟨?_, H1.out.2, hmax⟩, (hk2.trans hk3).trans hpp.2⟩
      rw [H1.out.1]
      exact hpp.1

/-- Who is there behind a Drop. -/
theorem drop_nil (x : Int) (w : World) : Calls Try.prog 22 #[.pointer none, .int .i64 x] w fun e w' => e = .returned (.bool false) ∧ w' = w := by
  go_enter Try.func22, Try.ntmps22
  go_wp2_with (first | (go_at_call 26; refine (is_nil _ _).mono ?_; rintro e w' ⟨rfl, hw'⟩; subst w'))
  go_ret
  exact ⟨rfl, rfl⟩
set_option maxRecDepth 100000 in
theorem drop_w (h : PAt w A g R s K) (hx : Wf x) : Calls Try.prog 22 #[.pointer (some ⟨g, 0, none⟩), .int .i64 x] w fun e w' => e = .returned (.bool (decide (x ∈ s.ids))) ∧ PAt w' A g R (dr s x) K ∧ Keep A w w' := by
  have HH : Hid (∀ w2, Below w.heap.size w w2 → PAt w2 A g R s K ∧ Keep A w w2) := fun w2 hb => ⟨h.belowS hb, keep_below hb⟩
  by_cases h0 : x ∈ s.ids
  · have hi := is_w h x hx true (decide_eq_true h0)
    rw [decide_eq_true h0]
    have hle := h.le
    have hmax := h.max
    have hkey := keyOf3 hx
    have hpos : 0 < s.ids.length := List.length_pos_of_mem h0
    have hdl := (ids_dropped h.q.inv.choose_spec h0).1
    have HX : Hid (R - (dr s x).ids.length = R - s.ids.length + 1 ∧ (dr s x).ids.length ≤ R ∧ R - s.ids.length < R) := Hid.mk' (by omega)
    have H0 := Hid.mk' h0
    clear h h0 hx hle hpos hdl
    go_enter Try.func22, Try.ntmps22
    go_upto_region 4 with (first
      | (go_at_call 26; refine hi.mono ?_; rintro e w2 ⟨rfl, hb2⟩; have hh2 := HH.out w2 hb2; obtain ⟨gm, gc, sn, rn, D, cn, hb, hc, hm, htl, hA1, hA2⟩ := hh2.1.q.ex; obtain ⟨c0, c1, hl⟩ := blk2 hb)
      | (at_delete; refine wpList_delete_own _ rfl _ _ 56 3 rfl 63 keyed3 Try.underlying56 connElem gm _ D rfl hm _ _ rfl hkey ?_; intro w3 hown3 htu3))
    obtain ⟨hb3, hc3, hP, hK⟩ := hh2.1.q.del hb hc hm htl hA1 hA2 H0.out hown3 htu3.grown
    have HP := Hid.mk' hP
    have HK : Hid (Keep A w _) := hh2.2.trans hK
    obtain ⟨d0, d1, _⟩ := blk2 hb3
    have hlt := HX.out.2.2
    clear hb hc hm htl c0 c1 hl hown3 htu3 hP hK hb3 hb2 hh2 hi
    refine wp_of_reg (fun b k cs => ?_)
    refine Reg.op rfl rfl (fun K hK => ?_)
    go_simp
    refine hK _ _ ?_
    clear hK K
    refine Reg.op rfl rfl (fun K hK => ?_)
    go_simp
    refine hK _ _ ?_
    clear hK K
    refine Reg.op rfl rfl (fun K hK => ?_)
    go_simp
    refine hK _ _ ?_
    clear hK K
    refine Reg.op rfl rfl (fun K hK => ?_)
    go_simp
    refine hK _ _ ?_
    clear hK K
    refine Reg.op rfl rfl (fun K hK => ?_)
    go_simp
    refine hK _ _ ?_
    clear hK K
    refine Reg.send (c := gc) (v := tok) (z := .tuple #[]) (w₁ := w3) rfl rfl (by simp [go_sem, execOp, Conc.scase, Act.eval, tok]) hc3 (by simpa using hlt) ?_
    rw [rep_push]
    refine Reg.done ?_
    go_wp2
    go_ret
    refine ⟨rfl, ⟨?_, HX.out.2.1, hmax⟩, HK.out⟩
    rw [HX.out.1]
    exact HP.out
  · have hi := is_w h x hx false (decide_eq_false h0)
    rw [decide_eq_false h0, dr_not h0]
    clear h h0 hx
    go_enter Try.func22, Try.ntmps22
    go_wp2_with (first | (go_at_call 26; refine hi.mono ?_; rintro e w2 ⟨rfl, hb2⟩))
    go_ret
    exact ⟨rfl, HH.out _ hb2⟩
end

end Go.Proofs.Ytedbiaopbfejfaa
