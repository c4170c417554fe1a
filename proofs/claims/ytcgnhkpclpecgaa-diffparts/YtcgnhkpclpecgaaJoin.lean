/-
  What Join, the document's Join and slices.Clone answer, each as a contract: a row that reads as the joined list. Conditions: the slices read as texts; no text is longer than the greatest length; of the list that is cloned, at most 20 texts.
-/
import Derived.Test.YtcgnhkpclpecgaaRef
import Derived.Laws.AppendOwnNone
import Derived.Lib.SliceRun
namespace Go.Proofs.Ytcgnhkpclpecgaa
open Go.ChangeShapes Go.WideShapes Go.ChangeAt Go.RowKit

theorem sc_one (l : List ByteArray) : ∀ u ∈ sc l, u.oneCell' = true := by
  intro u hu
  obtain ⟨x, _, rfl⟩ := List.mem_map.1 hu
  rfl
theorem strs_news {w : World} {b off n c : Nat} {l : List ByteArray} (h : StrsAt w (some ⟨b, off, none⟩) n c l) : ∀ j u, (sc l)[j]? = some u → w.cell? ((⟨b, off, none⟩ : Addr).add j) = some u := by
  intro j u hj
  have hjl : j < l.length := by
    have := (List.getElem?_eq_some_iff.1 hj).1
    rwa [sc_length] at this
  obtain ⟨b', off', e, _, hc⟩ := h.at_ j (by have := h.hlen; omega)
  cases e
  rw [Addr.add_lit]
  rw [hc]
  have : (sc l)[j]? = some (.string (l.getD j ⟨#[]⟩)) := by simp [sc, List.getD, hjl]
  rw [this] at hj
  exact hj

/-- A row of texts appended to a row of the call's own. -/
theorem wpList_cat {ops : Array Oper} {rest : List Oper} {o : Oper} {a : Act} {w : World} {Q : Exit → Act → World → Prop} (hgd : o.guard = none) (s x : Operand)
    (ho : o.op = .call { callee := .builtin .append, args := #[s, x], argTypes := #[22, 22] }) (base base2 : Nat) (v v2 : Value) (l l2 : List ByteArray) (hs : a.eval s = v) (hown : w.ownsRow base 9 1 v l.length (sc l))
    (hx : a.eval x = v2) (hown2 : w.ownsRow base2 9 1 v2 l2.length (sc l2)) (hn : l.length + l2.length ≤ 1000) (hb : base ≤ w.heap.size) (z : List ByteArray) (hz : l ++ l2 = z)
    (h : ∀ v' w', w'.ownsRow base 9 1 v' z.length (sc z) → w.grownBy w' v.ownBlock → wpList Try.prog ops Q rest (a.put o.dst v') w') :
    wpList Try.prog ops Q (o :: rest) a w := by
  obtain ⟨i0, hi, hz0, hz1, hz2⟩ := info_parts info9
  subst hz
  rw [sc_append, List.length_append] at h
  obtain ⟨a2, cap2, e2, hst, _⟩ := owns_strs hown2
  rcases hown2.2 with ⟨e1, hl⟩ | ⟨g, cap, cur, e1, _⟩
  · have hl2 : l2 = [] := List.eq_nil_of_length_eq_zero hl
    subst hl2
    refine wpList_append_own_none hgd s x 22 ho base 9 i0 1 Try.underlying22 hi v l.length (sc l) hs hown (hx.trans e1) ?_
    have := h v w (by simpa [sc] using hown) (by exact ⟨rfl, rfl, rfl, Nat.le_refl _, fun _ _ _ => rfl⟩)
    exact this
  · rw [e1] at e2
    injection e2 with q1 q2 q3
    subst q1
    subst q3
    exact wpList_append_own w hgd s x 22 ho base 9 i0 (.string ⟨#[]⟩) 1 16 Try.underlying22 hi hz0 hz1 hz2 rfl (by decide) v l.length (sc l) hs hown ⟨g, 0, none⟩ l2.length _ (sc l2) (hx.trans e1) (by rw [sc_length, Nat.mul_one]) (strs_news hst) (sc_one l2)
      (by unfold maxLen; omega) (by omega) hb (fun v' w' q1 q2 _ => h v' w' q1 q2)

set_option maxHeartbeats 1000000 in
set_option maxRecDepth 100000 in
theorem clone_any (a : Option Addr) (len cap : Nat) (ss : List ByteArray) (w : World) (h : StrsAt w a len cap ss) (h20 : len ≤ 20) :
    Calls Try.prog 25 #[.slice a len cap] w fun e w' => ∃ v, e = .returned v ∧ w'.ownsRow w.heap.size 9 1 v ss.length (sc ss) ∧ Below w.heap.size w w' := by
  have hq : ∀ (w : World) (a : Option Addr) (n c n' c' : Nat), (binOp .eql 22 (.slice a n c) (.slice none n' c')).run Try.prog w = .ok (.bool a.isNone) w := fun w a n c n' c' => Lib.run_eql_slice_nil w _ _ a n c n' c' Try.underlying22
  obtain ⟨i0, hi, hz0, hz1, hz2⟩ := info_parts info9
  cases a with
  | none =>
    have hl : len = 0 := by
      by_cases h0 : 0 < len
      · obtain ⟨b, off, e, _⟩ := h.at_ 0 h0
        cases e
      · omega
    have hs : ss = [] := List.eq_nil_of_length_eq_zero (h.hlen.trans hl)
    subst hs
    subst hl
    clear h
    go_enter Try.func25, Try.ntmps25
    go_wp2
    go_ret
    exact ⟨_, rfl, World.ownsRow_nil _ _ _ _, Below.refl _ _⟩
  | some x =>
    have HN : Hid (∀ j u, (sc ss)[j]? = some u → w.cell? (x.add j) = some u) := by
      by_cases h0 : 0 < len
      · obtain ⟨b, off, e, _⟩ := h.at_ 0 h0
        cases e
        exact strs_news h
      · have hs : ss = [] := List.eq_nil_of_length_eq_zero (by have := h.hlen; omega)
        subst hs
        intro j u hj
        simp [sc] at hj
    have HL : Hid (ss.length = len) := h.hlen
    clear h
    go_enter Try.func25, Try.ntmps25
    go_wp2_with (at_builtin; refine wpList_append_own _ rfl _ _ 22 rfl w.heap.size 9 i0 (.string ⟨#[]⟩) 1 16 Try.underlying22 hi hz0 hz1 hz2 rfl (by decide) _ _ _ rfl (World.ownsRow_made w #[] 0 (Nat.le_refl _) (Nat.zero_le _) rfl) x len cap (sc ss) rfl ?qc1 ?qc2 ?qc3 ?qc4 ?qc5 ?qc6 ?_)
    case qc1 => rw [sc_length, HL.out, Nat.mul_one]
    case qc2 =>
      intro j u hj
      exact Lib.cell?_alloc_some _ (HN.out j u hj)
    case qc3 => exact sc_one ss
    case qc4 => unfold maxLen; omega
    case qc5 => omega
    case qc6 => simp
    intro v' w1 hown hgrow _
    go_wp2
    go_ret
    refine ⟨v', rfl, by rw [HL.out]; simpa using hown, ?_⟩
    exact ((Below.refl _ w).alloc (Nat.le_refl _) _).grown hgrow (by simp) (by intro k hk; simp [Value.ownBlock] at hk; omega)

theorem joinL_no {l m : List ByteArray} (h : may l m = false) : joinL l m = l := by unfold joinL; rw [h]; rfl
theorem joinL_yes {l m : List ByteArray} (h : may l m = true) : joinL l m = bothL l m ++ cameL l m := by unfold joinL bothL cameL; rw [h]; rfl
theorem join_len {l m : List ByteArray} (h : may l m = true) : (bothL l m).length ≤ 16 ∧ (cameL l m).length ≤ 16 := by
  obtain ⟨h1, h2⟩ := may_len h
  unfold bothL cameL
  rw [h]
  exact ⟨Nat.le_trans (pickL_len _ _ _) h1, Nat.le_trans (pickL_len _ _ _) h2⟩

set_option maxHeartbeats 1000000 in
set_option maxRecDepth 100000 in
theorem join_any (a a' : Option Addr) (n n' ca cb : Nat) (l m : List ByteArray) (w : World) (h : StrsAt w a n ca l) (hl : ∀ s ∈ l, s.size ≤ maxLen) (hn : n ≤ 20) (h' : StrsAt w a' n' cb m) (hm : ∀ s ∈ m, s.size ≤ maxLen) :
    Calls Try.prog 13 #[.slice a n ca, .slice a' n' cb] w fun e w' => ∃ v, e = .returned v ∧ w'.ownsRow w.heap.size 9 1 v (joinL l m).length (sc (joinL l m)) ∧ Below w.heap.size w w' := by
  have c1 := mayBe_any a a' n n' ca cb l m w h hl h' hm
  have H : Hid (StrsAt w a n ca l) := h
  have H' : Hid (StrsAt w a' n' cb m) := h'
  have HL : Hid (∀ s ∈ l, s.size ≤ maxLen) := hl
  have HM : Hid (∀ s ∈ m, s.size ≤ maxLen) := hm
  clear h h' hl hm
  cases hr : may l m with
  | false =>
    have HE := Hid.mk' (joinL_no hr)
    rw [hr] at c1
    clear hr
    go_enter Try.func13, Try.ntmps13
    go_wp2_with fail
    refine c1.mono ?_
    rintro e w2 ⟨rfl, hb2⟩
    clear c1
    go_wp2_with fail
    refine (clone_any a n ca l _ (H.out.below (Nat.le_refl _) hb2) hn).mono ?_
    rintro e w3 ⟨v, rfl, o1, hb3⟩
    go_wp2
    go_ret
    exact ⟨_, rfl, by rw [HE.out]; exact owns_base o1 hb2.size, hb2.trans (hb3.mono hb2.size)⟩
  | true =>
    have HE := Hid.mk' (joinL_yes hr)
    have HN := Hid.mk' (join_len hr)
    rw [hr] at c1
    clear hr
    go_enter Try.func13, Try.ntmps13
    go_wp2_with fail
    refine c1.mono ?_
    rintro e w2 ⟨rfl, hb2⟩
    clear c1
    go_wp2_with fail
    refine (diff_any a a' n n' ca cb l m _ (H.out.below (Nat.le_refl _) hb2) HL.out (H'.out.below (Nat.le_refl _) hb2) HM.out).mono ?_
    rintro e w3 ⟨v1, v2, v3, rfl, o1, o2, o3, hb3⟩
    have hb3' := hb2.trans (hb3.mono hb2.size)
    clear o2
    generalize bothL l m = x at *
    generalize cameL l m = y at *
    obtain ⟨z, hz⟩ : ∃ z, x ++ y = z := ⟨_, rfl⟩
    have HZ := Hid.mk' hz
    clear hz
    go_wp2_with (at_builtin; refine wpList_cat rfl _ _ rfl w2.heap.size w2.heap.size _ _ x y rfl o3 rfl o1 (by have := HN.out; omega) hb3.size z HZ.out ?_)
    intro v' w4 hown4 hgr4
    have hb4 : Below w.heap.size w w4 := hb3'.grown hgr4 hb3'.size (fun j hj => Nat.le_trans hb2.size (o3.lt j hj).1)
    have hown5 := owns_base hown4 hb2.size
    clear hgr4 hown4 o1 o3
    go_wp2
    go_ret
    exact ⟨_, rfl, by rw [HE.out, HZ.out]; exact hown5, hb4⟩

set_option maxHeartbeats 1000000 in
set_option maxRecDepth 100000 in
theorem rjoin_any (a a' : Option Addr) (n n' ca cb : Nat) (l m : List ByteArray) (w : World) (h : StrsAt w a n ca l) (hl : ∀ s ∈ l, s.size ≤ maxLen) (h' : StrsAt w a' n' cb m) (hm : ∀ s ∈ m, s.size ≤ maxLen) :
    Calls Try.prog 14 #[.slice a n ca, .slice a' n' cb] w fun e w' => ∃ aa c, e = .returned (.slice aa (joinL l m).length c) ∧ StrsAt w' aa (joinL l m).length c (joinL l m) ∧ Below w.heap.size w w' := by
  have c1 := rcheck_any a n ca l w h hl
  have H : Hid (StrsAt w a n ca l) := h
  have H' : Hid (StrsAt w a' n' cb m) := h'
  have HM : Hid (∀ s ∈ m, s.size ≤ maxLen) := hm
  have HL : Hid (l.length = n) := h.hlen
  clear h h' hl hm
  go_enter Try.func14, Try.ntmps14
  go_wp2_with fail
  refine c1.mono ?_
  rintro e w2 ⟨rfl, hb2⟩
  by_cases h1 : chk l = 0
  · rw [h1]
    have c2 := rcheck_any a' n' cb m w2 (H'.out.below (Nat.le_refl _) hb2) HM.out
    clear c1
    by_cases h2 : chk m = 0
    · have HH : Hid (joinL l m = pickL l m true ++ pickL m l false) := Hid.mk' (by unfold joinL; rw [may_both h1 h2]; rfl)
      have HN : Hid (n ≤ 16 ∧ n' ≤ 16) := by have := may_len (may_both h1 h2); have := H.out.hlen; have := H'.out.hlen; exact ⟨by omega, by omega⟩
      rw [h2] at c2
      clear h1 h2
      go_wp2_with fail
      refine c2.mono ?_
      rintro e w3 ⟨rfl, hb3⟩
      have hb3' := hb2.trans (hb3.mono hb2.size)
      clear hb3 hb2 c2
      go_wp2_with fail
      refine (of_any a a' n n' ca cb l m true _ (H.out.below (Nat.le_refl _) hb3') (by have := HN.out; omega) (H'.out.below (Nat.le_refl _) hb3')).mono ?_
      rintro e w5 ⟨v1, rfl, o1, hb5⟩
      have hb5' := hb3'.trans (hb5.mono hb3'.size)
      have HX : Hid ((pickL l m true).length ≤ 16) := Hid.mk' (by have := pickL_len l m true; have := HL.out; have := HN.out; omega)
      generalize hx : pickL l m true = x at *
      go_wp2_with (at_builtin; refine wpList_cat rfl _ _ rfl w3.heap.size w3.heap.size _ _ [] x rfl (World.ownsRow_nil _ _ _ _) rfl o1 (by have := HX.out; simp; omega) hb5.size x rfl ?_)
      intro v' w6 hown6 hgr6
      have hb6 : Below w.heap.size w w6 := hb5'.grown hgr6 hb5'.size (fun j hj => by simp [Value.ownBlock] at hj)
      have hs6 := hgr6.size
      clear hgr6 o1
      go_wp2_with fail
      refine (of_any a' a n' n cb ca m l false _ (H'.out.below (Nat.le_refl _) hb6) (by have := HN.out; omega) (H.out.below (Nat.le_refl _) hb6)).mono ?_
      rintro e w7 ⟨v2, rfl, o2, hb7⟩
      have hb7' := hb6.trans (hb7.mono hb6.size)
      have HY : Hid ((pickL m l false).length ≤ 16) := Hid.mk' (by have := pickL_len m l false; have := H'.out.hlen; have := HN.out; omega)
      have hown7 := owns_below hown6 (Nat.le_refl _) hb7
      generalize hy : pickL m l false = y at *
      clear hown6
      obtain ⟨z, hz⟩ : ∃ z, x ++ y = z := ⟨_, rfl⟩
      have HZ := Hid.mk' hz
      clear hz
      go_wp2_with (at_builtin; refine wpList_cat rfl _ _ rfl w3.heap.size w6.heap.size _ _ x y rfl hown7 rfl o2 (by have := HX.out; have := HY.out; omega) (Nat.le_trans hb5.size (Nat.le_trans hs6 hb7.size)) z HZ.out ?_)
      intro v8 w8 hown8 hgr8
      have hb8 : Below w.heap.size w w8 := hb7'.grown hgr8 hb7'.size (fun j hj => Nat.le_trans hb3'.size (hown7.lt j hj).1)
      obtain ⟨aa, c, rfl, hst, _⟩ := owns_strs hown8
      clear hgr8 hown7 o2 hown8
      go_wp2
      go_ret
      refine ⟨aa, c, by rw [HH.out, HZ.out]; rfl, ?_, hb8⟩
      rw [HH.out, HZ.out]
      exact hst
    · have HH := Hid.mk' (joinL_no (may_ne2 (o := l) h2))
      obtain ⟨h3, h4⟩ := chk_ne h2
      clear h1
      generalize chk m = y at *
      go_wp2_with fail
      refine c2.mono ?_
      rintro e w3 ⟨rfl, hb3⟩
      have hb3' := hb2.trans (hb3.mono hb2.size)
      clear c2
      go_wp2
      go_ret
      refine ⟨_, _, by rw [HH.out, HL.out]; rfl, ?_, hb3'⟩
      rw [HH.out, HL.out]
      exact H.out.below (Nat.le_refl _) hb3'
  · have HH := Hid.mk' (joinL_no (may_ne1 (n := m) h1))
    obtain ⟨h3, h4⟩ := chk_ne h1
    clear c1
    generalize chk l = y at *
    go_wp2
    go_ret
    refine ⟨_, _, by rw [HH.out, HL.out]; rfl, ?_, hb2⟩
    rw [HH.out, HL.out]
    exact H.out.below (Nat.le_refl _) hb2

end Go.Proofs.Ytcgnhkpclpecgaa
