/-
  A slice of texts, a slice of ints as values that read as lists; texts and ints appended to a row of the call's own, whatever the slice is that they come from; what the document's with does. Conditions: at most 5000 in all.
-/
import Derived.Test.YtmlkpfkeeifgeaaDoorRRef
import Derived.Test.YtmlkpfkeeifgeaaDoorRules
import Derived.Deep.AppendLies
import Derived.Deep.CutBlock
namespace Go.Proofs.YtmlkpfkeeifgeaaDoor
open Go.ChangeShapes Go.WideShapes Go.ChangeAt Go.RowKit Go.Joins Go.Deep

/-- The value is a slice that reads as the texts. -/
def TxAt (w : World) (v : Value) (l : List ByteArray) : Prop := ∃ a c, v = .slice a l.length c ∧ StrsAt w a l.length c l ∧ (a = none → l.length = 0 ∧ c = 0)
/-- The value is a slice that reads as the ints. -/
def IxAt (w : World) (v : Value) (l : List Int) : Prop := ∃ a c, v = .slice a l.length c ∧ IntsAt w a l.length c l ∧ (a = none → l.length = 0 ∧ c = 0)

def ic (zs : List Int) : List Value := zs.map (Value.int .i64)
theorem ic_length (zs : List Int) : (ic zs).length = zs.length := by simp [ic]
theorem ic_append (l r : List Int) : ic (l ++ r) = ic l ++ ic r := by simp [ic]
theorem ic_one (l : List Int) : ∀ u ∈ ic l, u.oneCell' = true := by
  intro u hu
  obtain ⟨x, _, rfl⟩ := List.mem_map.1 hu
  rfl
theorem info3 : (Tryd.prog.info? 3).map (fun i => (i.zero, i.size, i.bytes)) = some (some (.int .i64 0), 1, 8) := by kernel_rfl

section
variable {w w' : World} {v : Value} {l : List ByteArray} {zs : List Int} {A : Nat → Prop}
theorem StrsAt.keepB {a : Option Addr} {len cap : Nat} (h : StrsAt w a len cap l) (hk : Keep A w w') (hA : ∀ x, a = some x → A x.block) : StrsAt w' a len cap l := by
  refine ⟨h.hlen, h.hle, h.hcap, fun j hj => ?_⟩
  obtain ⟨b, off, e, hlt, hc⟩ := h.at_ j hj
  exact ⟨b, off, e, Nat.lt_of_lt_of_le hlt hk.size, hk.cell (a := ⟨b, off + j, none⟩) hc (hA ⟨b, off, none⟩ e)⟩
theorem IntsAt.keepB {a : Option Addr} {len cap : Nat} (h : IntsAt w a len cap zs) (hk : Keep A w w') (hA : ∀ x, a = some x → A x.block) : IntsAt w' a len cap zs := by
  refine ⟨h.hlen, h.hle, h.hcap, fun j hj => ?_⟩
  obtain ⟨b, off, e, hlt, hc⟩ := h.at_ j hj
  exact ⟨b, off, e, Nat.lt_of_lt_of_le hlt hk.size, hk.cell (a := ⟨b, off + j, none⟩) hc (hA ⟨b, off, none⟩ e)⟩
theorem TxAt.below (h : TxAt w v l) (hb : Below w.heap.size w w') : TxAt w' v l := by
  obtain ⟨a, c, e, h1, h2⟩ := h
  exact ⟨a, c, e, h1.below (Nat.le_refl _) hb, h2⟩
theorem IxAt.below (h : IxAt w v zs) (hb : Below w.heap.size w w') : IxAt w' v zs := by
  obtain ⟨a, c, e, h1, h2⟩ := h
  exact ⟨a, c, e, h1.below (Nat.le_refl _) hb, h2⟩
theorem TxAt.keep (h : TxAt w v l) (hk : Keep A w w') (hA : ∀ k, v.ownBlock = some k → A k) : TxAt w' v l := by
  obtain ⟨a, c, rfl, h1, h2⟩ := h
  exact ⟨a, c, rfl, h1.keepB hk (fun x hx => hA _ (by rw [hx]; rfl)), h2⟩
theorem IxAt.keep (h : IxAt w v zs) (hk : Keep A w w') (hA : ∀ k, v.ownBlock = some k → A k) : IxAt w' v zs := by
  obtain ⟨a, c, rfl, h1, h2⟩ := h
  exact ⟨a, c, rfl, h1.keepB hk (fun x hx => hA _ (by rw [hx]; rfl)), h2⟩
theorem TxAt.nil (w : World) : TxAt w (.slice none 0 0) [] := ⟨none, 0, rfl, StrsAt.nil _ _ _ (Nat.zero_le _), fun _ => ⟨rfl, rfl⟩⟩
theorem IxAt.nil (w : World) : IxAt w (.slice none 0 0) [] := ⟨none, 0, rfl, ⟨rfl, Nat.le_refl _, Nat.zero_le _, fun _ hj => absurd hj (Nat.not_lt_zero _)⟩, fun _ => ⟨rfl, rfl⟩⟩
theorem TxAt.own {base : Nat} (h : w.ownsRow base 9 1 v l.length (sc l)) : TxAt w v l ∧ ∀ k, v.ownBlock = some k → base ≤ k ∧ k < w.heap.size := by
  obtain ⟨a, c, e, hs, hb⟩ := owns_strs h
  refine ⟨⟨a, c, e, hs, fun hn => ?_⟩, fun k hk => ?_⟩
  · rcases h.2 with ⟨e2, h0⟩ | ⟨g, cap, cur, e2, _⟩
    · rw [e] at e2
      injection e2 with q1 q2 q3
      exact ⟨h0, q3⟩
    · rw [e, hn] at e2
      injection e2 with q1
      cases q1
  · subst e
    cases a with
    | none => cases hk
    | some y => cases hk; exact hb y rfl
theorem IntsAt.news {x : Addr} {len cap : Nat} (h : IntsAt w (some x) len cap zs) : ∀ j u, (ic zs)[j]? = some u → w.cell? (x.add j) = some u := by
  intro j u hu
  have hj : j < zs.length := by
    have := (List.getElem?_eq_some_iff.1 hu).1
    simpa [ic_length] using this
  obtain ⟨b, off, e, _, hc⟩ := h.at_ j (by have := h.hlen; omega)
  cases e
  have e0 : ((⟨b, off, none⟩ : Addr).add j) = ⟨b, off + j, none⟩ := by unfold Addr.add; split <;> simp_all
  rw [e0, hc]
  simp [ic, List.getD, hj] at hu ⊢
  exact hu
theorem owns_ints {base n : Nat} (h : w.ownsRow base 3 1 v n (ic zs)) : ∃ a cap, v = .slice a n cap ∧ IntsAt w a n cap zs ∧ (a = none → n = 0 ∧ cap = 0) := by
  have h0 := h
  obtain ⟨hl, hcase⟩ := h
  rw [ic_length, Nat.mul_one] at hl
  rcases hcase with ⟨rfl, rfl⟩ | ⟨g, cap, cur, rfl, hb, hg, hn, hcap, _, _⟩
  · exact ⟨_, _, rfl, ⟨hl, Nat.le_refl _, Nat.zero_le _, fun j hj => absurd hj (Nat.not_lt_zero _)⟩, fun _ => ⟨rfl, rfl⟩⟩
  · refine ⟨_, _, rfl, ⟨hl, hn, hcap, fun j hj => ⟨g, 0, rfl, (Array.getElem?_eq_some_iff.1 hg).1, ?_⟩⟩, fun h => by cases h⟩
    have := h0.cells (g := g) rfl j (.int .i64 (zs.getD j 0)) (by
      have : j < zs.length := by omega
      simp [ic, List.getD, this])
    have e0 : ((⟨g, 0, none⟩ : Addr).add j) = ⟨g, 0 + j, none⟩ := by unfold Addr.add; split <;> simp_all
    rw [e0] at this
    exact this
theorem IxAt.own {base : Nat} (h : w.ownsRow base 3 1 v zs.length (ic zs)) : IxAt w v zs ∧ ∀ k, v.ownBlock = some k → base ≤ k ∧ k < w.heap.size := by
  obtain ⟨a, c, e, hs, hn⟩ := owns_ints h
  exact ⟨⟨a, c, e, hs, hn⟩, fun k hk => h.lt k hk⟩
end

/-- Texts are appended. -/
theorem wpList_strs (w : World) {ops : Array Oper} {rest : List Oper} {o : Oper} {a : Act} {Q : Exit → Act → World → Prop} (hgd : o.guard = none) (s x : Operand)
    (ho : o.op = .call { callee := .builtin .append, args := #[s, x], argTypes := #[27, 27] }) (base : Nat) (v : Value) (n : Nat) (xs ys zs : List ByteArray) (hs : a.eval s = v) (hown : w.ownsRow base 9 1 v n (sc xs)) (ao : Option Addr) (m c : Nat)
    (hx : a.eval x = .slice ao m c) (hB : StrsAt w ao m c ys) (hnone : ao = none → m = 0 ∧ c = 0) (hnm : n + m ≤ 5000) (hbase : base ≤ w.heap.size) (hz : xs ++ ys = zs) (N : Nat) (hN : N = n + m)
    (h : ∀ v' w', w'.ownsRow base 9 1 v' N (sc zs) → w.grownBy w' v.ownBlock → wpList Tryd.prog ops Q rest (a.put o.dst v') w') : wpList Tryd.prog ops Q (o :: rest) a w := by
  obtain ⟨i, hi, hz0, hz1, hz2⟩ := info_parts info9
  subst hz hN
  cases ao with
  | none =>
    obtain ⟨rfl, rfl⟩ := hnone rfl
    obtain rfl : ys = [] := List.eq_nil_of_length_eq_zero hB.hlen
    exact wpList_append_own_none hgd s x 27 ho base 9 i 1 Tryd.underlying27 hi v n _ hs hown hx (h v w (by simpa using hown) (World.grownBy.refl _ _))
  | some ad =>
    have hnews : ∀ j u, (sc ys)[j]? = some u → w.cell? (ad.add j) = some u := by
      intro j u hu
      have hj : j < ys.length := by
        have := (List.getElem?_eq_some_iff.1 hu).1
        simpa [sc_length] using this
      obtain ⟨b, off, e, _, hc⟩ := hB.at_ j (by have := hB.hlen; omega)
      cases e
      have e0 : ((⟨b, off, none⟩ : Addr).add j) = ⟨b, off + j, none⟩ := by unfold Addr.add; split <;> simp_all
      rw [e0, hc]
      simp [sc, List.getD, hj] at hu ⊢
      exact hu
    refine wpList_append_own w hgd s x 27 ho base 9 i (.string ⟨#[]⟩) 1 16 Tryd.underlying27 hi hz0 hz1 hz2 rfl (by decide) v n _ hs hown ad m c (sc ys) hx (by rw [sc_length, hB.hlen, Nat.mul_one]) hnews (sc_one _) (by unfold maxLen; omega) (by omega) hbase ?_
    intro v' w' h1 h2 _
    exact h v' w' (by rw [sc_append]; exact h1) h2

/-- Ints are appended. -/
theorem wpList_ints (w : World) {ops : Array Oper} {rest : List Oper} {o : Oper} {a : Act} {Q : Exit → Act → World → Prop} (hgd : o.guard = none) (s x : Operand)
    (ho : o.op = .call { callee := .builtin .append, args := #[s, x], argTypes := #[28, 28] }) (base : Nat) (v : Value) (n : Nat) (xs ys zs : List Int) (hs : a.eval s = v) (hown : w.ownsRow base 3 1 v n (ic xs)) (ao : Option Addr) (m c : Nat)
    (hx : a.eval x = .slice ao m c) (hB : IntsAt w ao m c ys) (hnone : ao = none → m = 0 ∧ c = 0) (hnm : n + m ≤ 5000) (hbase : base ≤ w.heap.size) (hz : xs ++ ys = zs) (N : Nat) (hN : N = n + m)
    (h : ∀ v' w', w'.ownsRow base 3 1 v' N (ic zs) → w.grownBy w' v.ownBlock → wpList Tryd.prog ops Q rest (a.put o.dst v') w') : wpList Tryd.prog ops Q (o :: rest) a w := by
  obtain ⟨i, hi, hz0, hz1, hz2⟩ := info_parts info3
  subst hz hN
  cases ao with
  | none =>
    obtain ⟨rfl, rfl⟩ := hnone rfl
    obtain rfl : ys = [] := List.eq_nil_of_length_eq_zero hB.hlen
    exact wpList_append_own_none hgd s x 28 ho base 3 i 1 Tryd.underlying28 hi v n _ hs hown hx (h v w (by simpa using hown) (World.grownBy.refl _ _))
  | some ad =>
    refine wpList_append_own w hgd s x 28 ho base 3 i (.int .i64 0) 1 8 Tryd.underlying28 hi hz0 hz1 hz2 rfl (by decide) v n _ hs hown ad m c (ic ys) hx (by rw [ic_length, hB.hlen, Nat.mul_one]) hB.news (ic_one _) (by unfold maxLen; omega) (by omega) hbase ?_
    intro v' w' h1 h2 _
    exact h v' w' (by rw [ic_append]; exact h1) h2
/-- One int, one text, laid by the call. -/
theorem one_at (w : World) (x : Int) : IntsAt (w.alloc (.cells #[.int .i64 x] 3)) (some ⟨w.heap.size, 0, none⟩) 1 1 [x] := by
  refine ⟨rfl, Nat.le_refl _, by unfold maxLen; omega, fun j hj => ⟨_, _, rfl, by simp, ?_⟩⟩
  match j, hj with
  | 0, _ => simp [go_sem]
theorem one_st (w : World) (x : ByteArray) : StrsAt (w.alloc (.cells #[.string x] 9)) (some ⟨w.heap.size, 0, none⟩) 1 1 [x] := by
  refine ⟨rfl, Nat.le_refl _, by unfold maxLen; omega, fun j hj => ⟨_, _, rfl, by simp, ?_⟩⟩
  match j, hj with
  | 0, _ => simp [go_sem]

set_option maxHeartbeats 1000000 in
theorem with_any (v : Value) (l : List ByteArray) (x : ByteArray) (w : World) (h : TxAt w v l) (hl : l.length ≤ 4000) :
    Calls Tryd.prog 94 #[v, .string x] w fun e w' => ∃ v', e = .returned v' ∧ TxAt w' v' (l ++ [x]) ∧ (∀ k, v'.ownBlock = some k → w.heap.size ≤ k ∧ k < w'.heap.size) ∧ Below w.heap.size w w' := by
  obtain ⟨a, c, rfl, hs, hn⟩ := h
  have o0 : w.ownsRow w.heap.size 9 1 (.slice none 0 0) 0 (sc []) := World.ownsRow_nil _ _ _ _
  have HL := Hid.mk' hl
  go_enter Tryd.func94, Tryd.ntmps94
  go_upto_region 3 with (at_builtin; refine wpList_strs _ rfl _ _ rfl w.heap.size (.slice none 0 0) 0 [] l l rfl o0 a l.length c rfl hs hn (by omega) (Nat.le_refl _) rfl l.length (by omega) ?_; intro v1 w1 o1 g1; obtain ⟨a1, c1, rfl, -, -⟩ := owns_strs o1)
  have hb1 : Below w.heap.size w w1 := (Below.refl _ w).grown g1 (Nat.le_refl _) (fun j hj => by cases hj)
  have o11 := o1.alloc (.cells #[.string x] 9)
  have hone := one_st w1 x
  have HB1 := Hid.mk' hb1
  clear hs hn o0 g1 hb1
  go_wp2_with (first
    | (at_builtin; refine wpList_strs _ rfl _ _ rfl w.heap.size (.slice a1 l.length c1) l.length l [x] _ rfl o11 _ 1 1 rfl hone (fun h => by cases h) (by omega) (by have := HB1.out.size; simp; omega) rfl (l.length + 1) rfl ?_))
  intro v2 w2 o2 g2
  have e1 : l.length + 1 = (l ++ [x]).length := by simp
  rw [e1] at o2
  have hT := TxAt.own o2
  have hb2 : Below w.heap.size w w2 := (HB1.out.alloc HB1.out.size _).grown g2 (by have := HB1.out.size; simp; omega) (fun j hj => (o1.lt j hj).1)
  have HE := Hid.mk' (And.intro hT.1 (And.intro hT.2 hb2))
  clear o1 o11 hone o2 g2 hT hb2
  go_wp2
  go_ret
  exact ⟨_, rfl, HE.out.1, HE.out.2.1, HE.out.2.2⟩

end Go.Proofs.YtmlkpfkeeifgeaaDoor
