/-
  Words for what lies in memory: a slice of texts reads as a list, a slice of ints reads as a list; how they last, and how arguments are opened as these. No conditions.
-/
import Derived.Test.YtmlkpfkeeifgeaaDoorBase
import Derived.Deep.Strs
import Derived.Laws.AppendOwn
import Derived.Laws.OwnMore
import Derived.Deep.Slices
import Derived.Laws.AppendOwnNone
import Derived.Lib.SliceRun
namespace Go.Proofs.YtmlkpfkeeifgeaaDoor
open Go.ChangeShapes Go.WideShapes Go.ChangeAt Go.RowKit Go.Joins Go.Deep

theorem own : ownKnob Tryd.prog.godebug = none := by kernel_rfl
theorem laidOut : laidOutB Tryd.prog = true := by kernel_rfl
theorem cells9 : Tryd.prog.cellsOf 9 = 1 := by kernel_rfl
theorem cells3 : Tryd.prog.cellsOf 3 = 1 := by kernel_rfl
theorem info9 : (Tryd.prog.info? 9).map (fun i => (i.zero, i.size, i.bytes)) = some (some (.string ⟨#[]⟩), 1, 16) := by kernel_rfl

/-- The slice (a, len, cap) reads as the texts ss. -/
structure StrsAt (w : World) (a : Option Addr) (len cap : Nat) (ss : List ByteArray) : Prop where
  hlen : ss.length = len
  hle : len ≤ cap
  hcap : cap ≤ maxLen
  at_ : ∀ j, j < len → ∃ b off, a = some ⟨b, off, none⟩ ∧ b < w.heap.size ∧ w.cell? ⟨b, off + j, none⟩ = some (.string (ss.getD j ⟨#[]⟩))

theorem StrsAt.below {w w' : World} {a : Option Addr} {len cap n : Nat} {ss : List ByteArray} (h : StrsAt w a len cap ss) (hn : w.heap.size ≤ n) (hb : Below n w w') : StrsAt w' a len cap ss := by
  refine ⟨h.hlen, h.hle, h.hcap, fun j hj => ?_⟩
  obtain ⟨b, off, e, hlt, hc⟩ := h.at_ j hj
  exact ⟨b, off, e, Nat.lt_of_lt_of_le hlt hb.size, (hb.cell (p := ⟨b, off + j, none⟩) (Nat.lt_of_lt_of_le hlt hn)).trans hc⟩
theorem StrsAt.nil (w : World) (a : Option Addr) (cap : Nat) (h : cap ≤ maxLen) : StrsAt w a 0 cap [] := ⟨rfl, Nat.zero_le _, h, fun _ hj => absurd hj (Nat.not_lt_zero _)⟩
theorem StrsAt.take {w : World} {a : Option Addr} {len cap : Nat} {ss : List ByteArray} (h : StrsAt w a len cap ss) {n : Nat} (hn : n ≤ len) : StrsAt w a n cap (ss.take n) := by
  refine ⟨by rw [List.length_take, h.hlen]; omega, Nat.le_trans hn h.hle, h.hcap, fun j hj => ?_⟩
  obtain ⟨b, off, e, hlt, hc⟩ := h.at_ j (by omega)
  refine ⟨b, off, e, hlt, hc.trans ?_⟩
  simp [List.getD, hj]
theorem getD_mem {ss : List ByteArray} {j : Nat} (h : j < ss.length) : ss.getD j ⟨#[]⟩ ∈ ss := by
  have e : ss.getD j ⟨#[]⟩ = ss[j] := by simp [List.getD, h]
  rw [e]
  exact List.getElem_mem h
theorem take_snoc {ss : List ByteArray} {k : Nat} (h : k < ss.length) : ss.take (k + 1) = ss.take k ++ [ss.getD k ⟨#[]⟩] := by
  rw [List.take_succ_eq_append_getElem h]
  simp [List.getD, h]

/-- Texts as cells. -/
def sc (ss : List ByteArray) : List Value := ss.map Value.string
theorem sc_length (ss : List ByteArray) : (sc ss).length = ss.length := by simp [sc]
theorem sc_append (l r : List ByteArray) : sc (l ++ r) = sc l ++ sc r := by simp [sc]
theorem sc_snoc (l : List ByteArray) (x : ByteArray) : sc (l ++ [x]) = sc l ++ [.string x] := by simp [sc]
theorem news_one (w : World) (x : Value) (t : TypeId) : ∀ j u, [x][j]? = some u → (w.alloc (.cells #[x] t)).cell? ((⟨w.heap.size, 0, none⟩ : Addr).add j) = some u := by
  intro j u hj
  match j, hj with
  | 0, hj => simp at hj; subst hj; simp [Addr.add]
  | _ + 1, hj => simp at hj
theorem str_one (x : ByteArray) : ∀ u ∈ [Value.string x], u.oneCell' = true := by
  intro u hu
  simp at hu
  subst hu
  rfl

theorem owns_strs {w : World} {base n : Nat} {v : Value} {ss : List ByteArray} (h : w.ownsRow base 9 1 v n (sc ss)) : ∃ a cap, v = .slice a n cap ∧ StrsAt w a n cap ss ∧ ∀ x, a = some x → base ≤ x.block ∧ x.block < w.heap.size := by
  have h0 := h
  obtain ⟨hl, hcase⟩ := h
  rw [sc_length, Nat.mul_one] at hl
  rcases hcase with ⟨rfl, rfl⟩ | ⟨g, cap, cur, rfl, hb, hg, hn, hcap, _, _⟩
  · refine ⟨_, _, rfl, ?_, fun x hx => by cases hx⟩
    have : ss = [] := List.eq_nil_of_length_eq_zero hl
    subst this
    exact StrsAt.nil _ _ _ (Nat.zero_le _)
  · refine ⟨_, _, rfl, ⟨hl, hn, hcap, fun j hj => ⟨g, 0, rfl, (Array.getElem?_eq_some_iff.1 hg).1, ?_⟩⟩, fun x hx => by cases hx; exact ⟨hb, (Array.getElem?_eq_some_iff.1 hg).1⟩⟩
    have := h0.cells (g := g) rfl j (.string (ss.getD j ⟨#[]⟩)) (by
      have : j < ss.length := by omega
      simp [sc, List.getD, this])
    have e0 : ((⟨g, 0, none⟩ : Addr).add j) = ⟨g, 0 + j, none⟩ := by unfold Addr.add; split <;> simp_all
    rw [e0] at this
    exact this
/-- What is the call's own stays so while what is new is written. -/
theorem owns_below {w w' : World} {base n m : Nat} {v : Value} {xs : List Value} (h : w.ownsRow base 9 1 v n xs) (hn : w.heap.size ≤ m) (hb : Below m w w') : w'.ownsRow base 9 1 v n xs := by
  refine ⟨h.1, ?_⟩
  rcases h.2 with hn' | ⟨g', cap', cur, rfl, hbg, hgg, rest⟩
  · exact .inl hn'
  · exact .inr ⟨g', cap', cur, rfl, hbg, by rw [hb.block g' (Nat.lt_of_lt_of_le (Array.getElem?_eq_some_iff.1 hgg).1 hn)]; exact hgg, rest⟩
theorem owns_base {w : World} {base base' n : Nat} {v : Value} {xs : List Value} (h : w.ownsRow base 9 1 v n xs) (hb : base' ≤ base) : w.ownsRow base' 9 1 v n xs := by
  refine ⟨h.1, ?_⟩
  rcases h.2 with hn' | ⟨g', cap', cur, rfl, hbg, rest⟩
  · exact .inl hn'
  · exact .inr ⟨g', cap', cur, rfl, Nat.le_trans hb hbg, rest⟩
theorem below_drewN {w w' : World} {n : Nat} (h : Below n w w') (k : Nat) : Below n w (w'.drewN k) := ⟨h.os, h.tape, h.output, h.size, h.block⟩

section
variable {H : Type} {enc : TypeId × Value → H} {W : World} {r : Reach} {b0 : Nat} {v : Value} {d : DataW H} {p : List MemPlace}

set_option maxRecDepth 100000 in
theorem open_str (hv : Value.okWide Tryd.prog W r b0 9 v) (h : DataW.Trod enc Tryd.prog W 0 (fun _ => true) true 9 v d p) :
    ∃ s, v = .string s ∧ s.size ≤ maxLen := by
  obtain ⟨s0, rfl⟩ := okWide_string Tryd.underlying9 hv
  obtain ⟨fuel, hf⟩ := h
  obtain ⟨s, e1, _, hs⟩ := DataW.trod_string Tryd.underlying9 hf
  simp [Value.cells] at e1
  subst e1
  exact ⟨_, rfl, hs⟩

set_option maxRecDepth 100000 in
theorem open_texts (hv : Value.okWide Tryd.prog W r b0 27 v) (h : DataW.Trod enc Tryd.prog W 0 (fun _ => true) true 27 v d p) :
    ∃ a len cap ss, v = .slice a len cap ∧ StrsAt W a len cap ss ∧ ∀ s ∈ ss, s.size ≤ maxLen := by
  obtain ⟨a0, len, cap, rfl⟩ := okWide_slice Tryd.underlying27 hv
  obtain ⟨fuel, hf⟩ := h
  rcases open_strs Tryd.underlying27 Tryd.underlying9 cells9 hf with ⟨hcs, _⟩ | ⟨x, l, c, m, Sx, hcs, _, hl, hm, hmm, _, hcell⟩
  · simp [Value.cells] at hcs
    obtain ⟨rfl, rfl, rfl⟩ := hcs
    exact ⟨_, _, _, [], rfl, StrsAt.nil _ _ _ (Nat.zero_le _), fun s hs => by cases hs⟩
  · simp [Value.cells] at hcs
    obtain ⟨rfl, rfl, rfl⟩ := hcs
    simp only [if_true] at hmm
    subst hmm
    refine ⟨_, _, _, (List.range len).map Sx, rfl, ⟨by simp, hl, hm, fun j hj => ?_⟩, fun s hs => ?_⟩
    · obtain ⟨b, off, spot⟩ := x
      have h0 := (hcell j (by omega)).1
      have hspot : spot = none := by
        have h00 := (hcell 0 (by omega)).1
        simpa [Addr.add] using World.cell?_spot h00
      subst hspot
      have e0 : ((⟨b, off, none⟩ : Addr).add j) = ⟨b, off + j, none⟩ := by unfold Addr.add; split <;> simp_all
      rw [e0] at h0
      refine ⟨b, off, rfl, World.block_lt_of_cell? W _ h0, h0.trans ?_⟩
      simp [List.getD, hj]
    · simp only [List.mem_map, List.mem_range] at hs
      obtain ⟨i, hi, rfl⟩ := hs
      exact (hcell i (by omega)).2
end

theorem sc_one (l : List ByteArray) : ∀ u ∈ sc l, u.oneCell' = true := by
  intro u hu
  obtain ⟨x, _, rfl⟩ := List.mem_map.1 hu
  rfl
theorem strs_news {w : World} {b off n c : Nat} {l : List ByteArray} (h : StrsAt w (some ⟨b, off, none⟩) n c l) : ∀ j u, (sc l)[j]? = some u → w.cell? ((⟨b, off, none⟩ : Addr).add j) = some u := by
  intro j u hj
  have hjl : j < l.length := by
    have := (List.getElem?_eq_some_iff.1 hj).1
    rwa [sc_length] at this
  obtain ⟨b', off', e, _, hc⟩ := h.at_ j (by have := h.hlen; omega)
  cases e
  rw [Addr.add_lit]
  rw [hc]
  have : (sc l)[j]? = some (.string (l.getD j ⟨#[]⟩)) := by simp [sc, List.getD, hjl]
  rw [this] at hj
  exact hj

/-- A row of texts appended to a row of the call's own. -/
theorem wpList_cat {ops : Array Oper} {rest : List Oper} {o : Oper} {a : Act} {w : World} {Q : Exit → Act → World → Prop} (hgd : o.guard = none) (s x : Operand)
    (ho : o.op = .call { callee := .builtin .append, args := #[s, x], argTypes := #[27, 27] }) (base base2 : Nat) (v v2 : Value) (l l2 : List ByteArray) (hs : a.eval s = v) (hown : w.ownsRow base 9 1 v l.length (sc l))
    (hx : a.eval x = v2) (hown2 : w.ownsRow base2 9 1 v2 l2.length (sc l2)) (hn : l.length + l2.length ≤ 1000) (hb : base ≤ w.heap.size) (z : List ByteArray) (hz : l ++ l2 = z)
    (h : ∀ v' w', w'.ownsRow base 9 1 v' z.length (sc z) → w.grownBy w' v.ownBlock → wpList Tryd.prog ops Q rest (a.put o.dst v') w') :
    wpList Tryd.prog ops Q (o :: rest) a w := by
  obtain ⟨i0, hi, hz0, hz1, hz2⟩ := info_parts info9
  subst hz
  rw [sc_append, List.length_append] at h
  obtain ⟨a2, cap2, e2, hst, _⟩ := owns_strs hown2
  rcases hown2.2 with ⟨e1, hl⟩ | ⟨g, cap, cur, e1, _⟩
  · have hl2 : l2 = [] := List.eq_nil_of_length_eq_zero hl
    subst hl2
    refine wpList_append_own_none hgd s x 27 ho base 9 i0 1 Tryd.underlying27 hi v l.length (sc l) hs hown (hx.trans e1) ?_
    have := h v w (by simpa [sc] using hown) (by exact ⟨rfl, rfl, rfl, Nat.le_refl _, fun _ _ _ => rfl⟩)
    exact this
  · rw [e1] at e2
    injection e2 with q1 q2 q3
    subst q1
    subst q3
    exact wpList_append_own w hgd s x 27 ho base 9 i0 (.string ⟨#[]⟩) 1 16 Tryd.underlying27 hi hz0 hz1 hz2 rfl (by decide) v l.length (sc l) hs hown ⟨g, 0, none⟩ l2.length _ (sc l2) (hx.trans e1) (by rw [sc_length, Nat.mul_one]) (strs_news hst) (sc_one l2)
      (by unfold maxLen; omega) (by omega) hb (fun v' w' q1 q2 _ => h v' w' q1 q2)

theorem quiet2_same {P : Program} {f : FuncId} {args : Array Value} {w : World} {n m : Nat} {v : Value}
    (h : Calls P f args (w.drewN (n + m)) fun e w' => e = .returned v ∧ w' = w.drewN (n + m)) : Calls P f args (w.drewN (n + m)) fun e w'' => e = .returned v ∧ ∃ k, w'' = w.drewN (n + k) :=
  h.mono fun _ _ ⟨he, hm⟩ => ⟨he, m, hm⟩
theorem quiet1_same {P : Program} {f : FuncId} {args : Array Value} {w : World} {m : Nat} {v : Value}
    (h : Calls P f args (w.drewN m) fun e w' => e = .returned v ∧ w' = w.drewN m) : Calls P f args (w.drewN m) fun e w'' => e = .returned v ∧ ∃ k, w'' = w.drewN k :=
  h.mono fun _ _ ⟨he, hm⟩ => ⟨he, m, hm⟩
theorem nodup_snoc {l : List ByteArray} {x : ByteArray} : (l ++ [x]).Nodup ↔ l.Nodup ∧ x ∉ l := by
  simp only [List.Nodup, List.pairwise_append, List.pairwise_cons, List.mem_cons, List.not_mem_nil, or_false]
  constructor
  · rintro ⟨h1, _, h3⟩
    exact ⟨h1, fun hx => h3 x hx x rfl rfl⟩
  · rintro ⟨h1, h2⟩
    refine ⟨h1, ⟨fun _ h => absurd h (by simp), List.Pairwise.nil⟩, fun a ha b hb e => ?_⟩
    subst hb
    subst e
    exact h2 ha
theorem nodup_take {l : List ByteArray} (h : l.Nodup) (k : Nat) : (l.take k).Nodup := List.Pairwise.sublist (List.take_sublist k l) h
theorem StrsAt.drewN {w : World} {a : Option Addr} {len cap : Nat} {ss : List ByteArray} (h : StrsAt w a len cap ss) (j : Nat) : StrsAt (w.drewN j) a len cap ss := h.below (Nat.le_refl _) (below_drewN (Below.refl _ _) j)

/-- The slice (a, len, cap) reads as the ints zs. -/
structure IntsAt (w : World) (a : Option Addr) (len cap : Nat) (zs : List Int) : Prop where
  hlen : zs.length = len
  hle : len ≤ cap
  hcap : cap ≤ maxLen
  at_ : ∀ j, j < len → ∃ b off, a = some ⟨b, off, none⟩ ∧ b < w.heap.size ∧ w.cell? ⟨b, off + j, none⟩ = some (.int .i64 (zs.getD j 0))
theorem IntsAt.below {w w' : World} {a : Option Addr} {len cap n : Nat} {zs : List Int} (h : IntsAt w a len cap zs) (hn : w.heap.size ≤ n) (hb : Below n w w') : IntsAt w' a len cap zs := by
  refine ⟨h.hlen, h.hle, h.hcap, fun j hj => ?_⟩
  obtain ⟨b, off, e, hlt, hc⟩ := h.at_ j hj
  exact ⟨b, off, e, Nat.lt_of_lt_of_le hlt hb.size, (hb.cell (p := ⟨b, off + j, none⟩) (Nat.lt_of_lt_of_le hlt hn)).trans hc⟩

section
variable {H : Type} {enc : TypeId × Value → H} {W : World} {r : Reach} {b0 : Nat} {v : Value} {d : DataW H} {p : List MemPlace}
set_option maxRecDepth 100000 in
theorem open_nums (hv : Value.okWide Tryd.prog W r b0 28 v) (h : DataW.Trod enc Tryd.prog W 0 (fun _ => true) true 28 v d p) :
    ∃ a len cap zs, v = .slice a len cap ∧ IntsAt W a len cap zs := by
  obtain ⟨a0, len, cap, rfl⟩ := okWide_slice Tryd.underlying28 hv
  obtain ⟨fuel, hf⟩ := h
  rcases open_ints Tryd.underlying28 Tryd.underlying3 cells3 hf with ⟨hcs, _⟩ | ⟨x, l, c, zs, hcs, _, hl, hm, hz, _, hcell, hwz⟩
  · simp [Value.cells] at hcs
    obtain ⟨rfl, rfl, rfl⟩ := hcs
    exact ⟨_, _, _, [], rfl, ⟨rfl, Nat.le_refl _, Nat.zero_le _, fun j hj => absurd hj (Nat.not_lt_zero _)⟩⟩
  · simp [Value.cells] at hcs
    obtain ⟨rfl, rfl, rfl⟩ := hcs
    simp only [if_true] at hz
    refine ⟨_, _, _, zs.take len, rfl, by rw [List.length_take]; omega, hl, hm, fun j hj => ?_⟩
    obtain ⟨b, off, spot⟩ := x
    have h0 := hcell j (by omega)
    have hspot : spot = none := by
      have h00 := hcell 0 (by omega)
      simpa [Addr.add] using World.cell?_spot h00
    subst hspot
    have e0 : ((⟨b, off, none⟩ : Addr).add j) = ⟨b, off + j, none⟩ := by unfold Addr.add; split <;> simp_all
    rw [e0] at h0
    refine ⟨b, off, rfl, World.block_lt_of_cell? W _ h0, h0.trans ?_⟩
    simp [List.getD, hj]
end


end Go.Proofs.YtmlkpfkeeifgeaaDoor
