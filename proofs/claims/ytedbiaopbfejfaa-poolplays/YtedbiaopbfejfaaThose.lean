/-
  What Making, Busy and All do: the ids of those connections, rising, in new memory; slices.Contains and slices.Sort at ints. Conditions: the pool lies where it is said to lie.
-/
import Derived.Test.YtedbiaopbfejfaaRest
import Derived.Test.YtedbiaopbfejfaaShelf
import Derived.Sort.OwnSortedInts
namespace Go.Proofs.Ytedbiaopbfejfaa
open Go.ChangeShapes Go.WideShapes Go.ChangeAt Go.RowKit Go.Maps

/-- The first place of x in l; its length, if it isn't there. -/
def fidx (x : Int) : List Int → Nat
  | [] => 0
  | y :: l => if y = x then 0 else fidx x l + 1

theorem fidx_le (x : Int) : ∀ l, fidx x l ≤ l.length
  | [] => Nat.le_refl _
  | y :: l => by
    unfold fidx
    split
    · omega
    · have := fidx_le x l
      simp
      omega
theorem fidx_lt (x : Int) : ∀ l j, j < fidx x l → l.getD j 0 ≠ x
  | [], j, h => by simp [fidx] at h
  | y :: l, j, h => by
    unfold fidx at h
    split at h
    · omega
    · rename_i hy
      cases j with
      | zero => simpa using hy
      | succ j => simpa using fidx_lt x l j (by omega)
theorem fidx_at (x : Int) : ∀ l, fidx x l < l.length → l.getD (fidx x l) 0 = x
  | [], h => by simp at h
  | y :: l, h => by
    unfold fidx at h ⊢
    split
    · rename_i hy; simpa using hy
    · rename_i hy
      rw [if_neg hy] at h
      simpa using fidx_at x l (by simpa using h)
theorem fidx_mem (x : Int) : ∀ l, fidx x l < l.length ↔ x ∈ l
  | [] => by simp [fidx]
  | y :: l => by
    unfold fidx
    by_cases hy : y = x
    · simp [hy]
    · rw [if_neg hy]
      have := fidx_mem x l
      simp [this]
      intro h
      exact absurd h.symm hy


set_option maxRecDepth 100000 in
theorem index_any (w : World) (a : Option Addr) (len cap : Nat) (zs : List Int) (v : Int) (h : IntsAt w a len cap zs) :
    Calls Try.prog 50 #[.slice a len cap, .int .i64 v] w fun e w' => e = .returned (.int .i64 (if fidx v zs < zs.length then (fidx v zs : Int) else -1)) ∧ w' = w := by
  have hl := h.hlen
  have hle := h.hle
  have hc := h.hcap
  have hat := h.at_
  unfold maxLen at hc
  have hf := fidx_le v zs
  have hlt := fidx_lt v zs
  have heq := fidx_at v zs
  rw [hl] at *
  generalize fidx v zs = F at *
  have HLT := Hid.mk' hlt
  have HEQ := Hid.mk' heq
  have HAT := Hid.mk' hat
  have HP : Hid ((F < len → (if F < len then (F : Int) else -1) = F) ∧ (¬ F < len → (if F < len then (F : Int) else -1) = -1)) := ⟨fun h => if_pos h, fun h => if_neg h⟩
  generalize (if F < len then (F : Int) else -1) = P at *
  clear hlt heq hat h
  go_enter Try.func50, Try.ntmps50
  go_wp2
  go_loopw [8] (fun v8 wr => ∃ i : Nat, v8 = .int .i64 i ∧ i ≤ F ∧ wr = w) (fun v8 _ => len + 1 - (intOf v8).toNat)
  case atStart => exact ⟨0, rfl, Nat.zero_le _, rfl⟩
  case round =>
    obtain ⟨i, rfl, hi, rfl⟩ := hrel
    by_cases h1 : i < len
    · obtain ⟨b, off, rfl, hb, hx⟩ := HAT.out i h1
      by_cases h2 : i < F
      · have hne := HLT.out i h2
        generalize zs.getD i 0 = z at *
        have hb2 : (v == z) = false := by rw [beq_eq_false_iff_ne]; exact fun e => hne e.symm
        clear hne
        go_wp2
        exact ⟨⟨i + 1, by simp, by omega, by trivial⟩, by simp [intOf]; omega⟩
      · obtain rfl : F = i := by omega
        have he := HEQ.out h1
        rw [he] at hx
        clear he
        go_wp2
        go_ret
        exact ⟨ret_int (HP.out.1 h1).symm, rfl⟩
    · go_wp2
      go_ret
      exact ⟨ret_int (HP.out.2 (by omega)).symm, rfl⟩

theorem contains_any (w : World) (a : Option Addr) (len cap : Nat) (zs : List Int) (v : Int) (h : IntsAt w a len cap zs) (b : Bool) (hb : decide (v ∈ zs) = b) :
    Calls Try.prog 45 #[.slice a len cap, .int .i64 v] w fun e w' => e = .returned (.bool b) ∧ w' = w := by
  have hi := index_any w a len cap zs v h
  subst hb
  clear h
  by_cases hF : fidx v zs < zs.length
  · rw [if_pos hF] at hi
    rw [decide_eq_true ((fidx_mem v zs).1 hF)]
    have h0 : (0 : Int) ≤ (fidx v zs : Nat) := by omega
    generalize fidx v zs = F at *
    clear hF
    go_enter Try.func45, Try.ntmps45
    go_wp2_with (go_at_call 50; refine hi.mono ?_; rintro e w' ⟨rfl, hw'⟩; subst w')
    go_ret
    exact ⟨rfl, rfl⟩
  · rw [if_neg hF] at hi
    rw [decide_eq_false (fun h => hF ((fidx_mem v zs).2 h))]
    clear hF
    go_enter Try.func45, Try.ntmps45
    go_wp2_with (go_at_call 50; refine hi.mono ?_; rintro e w' ⟨rfl, hw'⟩; subst w')
    go_ret
    exact ⟨rfl, rfl⟩

theorem sort_any (w : World) (base : Nat) (v : Value) (zs : List Int) (h : w.ownsRow base 3 1 v zs.length (ic zs)) (hl : zs.length ≤ 1000) :
    Calls Try.prog 46 #[v] w fun e w' => e = .returned (.tuple #[]) ∧ w'.ownsRow base 3 1 v zs.length (ic (srt zs)) ∧ w.grownBy w' v.ownBlock := by
  rcases h.2 with ⟨rfl, h0⟩ | ⟨gk, cap, cur, rfl, hb, hg, h1, h2, h3, h4⟩
  · refine (Try.slices_Sort_int_none none 0 w).mono ?_
    rintro e w' ⟨rfl, rfl⟩
    obtain rfl : zs = [] := List.eq_nil_of_length_eq_zero h0
    exact ⟨rfl, by simpa [srt, ic] using h, World.grownBy.refl _ _⟩
  · rw [Nat.mul_one] at h4
    refine (Try.slices_Sort_int gk 0 cap zs w (Go.holds_of_blockI hg h4) (Array.getElem?_eq_some_iff.1 hg).1 (by omega)).mono ?_
    rintro e w' ⟨rfl, n, os, rfl⟩
    exact ⟨rfl, Go.ownsRow_sortedI (ts := srt zs) (srt_length zs) hb hg h1 h2 h3, Go.grownBy_sortedI _⟩

/-- What was collected: just those that came, and that p takes. -/
def Col (D : DataW Unit) (left : Lit → Bool) (p : Int → Bool) (zs : List Int) : Prop := zs.Nodup ∧ ∀ x, x ∈ zs ↔ (Maps.has D (.int .i64 x) = true ∧ left (.int .i64 x) = false ∧ p x = true)
theorem Col.start (D : DataW Unit) (p : Int → Bool) : Col D (Maps.has D) p [] := ⟨List.nodup_nil, fun x => by cases Maps.has D (.int .i64 x) <;> simp⟩
theorem same_key (x y : Int) : (Lit.int .i64 y).sameKey (.int .i64 x) = decide (y = x) := by
  by_cases e : y = x
  · subst e
    rw [WideAt.sameKey_self (show WideAt.IsKeyLit (.int .i64 y) from trivial)]
    simp
  · rw [Maps.sameKey_ne (key_ne e)]
    simp [e]
section
variable {D : DataW Unit} {left : Lit → Bool} {p : Int → Bool} {zs : List Int} {x : Int}
theorem Col.yes (h : Col D left p zs) (hl : left (.int .i64 x) = true) (hh : Maps.has D (.int .i64 x) = true) (hp : p x = true) : Col D (fun z => left z && !z.sameKey (.int .i64 x)) p (zs ++ [x]) := by
  have hnew : x ∉ zs := fun hx => by have := ((h.2 x).1 hx).2.1; rw [hl] at this; cases this
  refine ⟨snoc_nodup h.1 hnew, fun y => ?_⟩
  rw [List.mem_append, List.mem_singleton, h.2 y]
  show _ ↔ _ ∧ (left (.int .i64 y) && !(Lit.int .i64 y).sameKey (.int .i64 x)) = false ∧ _
  rw [same_key]
  by_cases e : y = x
  · subst e; simp [hh, hp]
  · simp [e]
theorem Col.no (h : Col D left p zs) (hl : left (.int .i64 x) = true) (hp : p x = false) : Col D (fun z => left z && !z.sameKey (.int .i64 x)) p zs := by
  refine ⟨h.1, fun y => ?_⟩
  rw [h.2 y]
  show _ ↔ _ ∧ (left (.int .i64 y) && !(Lit.int .i64 y).sameKey (.int .i64 x)) = false ∧ _
  rw [same_key]
  by_cases e : y = x
  · subst e; simp [hl, hp]
  · simp [e]
theorem Col.fin {s : St} {cn : Int → Int × Int} {K : Nat} (h : Col D left p zs) (ht : Tells D s cn K) (hl : ∀ kl, left kl = false) : zs.Perm (s.ids.filter p) := by
  refine (List.perm_ext_iff_of_nodup h.1 (List.Pairwise.filter _ ht.inv.nd)).2 fun x => ?_
  rw [h.2 x, hl, ht.hasB, List.mem_filter]
  simp
end

theorem owns_base {w : World} {b b' t n : Nat} {e : TypeId} {v : Value} {cs : List Value} (h : w.ownsRow b e t v n cs) (hb : b' ≤ b) : w.ownsRow b' e t v n cs := by
  refine ⟨h.1, ?_⟩
  rcases h.2 with h1 | ⟨g, cap, cur, e1, h2, r⟩
  · exact .inl h1
  · exact .inr ⟨g, cap, cur, e1, Nat.le_trans hb h2, r⟩

theorem those_nil (a : Option Addr) (len cap : Nat) (w : World) : Calls Try.prog 40 #[.pointer none, .slice a len cap] w fun e w' => e = .returned (.slice none 0 0) ∧ w' = w := by
  go_enter Try.func40, Try.ntmps40
  go_wp2
  go_ret
  exact ⟨rfl, rfl⟩

set_option maxHeartbeats 1000000 in
set_option maxRecDepth 100000 in
theorem those_any (w : World) (g gm n : Nat) (mc : Value) (D : DataW Unit) (s : St) (cn : Int → Int × Int) (K : Nat) (hb : w.heap[g]? = some (.cells #[.map (some gm), mc] 59 (0, 0))) (hm : w.ownsMap Try.prog 3 connElem gm n D) (ht : Tells D s cn K) (h8 : s.ids.length ≤ 8)
    (a : Option Addr) (len cap : Nat) (ws : List Int) (hz : IntsAt w a len cap ws) (zz : List Int) (hzz : srt (s.ids.filter (fun x => decide ((cn x).1 ∈ ws))) = zz) :
    Calls Try.prog 40 #[.pointer (some ⟨g, 0, none⟩), .slice a len cap] w fun e w' => ∃ v, e = .returned v ∧ w'.ownsRow w.heap.size 3 1 v zz.length (ic zz) ∧ Below w.heap.size w w' := by
  obtain ⟨c0, c1, hl⟩ := blk2 hb
  have HT : Hid (Tells D s cn K) := ht
  have HZ : Hid (IntsAt w a len cap ws) := hz
  have HZZ : Hid (∀ left zs, Col D left (fun x => decide ((cn x).1 ∈ ws)) zs → (∀ kl, left kl = false) → srt zs = zz ∧ zs.length = zz.length) := fun left zs hc hl => by
    have hp := hc.fin ht hl
    have e : srt zs = zz := by rw [← hzz]; exact srt_of_perm hp.symm
    exact ⟨e, by rw [← e, srt_length]⟩
  have hsz8 : Maps.size D ≤ 8 := by rw [ht.size]; exact h8
  have hgml := hm.lt
  clear hb ht hz hzz
  go_enter Try.func40, Try.ntmps40
  go_wp2_with (first | (at_range; refine wpList_range_own _ rfl _ 56 rfl 3 63 keyed3 Try.underlying56 _ gm n D rfl hm ?_; intro w0 hrg0 hg0 hs0))
  go_frame
  have hb0 : Below w.heap.size w w0 := ⟨hg0.os, hg0.tape, hg0.output, hg0.size, fun k hk => hg0.block k hk (by simp)⟩
  have hs1 : w.heap.size + 1 ≤ w0.heap.size := by omega
  clear hg0 hs0 c0 c1 hm
  go_loopw [5] (fun v5 wr => ∃ left cnt zs, Col D left (fun x => decide ((cn x).1 ∈ ws)) zs ∧ zs.length + cnt ≤ Maps.size D ∧ wr.ownsRow (w.heap.size + 1) 3 1 v5 zs.length (ic zs) ∧ wr.ranges Try.prog 3 connElem gm w.heap.size n D left cnt ∧ Below w.heap.size w wr ∧ w.heap.size + 1 ≤ wr.heap.size) (fun _ wr => wr.rangeLeft gm w.heap.size)
  case atStart => exact ⟨_, _, [], Col.start _ _, by simp, World.ownsRow_nil _ _ _ _, hrg0, hb0, hs1⟩
  case round =>
    clear hrg0 hb0 hs1
    obtain ⟨left, cnt, zs, hC, hlen, hown, hrg, hbl, hs1⟩ := hrel
    have HC := Hid.mk' hC
    clear hC
    have hsort := sort_any wr (w.heap.size + 1) u5 zs hown (by omega)
    go_wp2_with (first | (at_next; refine wpList_next_ranges _ rfl _ rfl 3 keyed3 connElem (Value.int .i64) cv (fun key kl hkey => by obtain ⟨x, hx, _⟩ := Maps.keyOf_int_inv Try.underlying3 hkey; exact ⟨x, hx⟩) (fun v y hv => by obtain ⟨p, hp, _⟩ := connElem_inv hv; exact ⟨p, hp⟩) gm w.heap.size n D left cnt rfl hrg ?_ ?_))
    · intro _ hl0
      obtain ⟨e1, e2⟩ := HZZ.out left zs HC.out hl0
      have HO : Hid (wr.ownsRow (w.heap.size + 1) 3 1 u5 zs.length (ic zs)) := hown
      have HB := Hid.mk' hbl
      have HE := Hid.mk' (And.intro e1 e2)
      clear HC hl0 hlen hown hrg hbl e1 e2
      go_wp2_with (first | (go_at_call 46; refine hsort.mono ?_; rintro e w2 ⟨rfl, ho2, hg2⟩))
      go_ret
      rw [HE.out.1, HE.out.2] at ho2
      exact ⟨_, rfl, owns_base ho2 (by omega), below_grown (owns_base HO.out (Nat.le_succ _)) hg2 HB.out (Nat.le_refl _)⟩
    · intro x pa pb kl yd yp w1 cnt1 hkey hlk hv hat hrg1 hlt hg1 hs2 hen
      obtain ⟨rfl, hx, hcn⟩ := HT.out.entry (p := (pa, pb)) hkey hv hat
      have hhas := (HT.out.has x hx).1
      have hpa : (cn x).1 = pa := by rw [hcn]
      have hk1 : Keep (fun k => k ≠ w.heap.size) wr w1 := keep_grown hg1 (fun k e hn => hn (by cases e; rfl))
      have hbl2 : Below w.heap.size w (w1.alloc (.cells #[.int .i64 pa, .int .i64 pb] 63)) := (hbl.grown hg1 hbl.size (fun j hj => by cases hj; exact Nat.le_refl _)).alloc (by have := hk1.size; omega) _
      have hown2 := (owns_keep hown hk1 (fun k e => by have := (hown.lt k e).1; omega)).alloc (.cells #[.int .i64 pa, .int .i64 pb] 63)
      have hrg2 := hrg1.alloc (.cells #[.int .i64 pa, .int .i64 pb] 63)
      have hsz2 : w.heap.size + 1 ≤ (w1.alloc (.cells #[.int .i64 pa, .int .i64 pb] 63)).heap.size := by have := hk1.size; simp; omega
      have hz2 := HZ.out.below hbl2
      have HL : Hid (wr.rangeLeft gm w.heap.size = cnt ∧ (w1.alloc (.cells #[.int .i64 pa, .int .i64 pb] 63)).rangeLeft gm w.heap.size = cnt1 ∧ cnt1 < cnt) := ⟨hrg.left_eq, hrg2.left_eq, hlt⟩
      have HR : Hid ((w1.alloc (.cells #[.int .i64 pa, .int .i64 pb] 63)).ranges Try.prog 3 connElem gm w.heap.size n D (fun z => left z && !z.sameKey (.int .i64 x)) cnt1) := hrg2
      have HB := Hid.mk' hbl2
      simp only [cv] at hen
      have hlen1 : zs.length + 1 + cnt1 ≤ Maps.size D := by omega
      cases hb : decide (pa ∈ ws) with
      | true =>
        have hcon := contains_any (w1.alloc (.cells #[.int .i64 pa, .int .i64 pb] 63)) a len cap ws pa hz2 true hb
        have HN := Hid.mk' (HC.out.yes hlk hhas (by rw [hpa]; exact hb))
        have o2 := hown2.alloc (.cells #[.int .i64 x] 3)
        have hone := one_at (w1.alloc (.cells #[.int .i64 pa, .int .i64 pb] 63)) x
        rw [World.size_alloc] at hone
        have HOL : Hid (∀ k, u5.ownBlock = some k → w.heap.size + 1 ≤ k) := fun k e => (hown.lt k e).1
        clear hkey hlk hv hat hlt hg1 hs2 hrg hrg1 hrg2 hbl hx hcn hk1 hbl2 hown hown2 hz2 hhas hpa hb HC hlen hsort
        go_wp2_with (first
          | (go_at_call 45; refine hcon.mono ?_; rintro e w' ⟨rfl, hw'⟩; subst w')
          | (at_builtin; refine wpList_ints _ rfl _ _ rfl (w.heap.size + 1) u5 zs.length zs [x] _ rfl o2 _ 1 1 rfl hone (fun h => by cases h) (by omega) (by simp at hsz2 ⊢; omega) rfl (zs.length + 1) rfl ?_; intro v' w7 o7 g7 _))
        have hr7 := (HR.out.alloc (.cells #[.int .i64 x] 3)).kept g7 (fun e => by have := HOL.out gm e.symm; omega) (fun e => by have := HOL.out w.heap.size e.symm; omega)
        have hl7 : (zs ++ [x]).length = zs.length + 1 := by simp
        have hz7 := g7.size
        refine ⟨⟨fun z => left z && !z.sameKey (.int .i64 x), cnt1, zs ++ [x], HN.out, by omega, by rw [hl7]; exact o7, hr7, below_grown (owns_base o2 (Nat.le_succ _)) g7 (HB.out.alloc (by omega) _) (Nat.le_refl _), by simp at hz7 hsz2; omega⟩, ?_⟩
        rw [HL.out.1, hr7.left_eq]
        exact HL.out.2.2
      | false =>
        have hcon := contains_any (w1.alloc (.cells #[.int .i64 pa, .int .i64 pb] 63)) a len cap ws pa hz2 false hb
        have HN := Hid.mk' (HC.out.no hlk (by rw [hpa]; exact hb))
        have HO : Hid ((w1.alloc (.cells #[.int .i64 pa, .int .i64 pb] 63)).ownsRow (w.heap.size + 1) 3 1 u5 zs.length (ic zs)) := hown2
        clear hkey hlk hv hat hlt hg1 hs2 hrg hrg1 hrg2 hbl hx hcn hk1 hbl2 hown hown2 hz2 hhas hpa hb HC hlen hsort
        go_wp2_with (first | (go_at_call 45; refine hcon.mono ?_; rintro e w' ⟨rfl, hw'⟩; subst w'))
        refine ⟨⟨fun z => left z && !z.sameKey (.int .i64 x), cnt1, zs, HN.out, by omega, HO.out, HR.out, HB.out, hsz2⟩, ?_⟩
        rw [HL.out.1, HL.out.2.1]
        exact HL.out.2.2

end Go.Proofs.Ytedbiaopbfejfaa
