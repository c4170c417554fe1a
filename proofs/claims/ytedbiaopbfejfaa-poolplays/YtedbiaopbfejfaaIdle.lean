/-
  What Idle and Take do: the idle ones in their row, and the one above all others. Conditions: the pool lies where it is said to lie.
-/
import Derived.Test.YtedbiaopbfejfaaLists
namespace Go.Proofs.Ytedbiaopbfejfaa
open Go.ChangeShapes Go.WideShapes Go.ChangeAt Go.RowKit Go.Maps

set_option maxRecDepth 100000 in
theorem closure_any (b0 g gm : Nat) (x y x1 x2 y1 y2 : Int) (W : World) (hb : W.cell? ⟨b0, 0, none⟩ = some (.pointer (some ⟨g, 0, none⟩))) (hg : W.cell? ⟨g, 0, none⟩ = some (.map (some gm)))
    (l1 : ∀ n, (Instr.lookup 56 (.map (some gm)) (.int .i64 x) false).run Try.prog (W.drewN n) = .ok (.agg #[.int .i64 x1, .int .i64 x2]) (W.drewN n)) (l2 : ∀ n, (Instr.lookup 56 (.map (some gm)) (.int .i64 y) false).run Try.prog (W.drewN n) = .ok (.agg #[.int .i64 y1, .int .i64 y2]) (W.drewN n)) :
    Calls Try.prog 42 #[.int .i64 x, .int .i64 y, .pointer (some ⟨b0, 0, none⟩)] W fun e w' => e = .returned (.int .i64 (cmpI x2 y2)) ∧ ∃ q, w' = W.drewN q := by
  have hf1 := field1
  go_enter Try.func42, Try.ntmps42
  go_wp2
  go_quiet (first | (go_at_call 43; exact quiet1_same (cmp_any _ _ _)))
  go_wp2
  go_ret
  exact ⟨rfl, _, rfl⟩

section
open Go.Sort
variable {α : Type} [Inhabited α]
theorem grown_sorted_g (enc : α → Value) {w : World} {g n : Nat} {os : Array Obj} (d : Array α) : w.grownBy (sortWorld enc w g 0 n d os) (some g) := by
  refine ⟨rfl, rfl, rfl, by simp [sortWorld], fun k hk hne => ?_⟩
  unfold sortWorld
  rw [heap_grow_old _ _ (by simpa using hk)]
  have : g ≠ k := fun e => hne (by rw [e])
  simp [putRow, mapBlock, Sort.ahead, Array.getElem?_modify, this]
theorem heap_sorted_g (enc : α → Value) {w : World} {g n : Nat} {os : Array Obj} {cur : Array Value} {e : TypeId} {fr : Nat × Nat} (d : Array α) (hb : w.heap[g]? = some (.cells cur e fr)) :
    (sortWorld enc w g 0 n d os).heap[g]? = some (.cells (putCells enc 0 d cur) e fr) := by
  have hg : g < w.heap.size := (Array.getElem?_eq_some_iff.1 hb).1
  unfold sortWorld
  rw [heap_grow_old _ _ (by simpa using hg)]
  simp [putRow, mapBlock, Sort.ahead, Array.getElem?_modify, hb, onCells]
theorem take_put_g (enc : α → Value) (cur : Array Value) (ts : List α) (h : ts.length ≤ cur.size) : (putCells enc 0 ts.toArray cur).toList.take ts.length = ts.map enc := by
  apply List.ext_getElem?
  intro j
  by_cases hj : j < ts.length
  · have hj2 : j < cur.size := by omega
    simp [putCells, hj, hj2]
  · rw [List.getElem?_take_eq_none (by omega), List.getElem?_eq_none (by simp; omega)]
end

/-- By height. -/
def leH (cn : Int → Int × Int) (x y : Int) : Bool := decide ((cn x).2 ≤ (cn y).2)
theorem row_inj {cn : Int → Int × Int} {l : List Int} (h : l.Pairwise (fun x y => (cn x).2 < (cn y).2)) {x y : Int} (hx : x ∈ l) (hy : y ∈ l) (e : (cn x).2 = (cn y).2) : x = y := by
  induction l with
  | nil => simp at hx
  | cons z r ih =>
    obtain ⟨h1, h2⟩ := List.pairwise_cons.1 h
    rcases List.mem_cons.1 hx with hx1 | hx1
    · rcases List.mem_cons.1 hy with hy1 | hy1
      · rw [hx1, hy1]
      · have := h1 y hy1; rw [← hx1] at this; omega
    · rcases List.mem_cons.1 hy with hy1 | hy1
      · have := h1 x hx1; rw [← hy1] at this; omega
      · exact ih h2 hx1 hy1
theorem row_sorted {cn : Int → Int × Int} {l zs : List Int} (h : l.Pairwise (fun x y => (cn x).2 < (cn y).2)) (hp : zs.Perm l) : zs.mergeSort (leH cn) = l := by
  refine ((List.mergeSort_perm zs _).trans hp).eq_of_pairwise (fun a b ha hb h1 h2 => ?_) (List.pairwise_mergeSort (fun a b c h1 h2 => ?_) (fun a b => ?_) zs) (h.imp (fun {a b} hlt => ?_))
  · have ha' : a ∈ l := hp.mem_iff.1 ((List.mergeSort_perm zs (leH cn)).mem_iff.1 ha)
    unfold leH at h1 h2
    simp at h1 h2
    exact row_inj h ha' hb (by omega)
  · unfold leH at *
    simp at *
    omega
  · unfold leH
    simp
    omega
  · unfold leH
    simp
    omega

section
variable {s : St} {cn : Int → Int × Int} {K : Nat} {zs : List Int}
theorem swoH (cn : Int → Int × Int) (zs : List Int) : Go.Sort.SWO (Go.Proofs.ltOf fun x y : {e // e ∈ zs} => cmpI (cn x.1).2 (cn y.1).2) where
  irrefl x := by unfold Go.Proofs.ltOf; rw [cmpI_lt]; simp
  trans x y z h1 h2 := by
    unfold Go.Proofs.ltOf at *
    rw [cmpI_lt] at *
    simp at *
    omega
  ntrans x y z h1 h2 := by
    unfold Go.Proofs.ltOf at *
    rw [cmpI_lt] at *
    simp at *
    omega
theorem totH (h : Inv s cn K) (hp : zs.Perm s.I) (x y : {e // e ∈ zs}) (h1 : Go.Proofs.ltOf (fun x y : {e // e ∈ zs} => cmpI (cn x.1).2 (cn y.1).2) x y = false) (h2 : Go.Proofs.ltOf (fun x y : {e // e ∈ zs} => cmpI (cn x.1).2 (cn y.1).2) y x = false) : x = y := by
  unfold Go.Proofs.ltOf at *
  rw [cmpI_lt] at *
  simp at h1 h2
  exact Subtype.ext (row_inj h.row (hp.mem_iff.1 x.2) (hp.mem_iff.1 y.2) (by omega))
end

set_option maxHeartbeats 1000000 in
set_option maxRecDepth 100000 in
theorem sortf_any (w : World) (g b0 gm base n : Nat) (mc : Value) (D : DataW Unit) (s : St) (cn : Int → Int × Int) (K : Nat) (hg : w.heap[g]? = some (.cells #[.map (some gm), mc] 59 (0, 0))) (hm : w.ownsMap Try.prog 3 connElem gm n D) (ht : Tells D s cn K) (h8 : s.ids.length ≤ 8)
    (hb0 : w.heap[b0]? = some (.cells #[.pointer (some ⟨g, 0, none⟩)] 24 (0, 0))) (v : Value) (zs : List Int) (hown : w.ownsRow base 3 1 v zs.length (ic zs)) (hp : zs.Perm s.I) :
    Calls Try.prog 41 #[v, .func (.func 42) #[] #[.pointer (some ⟨b0, 0, none⟩)]] w fun e w' => e = .returned (.tuple #[]) ∧ w'.ownsRow base 3 1 v zs.length (ic s.I) ∧ w.grownBy w' v.ownBlock := by
  have hzl : zs.length = s.I.length := hp.length_eq
  have hz8 : zs.length ≤ 8 := by
    have : s.I.length ≤ s.ids.length := by simp [St.ids]; omega
    omega
  by_cases h0 : zs.length = 0
  · obtain rfl : zs = [] := List.eq_nil_of_length_eq_zero h0
    have e1 : s.I = [] := List.eq_nil_of_length_eq_zero hzl.symm
    rw [e1]
    have hv : ∃ p c, v = .slice p 0 c := by
      rcases hown.2 with ⟨e, _⟩ | ⟨gk, cap, cur, e, _⟩
      · exact ⟨_, _, e⟩
      · exact ⟨_, _, e⟩
    obtain ⟨p, c, rfl⟩ := hv
    refine (Try.slices_SortFunc_none (α := Unit) _ _ _ w).mono ?_
    rintro e w' ⟨rfl, rfl⟩
    exact ⟨rfl, hown, World.grownBy.refl _ _⟩
  · rcases hown.2 with ⟨_, e⟩ | ⟨gk, cap, cur, rfl, hbase, hk, h1, h2, h3, h4⟩
    · exact absurd e h0
    · rw [Nat.mul_one] at h3 h4
      haveI : Inhabited {e // e ∈ zs} := ⟨⟨zs[0]'(by omega), List.getElem_mem _⟩⟩
      have eg : ∀ args w, (callFunc 42 args).run Try.prog w = .ok (.enter 42 args) w := Go.Proofs.enters_of Try.func42 (by kernel_rfl) rfl
      have hds : zs.attach.toArray.size = zs.length := by simp
      have hH : Go.Sort.Holds (fun x : {e // e ∈ zs} => Value.int .i64 x.1) w gk 0 zs.attach.toArray := by
        intro j hj
        rw [hds] at hj
        refine ⟨?_, frozen_of_row w gk (0 + j) cur 3 hk⟩
        have hx : (cur.toList.take zs.length)[j]? = some (Value.int .i64 (zs[j]'hj)) := by
          rw [h4]; simp [ic, hj]
        rw [List.getElem?_take_of_lt hj] at hx
        rw [getElem!_pos _ j (by rw [hds]; exact hj)]
        simp [World.cell?, hk]
        simp at hx
        rw [hx]
      have n1 : gk ≠ g := fun e => by rw [e, hg] at hk; simp at hk
      have n2 : gk ≠ b0 := fun e => by rw [e, hb0] at hk; simp at hk
      have n3 : gk ≠ gm := fun e => map_ne_cells hm hk e.symm
      have hcmp : Go.Proofs.CmpReads Try.prog 42 #[.pointer (some ⟨b0, 0, none⟩)] (fun x : {e // e ∈ zs} => Value.int .i64 x.1) (fun x y => cmpI (cn x.1).2 (cn y.1).2) gk 0 zs.attach.toArray.size w := by
        intro m os dk hs x y
        have hgr := grown_sorted_g (fun x : {e // e ∈ zs} => Value.int .i64 x.1) (w := w) (g := gk) (n := m) (os := os) dk
        generalize Go.Proofs.sortWorld (fun x : {e // e ∈ zs} => Value.int .i64 x.1) w gk 0 m dk os = W at hgr ⊢
        have g1 := (hgr.block g (lt_of_heap hg) (fun e => n1 (by cases e; rfl))).trans hg
        have g2 := (hgr.block b0 (lt_of_heap hb0) (fun e => n2 (by cases e; rfl))).trans hb0
        have g3 := map_block hm (hgr.block gm hm.lt (fun e => n3 (by cases e; rfl)))
        have hx := mem_ids.2 (.inr (.inl (hp.mem_iff.1 x.2)) : x.1 ∈ s.M ∨ x.1 ∈ s.I ∨ x.1 ∈ s.B)
        have hy := mem_ids.2 (.inr (.inl (hp.mem_iff.1 y.2)) : y.1 ∈ s.M ∨ y.1 ∈ s.I ∨ y.1 ∈ s.B)
        refine closure_any b0 g gm x.1 y.1 _ _ _ _ W ?_ (blk2 g1).1 (fun q => map_at (w := W.drewN q) (map_block g3 rfl) ht hx) (fun q => map_at (w := W.drewN q) (map_block g3 rfl) ht hy)
        simp [World.cell?, g2]
      have hcon := Try.slices_SortFunc_total (fun x : {e // e ∈ zs} => Value.int .i64 x.1) (fun _ => rfl) (fun x y => cmpI (cn x.1).2 (cn y.1).2) (swoH cn zs) 42 #[.pointer (some ⟨b0, 0, none⟩)] gk 0 cap zs.attach.toArray w eg hcmp.lays hH (lt_of_heap hk) (by rw [hds]; omega) (totH ht.inv hp)
      rw [hds] at hcon
      refine hcon.mono ?_
      rintro e w' ⟨rfl, q, os, rfl⟩
      refine ⟨rfl, ?_, grown_sorted_g _ _⟩
      have hlen : (zs.attach.mergeSort fun x y => !Go.Proofs.ltOf (fun x y : {e // e ∈ zs} => cmpI (cn x.1).2 (cn y.1).2) y x).length = zs.length := by simp
      have hmap : (zs.attach.mergeSort fun x y => !Go.Proofs.ltOf (fun x y : {e // e ∈ zs} => cmpI (cn x.1).2 (cn y.1).2) y x).map (fun x => Value.int .i64 x.1) = ic s.I := by
        have q1 := List.map_mergeSort (f := Subtype.val) (r := fun x y : {e // e ∈ zs} => !Go.Proofs.ltOf (fun x y : {e // e ∈ zs} => cmpI (cn x.1).2 (cn y.1).2) y x) (s := leH cn) (l := zs.attach) (fun a _ b _ => by
          unfold leH Go.Proofs.ltOf
          rw [cmpI_lt]
          by_cases e : (cn b.1).2 < (cn a.1).2
          · rw [decide_eq_true e, decide_eq_false (by omega)]; rfl
          · rw [decide_eq_false e, decide_eq_true (by omega)]; rfl)
        rw [List.attach_map_subtype_val, row_sorted ht.inv.row hp] at q1
        unfold ic
        rw [← q1, List.map_map]
        rfl
      refine ⟨by rw [ic_length, Nat.mul_one]; exact hzl.symm, .inr ⟨gk, cap, _, rfl, hbase, heap_sorted_g _ _ hk, h1, h2, ?_, ?_⟩⟩
      · simp [Go.Sort.putCells, h3]
      · rw [Nat.mul_one, ← hmap, ← hlen]
        exact take_put_g _ _ _ (by rw [hlen, h3]; exact h1)

section
variable {w : World} {A : Nat → Prop} {g R K : Nat} {s : St}
set_option maxHeartbeats 1000000 in
set_option maxRecDepth 100000 in
theorem idle_w (h : PAt w A g R s K) (zz : List Int) (hzz : s.I = zz) :
    Calls Try.prog 31 #[.pointer (some ⟨g, 0, none⟩)] w fun e w' => ∃ a c, e = .returned (.slice a zz.length c) ∧ LAt w' w.heap.size a c zz ∧ Below w.heap.size w w' := by
  have hb1 : Below w.heap.size w (w.alloc (.cells #[.pointer (some ⟨g, 0, none⟩)] 24)) := (Below.refl _ _).alloc (Nat.le_refl _) _
  have h1 := h.belowS hb1
  obtain ⟨zs, hzs⟩ : ∃ zs, srt s.I = zs := ⟨_, rfl⟩
  have hp : zs.Perm s.I := by rw [← hzs]; exact srt_perm _
  obtain ⟨gm, gc, sn, rn, D, cn, hg, hc, hm, ht, _⟩ := h1.q.ex
  have hle := h.le
  have hmax := h.max
  have hone := one_at (w.alloc (.cells #[.pointer (some ⟨g, 0, none⟩)] 24)) 1
  rw [World.size_alloc] at hone
  have hb3 : Below (w.heap.size + 1) (w.alloc (.cells #[.pointer (some ⟨g, 0, none⟩)] 24)) ((w.alloc (.cells #[.pointer (some ⟨g, 0, none⟩)] 24)).alloc (.cells #[.int .i64 1] 3)) := (Below.refl _ _).alloc (by simp) _
  have hlt1 := lt_of_heap hg
  rw [World.size_alloc] at hlt1
  have hmt := hm.lt
  rw [World.size_alloc] at hmt
  have hth := those_any ((w.alloc (.cells #[.pointer (some ⟨g, 0, none⟩)] 24)).alloc (.cells #[.int .i64 1] 3)) g gm _ _ D s cn K ((hb3.block g hlt1).trans hg) (map_block hm (hb3.block gm hmt)) ht (by omega) _ 1 1 [1] hone zs (by rw [filt_i ht.inv]; exact hzs)
  have hb0 : (w.alloc (.cells #[.pointer (some ⟨g, 0, none⟩)] 24)).heap[w.heap.size]? = some (.cells #[.pointer (some ⟨g, 0, none⟩)] 24 (0, 0)) := heap_alloc_new _ _
  have hHS : ∀ w2 v, Below ((w.alloc (.cells #[.pointer (some ⟨g, 0, none⟩)] 24)).alloc (.cells #[.int .i64 1] 3)).heap.size ((w.alloc (.cells #[.pointer (some ⟨g, 0, none⟩)] 24)).alloc (.cells #[.int .i64 1] 3)) w2 → w2.ownsRow ((w.alloc (.cells #[.pointer (some ⟨g, 0, none⟩)] 24)).alloc (.cells #[.int .i64 1] 3)).heap.size 3 1 v zs.length (ic zs) →
      Calls Try.prog 41 #[v, .func (.func 42) #[] #[.pointer (some ⟨w.heap.size, 0, none⟩)]] w2 fun e w' => e = .returned (.tuple #[]) ∧ ∃ a c, v = .slice a zz.length c ∧ LAt w' w.heap.size a c zz ∧ Below w.heap.size w w' := by
    intro w2 v hb2 ho
    have hb2' : Below (w.heap.size + 1) (w.alloc (.cells #[.pointer (some ⟨g, 0, none⟩)] 24)) w2 := hb3.trans (hb2.mono (by simp))
    have hbw : Below w.heap.size w w2 := hb1.trans (hb2'.mono (by omega))
    refine (sortf_any w2 g w.heap.size gm _ _ _ D s cn K ((hb2'.block g hlt1).trans hg) (map_block hm (hb2'.block gm hmt)) ht (by omega) ((hb2'.block _ (by omega)).trans hb0) v zs ho hp).mono ?_
    rintro e w' ⟨rfl, ho', hg'⟩
    rw [hp.length_eq, hzz] at ho'
    obtain ⟨a, c, e1, hl⟩ := lat_of ho'
    refine ⟨rfl, a, c, e1, hl.base (by simp; omega), below_grown (owns_base ho (by simp; omega)) hg' hbw (Nat.le_refl _)⟩
  have HS := Hid.mk' hHS
  clear h h1 hg hm hc ht hb3 hb0 hHS hone hlt1 hmt hzs hp hb1
  go_enter Try.func31, Try.ntmps31
  go_wp2_with (first
    | (go_at_call 40; refine hth.mono ?_; rintro e w2 ⟨v, rfl, ho, hb2⟩; have hs := HS.out w2 v hb2 ho)
    | (go_at_call 41; refine hs.mono ?_; rintro e w3 ⟨rfl, a3, c3, e3, hl3, hb3⟩))
  subst e3
  go_ret
  exact ⟨a3, c3, rfl, hl3, hb3⟩
end

end Go.Proofs.Ytedbiaopbfejfaa
