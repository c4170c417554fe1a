/-
  What Keys does: all keys, by deadline, and of one deadline by key, in new memory. Conditions: the wheel lies where it is said to lie.
-/
import Derived.Test.YtahdeliopmkpmaaDue
namespace Go.Proofs.Ytahdeliopmkpmaa
open Go.ChangeShapes Go.WideShapes Go.ChangeAt Go.RowKit Go.Maps

theorem keys_nil (w : World) : Calls Try.prog 25 #[.pointer none] w fun e w' => e = .returned (.slice none 0 0) ∧ Below w.heap.size w w' := by
  go_enter Try.func25, Try.ntmps25
  go_wp2
  go_ret
  exact ⟨rfl, (Below.refl _ _).alloc (Nat.le_refl _) _⟩

set_option maxRecDepth 100000 in
theorem closure_any (b0 g : Nat) (mv : Value) (e f : Ent) (i j : Nat) (W : World) (hb : W.cell? ⟨b0, 0, none⟩ = some (.pointer (some ⟨g, 0, none⟩))) (hg : W.cell? ⟨g, 0, none⟩ = some mv) (he : EntAt W e i) (hf : EntAt W f j)
    (l1 : ∀ n, (Instr.lookup 58 mv (.int .i64 e.k) false).run Try.prog (W.drewN n) = .ok (ptrE e) (W.drewN n)) (l2 : ∀ n, (Instr.lookup 58 mv (.int .i64 f.k) false).run Try.prog (W.drewN n) = .ok (ptrE f) (W.drewN n)) :
    Calls Try.prog 41 #[.int .i64 e.k, .int .i64 f.k, .pointer (some ⟨b0, 0, none⟩)] W fun x w' => x = .returned (.int .i64 (cmpE e f)) ∧ ∃ q, w' = W.drewN q := by
  unfold ptrE at l1 l2
  go_enter Try.func41, Try.ntmps41
  go_wp2
  go_quiet (first | (go_at_call 42; exact Calls.quiet_of (compare_any e f i j _ he hf)))
  go_wp2
  go_ret
  exact ⟨rfl, _, rfl⟩

/-- By deadline, and of one deadline by key. -/
def leE (x y : Ent) : Bool := !ltE y x
def ordE (L : List Ent) : List Ent := L.mergeSort leE
theorem ordE_perm (L : List Ent) : (ordE L).Perm L := List.mergeSort_perm _ _
theorem ordE_length (L : List Ent) : (ordE L).length = L.length := (ordE_perm L).length_eq

section
open Go.Sort
variable {α : Type} [Inhabited α]

theorem grown_sorted_g (enc : α → Value) {w : World} {g n : Nat} {os : Array Obj} (d : Array α) : w.grownBy (sortWorld enc w g 0 n d os) (some g) := by
  refine ⟨rfl, rfl, rfl, by simp [sortWorld], fun k hk hne => ?_⟩
  unfold sortWorld
  rw [heap_grow_old _ _ (by simpa using hk)]
  have : g ≠ k := fun e => hne (by rw [e])
  simp [putRow, mapBlock, Sort.ahead, Array.getElem?_modify, this]

theorem heap_sorted_g (enc : α → Value) {w : World} {g n : Nat} {os : Array Obj} {cur : Array Value} {e : TypeId} {fr : Nat × Nat} (d : Array α) (hb : w.heap[g]? = some (.cells cur e fr)) :
    (sortWorld enc w g 0 n d os).heap[g]? = some (.cells (putCells enc 0 d cur) e fr) := by
  have hg : g < w.heap.size := (Array.getElem?_eq_some_iff.1 hb).1
  unfold sortWorld
  rw [heap_grow_old _ _ (by simpa using hg)]
  simp [putRow, mapBlock, Sort.ahead, Array.getElem?_modify, hb, onCells]

theorem take_put_g (enc : α → Value) (cur : Array Value) (ts : List α) (h : ts.length ≤ cur.size) : (putCells enc 0 ts.toArray cur).toList.take ts.length = ts.map enc := by
  apply List.ext_getElem?
  intro j
  by_cases hj : j < ts.length
  · have hj2 : j < cur.size := by omega
    simp [putCells, hj, hj2]
  · rw [List.getElem?_take_eq_none (by omega), List.getElem?_eq_none (by simp; omega)]

end

theorem swoE (L : List Ent) : Go.Sort.SWO (Go.Proofs.ltOf fun x y : {e // e ∈ L} => cmpE x.1 y.1) where
  irrefl x := by unfold Go.Proofs.ltOf; rw [cmpE_lt]; unfold ltE; simp
  trans x y z h1 h2 := by
    unfold Go.Proofs.ltOf at *
    rw [cmpE_lt] at *
    unfold ltE at *
    simp at *
    omega
  ntrans x y z h1 h2 := by
    unfold Go.Proofs.ltOf at *
    rw [cmpE_lt] at *
    exact not_of_ge ((ge_of_not h1).trans (ge_of_not h2))

theorem totE {L : List Ent} (hap : L.Pairwise (fun x y => x.k ≠ y.k)) (x y : {e // e ∈ L}) (h1 : Go.Proofs.ltOf (fun x y : {e // e ∈ L} => cmpE x.1 y.1) x y = false) (h2 : Go.Proofs.ltOf (fun x y : {e // e ∈ L} => cmpE x.1 y.1) y x = false) : x = y := by
  unfold Go.Proofs.ltOf at *
  rw [cmpE_lt] at *
  have g1 := ge_of_not h1
  have g2 := ge_of_not h2
  unfold Ge at g1 g2
  have hk : x.1.k = y.1.k := by omega
  apply Subtype.ext
  obtain ⟨i, hi, ei⟩ := mem_nth x.2
  obtain ⟨j, hj, ej⟩ := mem_nth y.2
  rw [nth_eq hi] at ei
  rw [nth_eq hj] at ej
  have hp := List.pairwise_iff_getElem.1 hap
  rcases Nat.lt_trichotomy i j with h | h | h
  · exact absurd (by rw [ei, ej]; exact hk) (hp i j hi hj h)
  · subst h; rw [← ei, ← ej]
  · exact absurd (by rw [ei, ej]; exact hk.symm) (hp j i hj hi h)

set_option maxHeartbeats 1000000 in
theorem sortf_any (w : World) (A : Nat → Prop) (g b0 gk base : Nat) (mv ov : Value) (L : List Ent) (cur : Array Value) (h : WIn w A g mv ov L) (h0 : 0 < L.length) (hb0 : w.cell? ⟨b0, 0, none⟩ = some (.pointer (some ⟨g, 0, none⟩))) (hne : b0 ≠ gk) (hA : A gk)
    (hg : w.heap[gk]? = some (.cells cur 3 (0, 0))) (hcs : cur.size = L.length) (ht : cur.toList = ic (L.map Ent.k)) (hbase : base ≤ gk) :
    Calls Try.prog 40 #[.slice (some ⟨gk, 0, none⟩) L.length L.length, .func (.func 41) #[] #[.pointer (some ⟨b0, 0, none⟩)]] w fun e w' => e = .returned (.tuple #[]) ∧
      w'.ownsRow base 3 1 (.slice (some ⟨gk, 0, none⟩) L.length L.length) L.length (ic ((ordE L).map Ent.k)) ∧ w.grownBy w' (some gk) := by
  haveI : Inhabited {e // e ∈ L} := ⟨⟨nth L 0, nth_mem h0⟩⟩
  have eg : ∀ args w, (callFunc 41 args).run Try.prog w = .ok (.enter 41 args) w := Go.Proofs.enters_of Try.func41 (by kernel_rfl) rfl
  have hds : L.attach.toArray.size = L.length := by simp
  have hH : Go.Sort.Holds (fun x : {e // e ∈ L} => Value.int .i64 x.1.k) w gk 0 L.attach.toArray := by
    intro j hj
    rw [hds] at hj
    refine ⟨?_, frozen_of_row w gk (0 + j) cur 3 hg⟩
    have h1 : cur.toList[j]? = some (Value.int .i64 (nth L j).k) := by
      rw [ht, nth_eq hj]; simp [ic, hj]
    rw [getElem!_pos _ j (by rw [hds]; exact hj)]
    simp [World.cell?, hg]
    simp at h1
    rw [h1, nth_eq hj]
  have hcmp : Go.Proofs.CmpReads Try.prog 41 #[.pointer (some ⟨b0, 0, none⟩)] (fun x : {e // e ∈ L} => Value.int .i64 x.1.k) (fun x y => cmpE x.1 y.1) gk 0 L.attach.toArray.size w := by
    intro m os dk hs x y
    have hgr := grown_sorted_g (fun x : {e // e ∈ L} => Value.int .i64 x.1.k) (w := w) (g := gk) (n := m) (os := os) dk
    generalize Go.Proofs.sortWorld (fun x : {e // e ∈ L} => Value.int .i64 x.1.k) w gk 0 m dk os = W at hgr ⊢
    have hk : Keep (fun k => ¬ A k) w W := keep_grown hgr (fun k hk hn => by cases hk; exact hn hA)
    have hW := h.others hk
    obtain ⟨i, hi, ei⟩ := mem_nth x.2
    obtain ⟨j, hj, ej⟩ := mem_nth y.2
    have he := hW.ord.ent i hi
    have hf := hW.ord.ent j hj
    rw [ei] at he
    rw [ej] at hf
    refine closure_any b0 g mv x.1 y.1 i j W (hgr.cell hb0 (by simp [hne])) hW.blk.c0 he hf (fun n => ?_) (fun n => ?_)
    · exact (hW.drewN n).map.look x.2 (h.wf _ x.2) false
    · exact (hW.drewN n).map.look y.2 (h.wf _ y.2) false
  have hcon := Try.slices_SortFunc_total (fun x : {e // e ∈ L} => Value.int .i64 x.1.k) (fun _ => rfl) (fun x y => cmpE x.1 y.1) (swoE L) 41 #[.pointer (some ⟨b0, 0, none⟩)] gk 0 L.length L.attach.toArray w eg hcmp.lays hH (Array.getElem?_eq_some_iff.1 hg).1 (by rw [hds]; have := h.few; omega) (totE h.apart)
  rw [hds] at hcon
  refine hcon.mono ?_
  rintro e w' ⟨rfl, n, os, rfl⟩
  refine ⟨rfl, ?_, grown_sorted_g _ _⟩
  have hlen : (L.attach.mergeSort fun x y => !Go.Proofs.ltOf (fun x y : {e // e ∈ L} => cmpE x.1 y.1) y x).length = L.length := by simp
  have hmap : (L.attach.mergeSort fun x y => !Go.Proofs.ltOf (fun x y : {e // e ∈ L} => cmpE x.1 y.1) y x).map (fun x => Value.int .i64 x.1.k) = ic ((ordE L).map Ent.k) := by
    have h1 := List.map_mergeSort (f := Subtype.val) (r := fun x y : {e // e ∈ L} => !Go.Proofs.ltOf (fun x y : {e // e ∈ L} => cmpE x.1 y.1) y x) (s := leE) (l := L.attach) (fun a _ b _ => by unfold leE Go.Proofs.ltOf; rw [cmpE_lt])
    rw [List.attach_map_subtype_val] at h1
    unfold ordE ic
    rw [← h1, List.map_map, List.map_map]
    rfl
  refine ⟨by rw [ic_length, List.length_map, ordE_length, Nat.mul_one], .inr ⟨gk, L.length, _, rfl, hbase, heap_sorted_g _ _ hg, Nat.le_refl _, ?_, ?_, ?_⟩⟩
  · have := h.few; unfold maxLen; omega
  · simp [Go.Sort.putCells, hcs]
  · rw [Nat.mul_one, ← hmap, ← hlen]
    exact take_put_g _ _ _ (by rw [hlen, hcs]; exact Nat.le_refl _)

/-- Numbers at places. -/
theorem ext_keys {L : List Ent} {xs : List Int} (hl : xs.length = L.length) (h : ∀ j, j < L.length → xs.getD j 0 = (nth L j).k) : xs = L.map Ent.k := by
  apply List.ext_getElem?
  intro j
  by_cases hj : j < L.length
  · have h1 := h j hj
    have hj' : j < xs.length := by omega
    rw [nth_eq hj] at h1
    simp [List.getD_eq_getElem?_getD, hj'] at h1
    simp [hj, hj', h1]
  · rw [List.getElem?_eq_none (by omega), List.getElem?_eq_none (by simp; omega)]

set_option maxHeartbeats 2000000 in
set_option maxRecDepth 100000 in
theorem keys_any (w : World) (A : Nat → Prop) (g : Nat) (mv ov : Value) (L : List Ent) (h : WIn w A g mv ov L) :
    Calls Try.prog 25 #[.pointer (some ⟨g, 0, none⟩)] w fun x w' => ∃ v, x = .returned v ∧ w'.ownsRow w.heap.size 3 1 v L.length (ic ((ordE L).map Ent.k)) ∧ Below w.heap.size w w' := by
  obtain ⟨ti, hi, hz0, hz1, hz2⟩ := info_parts info3
  have hb1 : Below w.heap.size w (w.alloc (.cells #[.pointer (some ⟨g, 0, none⟩)] 24)) := (Below.refl _ _).alloc (Nat.le_refl _) _
  have hw1 := h.below hb1
  have hfew := h.few
  obtain ⟨w2, hmk, hown2, hgr2⟩ := run_make_full (P := Try.prog) (w.alloc (.cells #[.pointer (some ⟨g, 0, none⟩)] 24)) w.heap.size 26 3 ti (.int .i64 0) 1 Try.underlying26 hi hz0 hz1 .i64 .i64 L.length (by rw [hz2]; omega) (by unfold maxLen; omega) (by simp)
  rw [World.size_alloc] at hmk hown2
  have hb2 : Below w.heap.size w w2 := hb1.trans ⟨hgr2.os, hgr2.tape, hgr2.output, hgr2.size, fun k hk => hgr2.block k (by simp; omega) (by simp)⟩
  have hc0 : w2.cell? ⟨w.heap.size, 0, none⟩ = some (.pointer (some ⟨g, 0, none⟩)) := hgr2.cell (by simp) (by simp)
  have hgl := h.blk.lt
  obtain ⟨a, cap, hov⟩ := ov_shape h.ord
  have c1 := h.blk.c1
  have c1b : (w.alloc (.cells #[.pointer (some ⟨g, 0, none⟩)] 24)).cell? ⟨g, 1, none⟩ = some (.slice a L.length cap) := by rw [← hov]; exact hw1.blk.c1
  have c12 : w2.cell? ⟨g, 1, none⟩ = some (.slice a L.length cap) := by rw [← hov]; exact (h.below hb2).blk.c1
  have hrep : (madeCells (Value.int .i64 0).cells (L.length * 1)).toList = ic (List.replicate L.length 0) := by
    rw [Nat.mul_one]
    show (madeCells #[Value.int .i64 0] L.length).toList = _
    rw [toList_madeCells_one]
    simp [ic]
  rw [hrep] at hown2
  have HW : Hid (WIn w A g mv ov L) := h
  have HB : Hid (Below w.heap.size w w2) := hb2
  subst hov
  clear h hw1 hb1 hb2 hgr2 hrep
  go_enter Try.func25, Try.ntmps25
  go_wp2
  go_loopw [19] (fun vi wr => ∃ (i : Nat) (xs : List Int), vi = .int .i64 i ∧ i ≤ L.length ∧ xs.length = L.length ∧ (∀ j, j < i → xs.getD j 0 = (nth L j).k) ∧
      wr.ownsRow w.heap.size 3 1 (.slice (some ⟨w.heap.size + 1, 0, none⟩) L.length L.length) L.length (ic xs) ∧ wr.cell? ⟨w.heap.size, 0, none⟩ = some (.pointer (some ⟨g, 0, none⟩)) ∧ Below w.heap.size w wr) (fun vi _ => L.length - (intOf vi).toNat)
  case atStart => exact ⟨0, List.replicate L.length 0, rfl, Nat.zero_le _, by simp, fun j hj => absurd hj (Nat.not_lt_zero _), hown2, hc0, HB.out⟩
  case round =>
    obtain ⟨i, xs, rfl, hi1, hxl, hxs, hown, hcb, hbl⟩ := hrel
    have hW := HW.out.below hbl
    by_cases hlt : i < L.length
    · obtain ⟨gs, cap', cur, e0, hg, _, hle, hcap, hcs, ht⟩ := hW.ord.row (by omega)
      simp only [Value.slice.injEq, true_and] at e0
      obtain ⟨rfl, rfl⟩ := e0
      have cm := row_cell hg ht hlt
      have e1 := (hW.ord.ent i hlt).c0
      have ck : ∃ u, wr.cell? ⟨w.heap.size + 1, i, none⟩ = some u := by
        have := hown.cells (g := w.heap.size + 1) rfl i (Value.int .i64 (xs.getD i 0)) (by simp [ic, List.getD_eq_getElem?_getD, show i < xs.length by omega])
        rw [show ((⟨w.heap.size + 1, 0, none⟩ : Addr).add i) = ⟨w.heap.size + 1, i, none⟩ by unfold Addr.add; split <;> simp_all] at this
        exact ⟨_, this⟩
      obtain ⟨u, ck⟩ := ck
      have fk := hown.frozenAt i
      have hst := (hown.stored i (.int .i64 (nth L i).k)).1
      have HS : Hid ((wr.setCell ⟨w.heap.size + 1, i, none⟩ (.int .i64 (nth L i).k)).ownsRow w.heap.size 3 1 (.slice (some ⟨w.heap.size + 1, 0, none⟩) L.length L.length) L.length (ic (xs.set i (nth L i).k))) := by
        unfold ic at hst ⊢
        rw [List.map_set]; exact hst
      have HX : Hid (∀ j, j < i → xs.getD j 0 = (nth L j).k) := hxs
      unfold ptrE at cm
      unfold maxLen at hcap
      clear hW hg ht hcs hst hown hxs c1b c12
      generalize hxx : nth L i = x at cm e1 HS
      have HXX : Hid (nth L i = x) := hxx
      clear hxx
      go_wp2
      refine ⟨⟨i + 1, xs.set i x.k, by simp, by omega, by simpa using hxl, fun j hj => ?_, HS.out, ?_, ?_⟩, by simp [intOf]; omega⟩
      · by_cases hji : j = i
        · subst hji
          rw [HXX.out]
          simp [List.getD_eq_getElem?_getD, show j < xs.length by omega]
        · rw [← HX.out j (by omega)]
          simp [List.getD_eq_getElem?_getD, show ¬ i = j from fun e => hji e.symm]
      · rw [World.cell?_setCell_other _ _ _ _ (by simp)]; exact hcb
      · exact ⟨hbl.os, hbl.tape, hbl.output, by simpa using hbl.size, fun k hk => (heap_setCell_other wr _ k _ (by simp; omega)).trans (hbl.block k hk)⟩
    · obtain rfl : i = L.length := by omega
      have hkx := ext_keys hxl hxs
      subst hkx
      have hsf : Calls Try.prog 40 #[.slice (some ⟨w.heap.size + 1, 0, none⟩) L.length L.length, .func (.func 41) #[] #[.pointer (some ⟨w.heap.size, 0, none⟩)]] wr fun e w' => e = .returned (.tuple #[]) ∧
          w'.ownsRow w.heap.size 3 1 (.slice (some ⟨w.heap.size + 1, 0, none⟩) L.length L.length) L.length (ic ((ordE L).map Ent.k)) ∧ Below w.heap.size w w' := by
        by_cases h0 : 0 < L.length
        · rcases hown.2 with ⟨h1, _⟩ | ⟨gk, cp, cur, h1, h2, h3, h4, h5, h6, h7⟩
          · simp at h1
          · simp only [Value.slice.injEq, Option.some.injEq, Addr.mk.injEq, and_true, true_and] at h1
            obtain ⟨rfl, rfl⟩ := h1
            have hlt2 := (Array.getElem?_eq_some_iff.1 h3).1
            refine (sortf_any wr _ g w.heap.size (w.heap.size + 1) w.heap.size mv _ L cur hW h0 hcb (by omega) (.inr ⟨by omega, hlt2⟩) h3 (by omega) ?_ (by omega)).mono ?_
            · rw [← h7, List.take_of_length_le]
              simp; omega
            · rintro e w' ⟨rfl, q1, q2⟩
              exact ⟨rfl, q1, hbl.trans ⟨q2.os, q2.tape, q2.output, q2.size, fun k hk => q2.block k (by have := hbl.size; omega) (by simp; omega)⟩⟩
        · have h1 : L = [] := List.eq_nil_of_length_eq_zero (by omega)
          subst h1
          refine (Try.slices_SortFunc_none (α := Unit) _ _ _ wr).mono ?_
          rintro e w' ⟨rfl, rfl⟩
          refine ⟨rfl, ?_, hbl⟩
          simpa [ordE] using hown
      clear hown hcb hxl hxs hW c12 c1b hown2 hmk hlt
      go_wp2_with (first | (go_at_call 40; refine hsf.mono ?_; rintro e w' ⟨rfl, q1, q2⟩))
      go_ret
      exact ⟨_, rfl, q1, q2⟩

end Go.Proofs.Ytahdeliopmkpmaa
