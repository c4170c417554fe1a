/-
  What Set and Cancel do, each as a contract, of nil too. Conditions: the wheel lies where it is said to lie; it has fewer than 999 keys; keys are ints.
-/
import Derived.Test.YtahdeliopmkpmaaWheel
import Derived.Deep.RegionWith
namespace Go.Proofs.Ytahdeliopmkpmaa
open Go.ChangeShapes Go.WideShapes Go.ChangeAt Go.RowKit Go.Maps

theorem set_nil (k a : Int) (w : World) : Calls Try.prog 14 #[.pointer none, .int .i64 k, .int .i64 a] w fun e w' => e = .returned (.bool false) ∧ w' = w := by
  go_enter Try.func14, Try.ntmps14
  go_wp2
  go_ret
  exact ⟨rfl, rfl⟩

theorem cancel_nil (k : Int) (w : World) : Calls Try.prog 16 #[.pointer none, .int .i64 k] w fun e w' => e = .returned (.bool false) ∧ w' = w := by
  go_enter Try.func16, Try.ntmps16
  go_wp2
  go_ret
  exact ⟨rfl, rfl⟩

/-- One entry has another deadline. -/
def upd (L : List Ent) (i : Nat) (a : Int) : List Ent := L.set i ⟨(nth L i).b, (nth L i).k, a⟩
theorem upd_length (L : List Ent) (i : Nat) (a : Int) : (upd L i a).length = L.length := by simp [upd]
theorem nth_upd {L : List Ent} {i : Nat} (hi : i < L.length) (a : Int) (c : Nat) : nth (upd L i a) c = if c = i then ⟨(nth L i).b, (nth L i).k, a⟩ else nth L c := by
  unfold upd nth
  simp only [List.getD_eq_getElem?_getD, List.getElem?_set]
  by_cases h : c = i
  · subst h; simp [hi]
  · have h' : ¬ i = c := fun e => h e.symm
    simp [h, h']
theorem upd_map {L : List Ent} {i : Nat} (hi : i < L.length) (a : Int) {β : Type} (f : Ent → β) (hf : ∀ x : Ent, f ⟨x.b, x.k, a⟩ = f x) : (upd L i a).map f = L.map f := by
  unfold upd
  rw [List.map_set, hf, nth_eq hi]
  apply List.ext_getElem?
  intro j
  rw [List.getElem?_set]
  by_cases h : i = j
  · subst h; simp [hi]
  · simp [h]

theorem upd_ord {w : World} {A : Nat → Prop} {ov : Value} {L : List Ent} (h : OIn w A ov L) {i : Nat} (hi : i < L.length) (a : Int) : OIn (w.setCell ⟨(nth L i).b, 1, none⟩ (.int .i64 a)) A ov (upd L i a) := by
  have hrow : ∀ k, ov.ownBlock = some k → k ≠ (nth L i).b := fun k hk e1 => by
    obtain ⟨cur, hc⟩ := row_ne_ent h hk
    have he := h.ent i hi
    unfold EntAt at he; rw [← e1, hc] at he; simp at he
  refine ⟨?_, h.out, fun c hc => ?_, fun c hc => ?_⟩
  · rw [upd_length, upd_map hi a ptrE (fun _ => rfl)]
    refine h.own.kept (grown_set1 w (nth L i).b 1 _) ?_
    cases hk : ov.ownBlock with
    | none => exact .inl rfl
    | some k => exact .inr (fun e1 => hrow k hk (by cases e1; rfl))
  · rw [upd_length] at hc
    rw [nth_upd hi]
    by_cases e : c = i
    · rw [if_pos e, e]
      have he := h.ent i hi
      unfold EntAt at he ⊢
      rw [heap_setCell_same w _ 1 _ 66 _ he]; simp
    · rw [if_neg e]
      exact (h.ent c hc).put_other _ (fun e1 => e (h.inj hc hi e1)) _
  · rw [upd_length] at hc
    rw [nth_upd hi]
    by_cases e : c = i
    · rw [if_pos e]; exact h.eout i hi
    · rw [if_neg e]; exact h.eout c hc

theorem upd_mem {L : List Ent} {i : Nat} (hi : i < L.length) {a : Int} {x : Ent} (h : x ∈ upd L i a) : ∃ y ∈ L, y.k = x.k ∧ y.b = x.b := by
  obtain ⟨j, hj, rfl⟩ := mem_nth h
  rw [upd_length] at hj
  rw [nth_upd hi]
  split
  · exact ⟨nth L i, nth_mem hi, rfl, rfl⟩
  · exact ⟨_, nth_mem hj, rfl, rfl⟩

theorem upd_mem' {L : List Ent} {i : Nat} (hi : i < L.length) (a : Int) {x : Ent} (h : x ∈ L) : ∃ y ∈ upd L i a, y.k = x.k ∧ y.b = x.b := by
  obtain ⟨j, hj, rfl⟩ := mem_nth h
  refine ⟨nth (upd L i a) j, nth_mem (by rw [upd_length]; exact hj), ?_⟩
  rw [nth_upd hi]
  split
  · rename_i e; subst e; exact ⟨rfl, rfl⟩
  · exact ⟨rfl, rfl⟩

theorem upd_tells {D : DataW Unit} {L : List Ent} (h : Tells D L) {i : Nat} (hi : i < L.length) (a : Int) : Tells D (upd L i a) := by
  refine ⟨fun x hx => ?_, fun k hk => h.none k (fun x hx => ?_)⟩
  · obtain ⟨y, hy, h1, h2⟩ := upd_mem hi hx
    have := h.has y hy
    rw [h1, h2] at this
    exact this
  · obtain ⟨y, hy, h1, _⟩ := upd_mem' hi a hx
    rw [← h1]; exact hk y hy

theorem upd_mapin {w : World} {A : Nat → Prop} {mv : Value} {L : List Ent} (h : MIn w A mv L) {i : Nat} (hi : i < L.length) (a : Int) : MIn w A mv (upd L i a) := by
  rcases h with ⟨h1, rfl⟩ | ⟨gm, D, h1, h2, h3, h4⟩
  · simp at hi
  · exact .inr ⟨gm, D, h1, h2, by rw [upd_length]; exact h3, upd_tells h4 hi a⟩

theorem upd_apart {L : List Ent} (h : L.Pairwise (fun x y => x.k ≠ y.k)) {i : Nat} (hi : i < L.length) (a : Int) : (upd L i a).Pairwise (fun x y => x.k ≠ y.k) := by
  have h1 : (L.map Ent.k).Pairwise (· ≠ ·) := List.pairwise_map.2 h
  rw [← upd_map hi a Ent.k (fun _ => rfl)] at h1
  exact List.pairwise_map.1 h1

theorem pairwise_perm {L L' : List Ent} (h : L.Pairwise (fun x y => x.k ≠ y.k)) (hp : L'.Perm L) : L'.Pairwise (fun x y => x.k ≠ y.k) :=
  (hp.pairwise_iff (fun {_ _} hne => Ne.symm hne)).2 h

set_option maxHeartbeats 1000000 in
set_option maxRecDepth 100000 in
theorem set_hit (w : World) (A : Nat → Prop) (g : Nat) (mv ov : Value) (L : List Ent) (i : Nat) (a : Int) (h : WIn w A g mv ov L) (hi : i < L.length) :
    Calls Try.prog 14 #[.pointer (some ⟨g, 0, none⟩), .int .i64 (nth L i).k, .int .i64 a] w fun x w' => x = .returned (.bool true) ∧ ∃ L', WIn w' A g mv ov L' ∧ L'.Perm (upd L i (cut a)) ∧ Keep A w w' := by
  have c0 := h.blk.c0
  have hl := h.map.look (nth_mem hi) (h.wf _ (nth_mem hi)) true
  unfold ptrE at hl
  rw [if_pos rfl] at hl
  have he := h.ord.ent i hi
  have e1 := he.c1
  have e2 := he.c2
  have f1 := he.fz 1
  have heg : (nth L i).b ≠ g := fun e => h.ord.eout i hi (.inr e)
  have hbw : Blk (w.setCell ⟨(nth L i).b, 1, none⟩ (.int .i64 (cut a))) g mv ov := h.blk.of_block (heap_setCell_other w _ g _ (Ne.symm heg))
  have ho := upd_ord h.ord hi (cut a)
  have hd : DownI (upd L i (cut a)).length (upd L i (cut a)) i i := by
    rw [upd_length]
    exact DownI.other h.heap (fun c hc hne => by rw [nth_upd hi, if_neg hne])
  have hfix := fix_any (Mo A mv) g mv ov (upd L i (cut a)) i (w.setCell ⟨(nth L i).b, 1, none⟩ (.int .i64 (cut a))).drew hbw (ho.congr rfl) (by rw [upd_length]; exact hi) (by rw [upd_length]; have := h.few; omega) hd
  have hk1 : Keep (Mo A mv) w (w.setCell ⟨(nth L i).b, 1, none⟩ (.int .i64 (cut a))) := (Keep.refl _ w).setCell (fun hb => h.ord.eout i hi (.inl hb)) _
  have hgl := h.blk.lt
  have HW : Hid (WIn w A g mv ov L) := h
  have HF : Hid (∀ w2, (∃ L', Blk w2 g mv ov ∧ OIn w2 (fun k => Mo A mv k ∨ k = g) ov L' ∧ L'.Perm (upd L i (cut a)) ∧ HeapN L'.length L' ∧ Keep (Mo A mv) (w.setCell ⟨(nth L i).b, 1, none⟩ (.int .i64 (cut a))).drew w2) →
      ∃ L', WIn w2 A g mv ov L' ∧ L'.Perm (upd L i (cut a)) ∧ Keep A w w2) := by
    rintro w2 ⟨L', hb2, ho2, hp2, hh2, hk2⟩
    have hk : Keep (Mo A mv) w w2 := hk1.drew.trans hk2
    refine ⟨L', ⟨hb2, h.gout, ho2, ?_, ?_, pairwise_perm (upd_apart h.apart hi _) hp2, fun k hk' => Nat.lt_of_lt_of_le (h.guard k hk') hk.size, hh2, ?_⟩, hp2, hk.mono fun _ _ hb => .inl hb⟩
    · exact ((upd_mapin h.map hi (cut a)).perm hp2).keep hk (fun gm hg => .inr hg)
    · intro x hx
      obtain ⟨y, hy, h1, _⟩ := upd_mem hi (hp2.mem_iff.1 hx)
      rw [← h1]; exact h.wf y hy
    · rw [hp2.length_eq, upd_length]; exact h.few
  clear h hbw ho hd hk1 he
  generalize nth L i = x at *
  go_enter Try.func14, Try.ntmps14
  go_wp2_with (first | (go_at_call 31; refine (cut_any _ _).mono ?_; rintro e w' ⟨rfl, rfl⟩))
  go_region_with (first | (go_at_call 32; refine hfix.mono ?_; rintro e w2 ⟨rfl, hw2⟩))
  go_wp2
  go_ret
  exact ⟨rfl, HF.out _ hw2⟩

theorem eqm_some (gm : Nat) (w : World) : Sem.run Try.prog (binOp BinOp.eql 58 (.map (some gm)) (.map none)) w = .ok (.bool false) w := by kernel_rfl
theorem eqm_none (w : World) : Sem.run Try.prog (binOp BinOp.eql 58 (.map none) (.map none)) w = .ok (.bool true) w := by kernel_rfl

/-- A new one. -/
theorem WIn.added {w w2 : World} {A : Nat → Prop} {g : Nat} {mv ov mv2 ov2 : Value} {L L2 : List Ent} {e : Ent} (h : WIn w A g mv ov L) (hn : ∀ x ∈ L, x.k ≠ e.k) (hwf : Wf e.k) (hl : L.length < 999)
    (hb : Blk w2 g mv2 ov2) (ho : OIn w2 (fun k => Mo A mv2 k ∨ k = g) ov2 L2) (hm : MIn w2 A mv2 (L ++ [e])) (hp : L2.Perm (L ++ [e])) (hh : HeapN L2.length L2) (hk : w.heap.size ≤ w2.heap.size) : WIn w2 A g mv2 ov2 L2 := by
  refine ⟨hb, h.gout, ho, hm.perm hp, fun x hx => ?_, pairwise_perm ?_ hp, fun k hk' => Nat.lt_of_lt_of_le (h.guard k hk') hk, hh, ?_⟩
  · rcases List.mem_append.1 (hp.mem_iff.1 hx) with h1 | h1
    · exact h.wf x h1
    · simp at h1; subst h1; exact hwf
  · refine List.pairwise_append.2 ⟨h.apart, List.pairwise_singleton _ _, fun x hx y hy => ?_⟩
    simp at hy; subst hy
    exact hn x hx
  · rw [hp.length_eq]; simp; omega

theorem EntAt.keep {w w' : World} {e : Ent} {i : Nat} {A : Nat → Prop} (h : EntAt w e i) (hk : Keep A w w') (hA : A e.b) : EntAt w' e i := (hk.block e.b h.lt hA).trans h

/-- The new entry, put into the order. -/
theorem set_push {w w2 : World} {A : Nat → Prop} {g gm : Nat} {mv ov : Value} {L : List Ent} {e : Ent} {D : DataW Unit} (h : WIn w A g mv ov L) (hn : ∀ x ∈ L, x.k ≠ e.k) (hwf : Wf e.k) (hl : L.length < 999)
    (hb : Blk w2 g (.map (some gm)) ov) (hown : w2.ownsMap Try.prog 3 ptrElem gm (L.length + 1) D) (ht : Tells D (L ++ [e])) (he : EntAt w2 e 0) (hk : Keep (fun k => k ≠ gm ∧ k ≠ g) w w2) (hnew : w.heap.size ≤ e.b)
    (hA : ¬ A gm) (h1 : ∀ k, ov.ownBlock = some k → k ≠ gm) (h2 : ∀ i, i < L.length → (nth L i).b ≠ gm) (heg : e.b ≠ gm) (hsz : ∀ k, A k → k < w.heap.size) :
    Calls Try.prog 33 #[.iface 68 (.pointer (some ⟨g, 1, none⟩)), .iface 63 (.pointer (some ⟨e.b, 0, none⟩))] w2 fun x w' => x = .returned (.tuple #[]) ∧
      ∃ ov' L', WIn w' A g (.map (some gm)) ov' L' ∧ L'.Perm (L ++ [e]) ∧ Keep A w w' := by
  have hMo : ∀ k, Mo A (.map (some gm)) k → A k ∨ k = gm := fun k hk => hk.imp id (fun e => by simpa using e.symm)
  have ho0 := h.ord.last hk (fun k hk' => ⟨h1 k hk', fun e1 => h.ord.out k hk' (.inr e1)⟩) (fun i hi => ⟨h2 i hi, fun e1 => h.ord.eout i hi (.inr e1)⟩)
  have ho : OIn w2 (fun k => Mo A (.map (some gm)) k ∨ k = g) ov L := by
    refine ho0.guard (fun k hk' => ?_) (fun i hi => ?_)
    · rintro (h3 | h3)
      · rcases hMo k h3 with h4 | h4
        · exact h.ord.out k hk' (.inl (.inl h4))
        · exact h1 k hk' h4
      · exact h.ord.out k hk' (.inr h3)
    · rintro (h3 | h3)
      · rcases hMo _ h3 with h4 | h4
        · exact h.ord.eout i hi (.inl (.inl h4))
        · exact h2 i hi h4
      · exact h.ord.eout i hi (.inr h3)
  have hgd : ∀ k, Mo A (.map (some gm)) k → k < w2.heap.size := fun k hk' => by
    rcases hMo k hk' with h4 | h4
    · exact Nat.lt_of_lt_of_le (hsz k h4) hk.size
    · rw [h4]; exact hown.lt
  have hgB : ¬ Mo A (.map (some gm)) g := fun h3 => by
    rcases hMo g h3 with h4 | h4
    · exact h.gout h4
    · obtain ⟨es, cl, h5, _⟩ := hown
      unfold Blk at hb
      rw [← h4, hb] at h5; simp at h5
  have heB : ¬ Mo A (.map (some gm)) e.b := fun h3 => by
    rcases hMo _ h3 with h4 | h4
    · have := hsz _ h4; omega
    · exact heg h4
  refine (push_any (Mo A (.map (some gm))) g (.map (some gm)) ov L e 0 w2 hb ho hgd hgB he heB (fun i hi e1 => ?_) (by omega) h.heap).mono ?_
  · have := (h.ord.ent i hi).lt; omega
  · rintro x w' ⟨rfl, ov', L', hb', ho', hp', hh', hk'⟩
    have hmin : MIn w2 A (.map (some gm)) (L ++ [e]) := .inr ⟨gm, D, rfl, hA, by simpa using hown, ht⟩
    refine ⟨rfl, ov', L', h.added hn hwf hl hb' ho' (hmin.keep hk' (fun _ hg => .inr hg)) hp' hh' (Nat.le_trans hk.size hk'.size), hp', ?_⟩
    refine (hk.mono fun k _ hk2 => ⟨fun e1 => hA (e1 ▸ hk2), fun e1 => h.gout (e1 ▸ hk2)⟩).trans (hk'.mono fun _ _ h3 => .inl h3)

set_option maxHeartbeats 1000000 in
set_option maxRecDepth 100000 in
theorem set_new (w : World) (A : Nat → Prop) (g gm : Nat) (ov : Value) (L : List Ent) (k a : Int) (h : WIn w A g (.map (some gm)) ov L) (hn : ∀ x ∈ L, x.k ≠ k) (hw : Wf k) (hl : L.length < 999) :
    Calls Try.prog 14 #[.pointer (some ⟨g, 0, none⟩), .int .i64 k, .int .i64 a] w fun x w' => x = .returned (.bool false) ∧ ∃ b ov' L', WIn w' A g (.map (some gm)) ov' L' ∧ L'.Perm (L ++ [⟨b, k, cut a⟩]) ∧ Keep A w w' := by
  have c0 := h.blk.c0
  have hmiss := h.map.miss hn hw
  have hgl := h.blk.lt
  obtain ⟨D, hAm, hown, htl⟩ : ∃ D, ¬ A gm ∧ w.ownsMap Try.prog 3 ptrElem gm L.length D ∧ Tells D L := by
    rcases h.map with ⟨h1, _⟩ | ⟨gm', D, h1, h2, h3, h4⟩
    · simp at h1
    · simp at h1; subst h1; exact ⟨D, h2, h3, h4⟩
  have hgm := hown.lt
  have hkey := keyOf3 hw
  have HW : Hid (WIn w A g (.map (some gm)) ov L) := h
  have HT : Hid (Tells D L) := htl
  have HN : Hid (∀ x ∈ L, x.k ≠ k) := hn
  have heq := eqm_some gm w
  clear h htl hn
  go_enter Try.func14, Try.ntmps14
  go_wp2_with (first
    | (go_at_call 31; refine (cut_any _ _).mono ?_; rintro e w' ⟨rfl, rfl⟩)
    | (at_mapUpdate; refine wpList_mapUpdate_own _ rfl _ _ _ 58 rfl 3 63 keyed3 Try.underlying58 ptrElem gm L.length D rfl (hown.alloc _) (by unfold maxLen; omega) _ _ _ rfl rfl hkey (.lit (.int .i64 _)) [] (ptrElem_mk _) ?_; intro w2 hown2 hgr2))
  have hW := HW.out
  have hsz : gm ≠ w'.heap.size := by omega
  have hgs : g ≠ w'.heap.size := by omega
  have hggm : g ≠ gm := fun e1 => hW.moG (.inr (by rw [e1]))
  have hbA : Blk (w'.alloc (.cells #[.int .i64 k, .int .i64 (cut a), .int .i64 0] 66)) g (.map (some gm)) ov := hW.blk.of_block (heap_alloc_old' _ _ _ hgl)
  have hpush := set_push (w := w') (w2 := w2) (e := ⟨w'.heap.size, k, cut a⟩) hW HN.out hw hl (hbA.of_block (hgr2.block g (by simp; omega) (by simp [hggm]))) hown2 (Tells.put (e := ⟨w'.heap.size, k, cut a⟩) HT.out hown.isMap HN.out)
    ((hgr2.block w'.heap.size (by simp) (by simp [Ne.symm hsz])).trans (heap_alloc_new w' _)) (((Keep.refl _ w').alloc _).trans (keep_grown hgr2 (fun k' hk' hne => by simp at hk'; exact hne.1 hk'.symm))) (Nat.le_refl _) hAm
    (fun k' hk' e1 => hW.ord.out k' hk' (.inl (.inr (by rw [e1])))) (fun i hi e1 => hW.ord.eout i hi (.inl (.inr (by rw [e1])))) (Ne.symm hsz) hW.guard
  clear hmiss heq hown hown2 hgr2 hbA c0
  refine hpush.mono ?_
  rintro x w3 ⟨rfl, ov', L', q1, q2, q3⟩
  go_wp2
  go_ret
  exact ⟨rfl, _, ov', L', q1, q2, q3⟩

set_option maxHeartbeats 1000000 in
set_option maxRecDepth 100000 in
theorem set_first (w : World) (A : Nat → Prop) (g : Nat) (ov : Value) (L : List Ent) (k a : Int) (h : WIn w A g (.map none) ov L) (hn : ∀ x ∈ L, x.k ≠ k) (hw : Wf k) (hl : L.length < 999) :
    Calls Try.prog 14 #[.pointer (some ⟨g, 0, none⟩), .int .i64 k, .int .i64 a] w fun x w' => x = .returned (.bool false) ∧ ∃ b mv' ov' L', WIn w' A g mv' ov' L' ∧ L'.Perm (L ++ [⟨b, k, cut a⟩]) ∧ Keep A w w' := by
  have c0 := h.blk.c0
  have f0 := h.blk.fz 0
  have hmiss := h.map.miss hn hw
  have hgl := h.blk.lt
  have hL : L = [] := by
    rcases h.map with ⟨_, h2⟩ | ⟨gm, D, h1, _⟩
    · exact h2
    · simp at h1
  have hkey := keyOf3 hw
  have HW : Hid (WIn w A g (.map none) ov L) := h
  have HN : Hid (∀ x ∈ L, x.k ≠ k) := hn
  have heq := eqm_none w
  have hmm := @run_makeMap Try.prog
  have hbm : Blk ((w.setCell ⟨g, 0, none⟩ (.map (some w.heap.size)))) g (.map (some w.heap.size)) ov := h.blk.set0 _
  have hown : ((w.setCell ⟨g, 0, none⟩ (.map (some w.heap.size))).alloc (.map #[] 0)).ownsMap Try.prog 3 ptrElem w.heap.size 0 (.map []) := by
    have := World.ownsMap_made (w.setCell ⟨g, 0, none⟩ (.map (some w.heap.size))) Try.prog 3 ptrElem
    rw [World.size_setCell] at this
    exact this
  clear h hn
  go_enter Try.func14, Try.ntmps14
  go_wp2_with (first
    | (go_at_call 31; refine (cut_any _ _).mono ?_; rintro e w' ⟨rfl, rfl⟩)
    | (at_mapUpdate; refine wpList_mapUpdate_own _ rfl _ _ _ 58 rfl 3 63 keyed3 Try.underlying58 ptrElem w.heap.size 0 (.map []) rfl (hown.alloc _) (by unfold maxLen; omega) _ _ _ rfl rfl hkey (.lit (.int .i64 _)) [] (ptrElem_mk _) ?_; intro w2 hown2 hgr2))
  have hW := HW.out
  subst hL
  have hbA : Blk (((w.setCell ⟨g, 0, none⟩ (.map (some w.heap.size))).alloc (.map #[] 0)).alloc (.cells #[.int .i64 k, .int .i64 (cut a), .int .i64 0] 66)) g (.map (some w.heap.size)) ov :=
    (hbm.of_block (heap_alloc_old' _ _ _ (by simpa using hgl))).of_block (heap_alloc_old' _ _ _ (by simp; omega))
  have hnew := heap_alloc_new ((w.setCell ⟨g, 0, none⟩ (.map (some w.heap.size))).alloc (.map #[] 0)) (.cells #[.int .i64 k, .int .i64 (cut a), .int .i64 0] 66)
  rw [World.size_alloc, World.size_setCell] at hnew
  have hpush := set_push (w := w) (w2 := w2) (e := ⟨w.heap.size + 1, k, cut a⟩) hW HN.out hw hl (hbA.of_block (hgr2.block g (by simp; omega) (by simp; omega))) hown2 (Tells.put (e := ⟨w.heap.size + 1, k, cut a⟩) (D := .map []) ⟨fun x hx => by simp at hx, fun _ _ => rfl⟩ isMap_empty HN.out)
    ((hgr2.block (w.heap.size + 1) (by simp) (by simp)).trans hnew) (((((Keep.refl _ w).setCell (fun h3 => h3.2 rfl) _).alloc _).alloc _).trans (keep_grown hgr2 (fun k' hk' hne => by simp at hk'; exact hne.1 hk'.symm))) (Nat.le_succ _) (fun h3 => Nat.lt_irrefl _ (hW.guard _ h3))
    (fun k' hk' e1 => by have := hW.ord.lt k' hk'; omega) (fun i hi e1 => by simp at hi) (by simp) hW.guard
  clear hmiss heq hown hown2 hgr2 hbA c0 hnew hmm hbm
  refine hpush.mono ?_
  rintro x w3 ⟨rfl, ov', L', q1, q2, q3⟩
  go_wp2
  go_ret
  exact ⟨rfl, _, _, ov', L', q1, q2, q3⟩

theorem cancel_miss (w : World) (A : Nat → Prop) (g : Nat) (mv ov : Value) (L : List Ent) (k : Int) (h : WIn w A g mv ov L) (hn : ∀ x ∈ L, x.k ≠ k) (hw : Wf k) :
    Calls Try.prog 16 #[.pointer (some ⟨g, 0, none⟩), .int .i64 k] w fun x w' => x = .returned (.bool false) ∧ w' = w := by
  have c0 := h.blk.c0
  have hl := h.map.miss hn hw
  clear h hn
  go_enter Try.func16, Try.ntmps16
  go_wp2
  go_ret
  exact ⟨rfl, rfl⟩

/-- One is struck. -/
theorem WIn.struck {w w1 w2 : World} {A : Nat → Prop} {g gm : Nat} {ov ov2 : Value} {L L2 : List Ent} {e : Ent} {D : DataW Unit} (h : WIn w A g (.map (some gm)) ov L) (hA : ¬ A gm) (hown : w1.ownsMap Try.prog 3 ptrElem gm L.length (D.del (.int .i64 e.k))) (ht : Tells D L) (htidy : Tidy D) (hsz : Maps.size D ≤ L.length)
    (hb : Blk w2 g (.map (some gm)) ov2) (ho : OIn w2 (fun k => Mo A (.map (some gm)) k ∨ k = g) ov2 L2) (hp : (e :: L2).Perm L) (hh : HeapN L2.length L2) (hk1 : Keep A w w1) (hk : Keep (Mo A (.map (some gm))) w1 w2) : WIn w2 A g (.map (some gm)) ov2 L2 ∧ Keep A w w2 := by
  have hap := pairwise_perm h.apart hp
  have hd : ∀ x ∈ L2, x.k ≠ e.k := fun x hx e1 => (List.pairwise_cons.1 hap).1 x hx e1.symm
  have heL : e ∈ L := hp.mem_iff.1 (by simp)
  have hl := hp.length_eq
  simp at hl
  have hk2 : Keep A w w2 := hk1.trans (hk.mono fun _ _ h3 => .inl h3)
  have hs := Maps.size_del (k := .int .i64 e.k) htidy
  rw [(ht.has e heL).1] at hs
  simp at hs
  refine ⟨⟨hb, h.gout, ho, ?_, fun x hx => h.wf x (hp.mem_iff.1 (by simp [hx])), (List.pairwise_cons.1 hap).2, fun k hk' => Nat.lt_of_lt_of_le (h.guard k hk') hk2.size, hh, by have := h.few; omega⟩, hk2⟩
  have hm : MIn w1 A (.map (some gm)) L2 := .inr ⟨gm, _, rfl, hA, (ownsMap_tight hown).mono (by omega), ht.del hp hd⟩
  exact hm.keep hk (fun _ hg => .inr hg)

set_option maxHeartbeats 1000000 in
set_option maxRecDepth 100000 in
theorem cancel_hit (w : World) (A : Nat → Prop) (g : Nat) (mv ov : Value) (L : List Ent) (i : Nat) (h : WIn w A g mv ov L) (hi : i < L.length) :
    Calls Try.prog 16 #[.pointer (some ⟨g, 0, none⟩), .int .i64 (nth L i).k] w fun x w' => x = .returned (.bool true) ∧ ∃ ov' L', WIn w' A g mv ov' L' ∧ (nth L i :: L').Perm L ∧ Keep A w w' := by
  have c0 := h.blk.c0
  have hl := h.map.look (nth_mem hi) (h.wf _ (nth_mem hi)) true
  unfold ptrE at hl
  rw [if_pos rfl] at hl
  obtain ⟨gm, D, rfl, hA, hown, htl⟩ : ∃ gm D, mv = .map (some gm) ∧ ¬ A gm ∧ w.ownsMap Try.prog 3 ptrElem gm L.length D ∧ Tells D L := by
    rcases h.map with ⟨_, rfl⟩ | h1
    · simp at hi
    · exact h1
  have he := h.ord.ent i hi
  have hkey := keyOf3 (h.wf _ (nth_mem hi))
  have HP : Hid (∀ w1 : World, w1.ownsMap Try.prog 3 ptrElem gm L.length (D.del (.int .i64 (nth L i).k)) → w.mapTurned w1 gm → w1.cell? ⟨(nth L i).b, 2, none⟩ = some (.int .i64 i) ∧
      Calls Try.prog 35 #[.iface 68 (.pointer (some ⟨g, 1, none⟩)), .int .i64 i] w1.drew fun x w' => x = .returned (.iface 63 (ptrE (nth L i))) ∧ ∃ ov' L', WIn w' A g (.map (some gm)) ov' L' ∧ (nth L i :: L').Perm L ∧ Keep A w w') := by
    intro w1 hown1 ht1
    have hgr := ht1.grown
    have hggm : g ≠ gm := fun e1 => h.moG (.inr (by rw [e1]))
    have hkp : Keep (fun k => k ≠ gm) w w1 := keep_grown hgr (fun k hk hne => by simp at hk; exact hne hk.symm)
    have hb1 : Blk w1 g (.map (some gm)) ov := h.blk.keep hkp hggm
    have ho1 := h.ord.last hkp (fun k hk e1 => h.ord.out k hk (.inl (.inr (by rw [e1])))) (fun i hi e1 => h.ord.eout i hi (.inl (.inr (by rw [e1]))))
    have he1 : EntAt w1 (nth L i) i := he.keep hkp (fun e1 => h.ord.eout i hi (.inl (.inr (by rw [e1]))))
    refine ⟨he1.c2, ?_⟩
    refine (remove_any (Mo A (.map (some gm))) g (.map (some gm)) ov L i w1.drew hb1 (ho1.congr rfl) h.moG hi (by have := h.few; omega) h.heap).mono ?_
    rintro x w' ⟨rfl, ov', L', hb2, ho2, hp2, hh2, _, hk2⟩
    have := h.struck hA hown1 htl (hown.tidy keyed3) hown.size_le hb2 ho2 hp2 hh2 (hkp.mono fun k _ hk e1 => hA (e1 ▸ hk)) ⟨hk2.os, hk2.tape, hk2.output, hk2.size, hk2.block⟩
    exact ⟨rfl, ov', L', this.1, hp2, this.2⟩
  have hgl := h.blk.lt
  clear h htl he
  generalize nth L i = x at *
  go_enter Try.func16, Try.ntmps16
  go_wp2_with (first
    | (at_delete; refine wpList_delete_own _ rfl _ _ 58 3 rfl 63 keyed3 Try.underlying58 ptrElem gm L.length D rfl hown _ _ rfl hkey ?_; intro w1 hown1 ht1))
  obtain ⟨c2, hrem⟩ := HP.out w1 hown1 ht1
  clear HP hown hown1 ht1 hl c0
  go_region_with (first | (go_at_call 35; refine hrem.mono ?_; rintro e w2 ⟨rfl, hw2⟩))
  go_wp2
  go_ret
  exact ⟨rfl, hw2⟩

end Go.Proofs.Ytahdeliopmkpmaa
