/-
  What holds all through DrainsRow: those that wait are the names from one on; what Ask, Ahead and First do then. Conditions: drains lie where they are said to lie.
-/
import Derived.Test.YthobihlnjcphaaaRowC
import Derived.Test.YthobihlnjcphaaaOpens
namespace Go.Proofs.Ythobihlnjcphaaa
open Go.ChangeShapes Go.WideShapes Go.ChangeAt Go.RowKit

/-- Names that wait. -/
def drs (l : List ByteArray) : List Dr := l.map (fun x => (x, 0))
theorem drs_length (l : List ByteArray) : (drs l).length = l.length := List.length_map _
theorem nms_drs (l : List ByteArray) : nms (drs l) = l := by unfold nms drs; rw [List.map_map]; exact List.map_id l
theorem drs_snoc (l : List ByteArray) (f : ByteArray) : drs (l ++ [f]) = drs l ++ [(f, 0)] := List.map_append
theorem drs_head {l : List ByteArray} (_h : 0 < l.length) : (nthD (drs l) 0).1 = l.getD 0 ⟨#[]⟩ := by rw [← nms_getD, nms_drs]
theorem inv_drs {l : List ByteArray} (h : l.Nodup) (h6 : l.length ≤ 16) : Inv (drs l) [] := ⟨by rw [nms_drs]; exact h, List.nodup_nil, fun _ _ => List.not_mem_nil, by rw [drs_length]; exact h6⟩
theorem plc_last : ∀ {l : List ByteArray} {f : ByteArray}, f ∉ l → plc f (l ++ [f]) = l.length
  | l, f, h => by
    have hm : f ∈ l ++ [f] := by simp
    have e : ∀ l : List ByteArray, f ∉ l → fidx f (l ++ [f]) = l.length := by
      intro l
      induction l with
      | nil => intro _; simp [fidx]
      | cons x l ih =>
        intro hx
        have h1 : ¬ x = f := fun e => hx (by simp [e])
        show (if x = f then 0 else fidx f (l ++ [f]) + 1) = _
        rw [if_neg h1, ih (fun e => hx (List.mem_cons_of_mem _ e))]
        rfl
    rw [plc_mem hm, e l h]

section
variable {w : World} {A : Nat → Prop} {g : Nat} {l : List ByteArray} {f : ByteArray}
theorem ask_1 (w : World) (h : DIn w A g 0 (drs l) []) (hx : f ∉ l) (hf : f ∈ names6) (hl : l.length < 16) :
    Calls Try.prog 13 #[.pointer (some ⟨g, 0, none⟩), .string f] w fun e w' => e = .returned (.int .i64 0) ∧ DIn w' A g 0 (drs (l ++ [f])) [] ∧ Keep A w w' := by
  have hok := names6_ok f hf
  have hs := nameB_size hok
  rw [drs_snoc]
  exact ask_ok w A g (drs l) [] f h (by unfold maxLen; omega) hok (by rw [Bool.or_eq_false_iff]; exact ⟨isIn_not.2 (by rw [nms_drs]; exact hx), rfl⟩) (by rw [drs_length]; exact hl)
theorem ask_2 (w : World) (h : DIn w A g 0 (drs (l ++ [f])) []) (hf : f ∈ names6) :
    Calls Try.prog 13 #[.pointer (some ⟨g, 0, none⟩), .string f] w fun e w' => e = .returned (.int .i64 6) ∧ DIn w' A g 0 (drs (l ++ [f])) [] ∧ Keep A w w' := by
  have hok := names6_ok f hf
  have hs := nameB_size hok
  have hin : isIn f (drs (l ++ [f])) = true := isIn_iff.2 (by rw [nms_drs]; simp)
  exact (ask_there w A g (drs (l ++ [f])) [] f h (by unfold maxLen; omega) hok (by rw [hin]; rfl)).mono fun e w' ⟨he, hb⟩ => ⟨he, h.same hb, keep_below hb⟩
theorem ahead_1 (w : World) (h : DIn w A g 0 (drs (l ++ [f])) []) (hx : f ∉ l) :
    Calls Try.prog 28 #[.pointer (some ⟨g, 0, none⟩), .string f] w fun e w' => e = .returned (.int .i64 l.length) ∧ DIn w' A g 0 (drs (l ++ [f])) [] ∧ Keep A w w' := by
  have := ahead_w w A g (drs (l ++ [f])) [] f h
  rw [nms_drs, plc_last hx] at this
  exact this.mono fun e w' ⟨he, hb⟩ => ⟨he, h.same hb, keep_below hb⟩
end

/-- Drains at g: the names from t on wait; t lies at k8, the names' slice at k5. -/
structure RW (w5 : World) (A B : Nat → Prop) (g k5 k8 : Nat) (an : Option Addr) (n cn : Nat) (ns : List ByteArray) (t : Nat) (w : World) : Prop where
  d : DIn w B g 0 (drs (ns.drop t)) []
  sub : ∀ k, A k → B k
  bk : A k8
  at_ : w.heap[k8]? = some (.cells #[.int .i64 t] 3 (0, 0))
  nb : w.cell? ⟨k5, 0, none⟩ = some (.slice an n cn)
  n5 : A k5 ∧ k5 ≠ k8
  s : StrsAt w an n cn ns
  sb : ∀ z, an = some z → A z.block ∧ z.block ≠ k8
  keep : Keep (fun k => A k ∧ k ≠ k8) w5 w

section
variable {w5 w w' : World} {A B C : Nat → Prop} {g k5 k8 : Nat} {an : Option Addr} {n cn : Nat} {ns : List ByteArray} {t : Nat}
theorem RW.below (h : RW w5 A B g k5 k8 an n cn ns t w) (hb : Below w.heap.size w w') : RW w5 A (fun k => B k ∨ (w.heap.size ≤ k ∧ k < w'.heap.size)) g k5 k8 an n cn ns t w' :=
  ⟨h.d.below hb, fun k hk => .inl (h.sub k hk), h.bk, (hb.block k8 (lt_of_heap h.at_)).trans h.at_, (hb.cell (p := ⟨k5, 0, none⟩) (World.block_lt_of_cell? _ _ h.nb)).trans h.nb, h.n5, h.s.below (Nat.le_refl _) hb, h.sb, h.keep.trans (keep_below hb)⟩
theorem RW.fewer (h : RW w5 A B g k5 k8 an n cn ns t w) : RW w5 A A g k5 k8 an n cn ns t w := ⟨h.d.fewer h.sub, fun _ h => h, h.bk, h.at_, h.nb, h.n5, h.s, h.sb, h.keep⟩
theorem RW.same (h : RW w5 A B g k5 k8 an n cn ns t w) (hb : Below w.heap.size w w') : RW w5 A B g k5 k8 an n cn ns t w' :=
  ⟨h.d.same hb, h.sub, h.bk, (hb.block k8 (lt_of_heap h.at_)).trans h.at_, (hb.cell (p := ⟨k5, 0, none⟩) (World.block_lt_of_cell? _ _ h.nb)).trans h.nb, h.n5, h.s.below (Nat.le_refl _) hb, h.sb, h.keep.trans (keep_below hb)⟩
/-- First was called: so many more are gone; what is not ka is kept. -/
theorem RW.step {t2 ka : Nat} (h : RW w5 A B g k5 k8 an n cn ns t w) (hd : DIn w' B g 0 (drs (ns.drop t2)) []) (hk : Keep (fun k => B k ∧ k ≠ ka) w w') (hka : ¬ A ka) (e : t2 = t) : RW w5 A B g k5 k8 an n cn ns t w' := by
  subst e
  have ne : ∀ k, A k → k ≠ ka := fun k hA e => hka (e ▸ hA)
  exact ⟨hd, h.sub, h.bk, (hk.block k8 (lt_of_heap h.at_) ⟨h.sub _ h.bk, ne _ h.bk⟩).trans h.at_, hk.cell h.nb ⟨h.sub _ h.n5.1, ne _ h.n5.1⟩, h.n5, h.s.keep hk (fun z hz => ⟨h.sub _ (h.sb z hz).1, ne _ (h.sb z hz).1⟩), h.sb, h.keep.trans (hk.mono fun k _ hA => ⟨h.sub k hA.1, ne k hA.1⟩)⟩
/-- One more is gone, and t is written. -/
theorem RW.next {ka : Nat} (h : RW w5 A B g k5 k8 an n cn ns t w) (hd : DIn w' B g 0 (drs (ns.drop (t + 1))) []) (hk : Keep (fun k => B k ∧ k ≠ ka) w w') (hka : ¬ A ka) :
    w'.cell? ⟨k8, 0, none⟩ = some (.int .i64 t) ∧ w'.frozen? ⟨k8, 0, none⟩ = false ∧ w'.cell? ⟨k5, 0, none⟩ = some (.slice an n cn) ∧ StrsAt w' an n cn ns ∧ RW w5 A B g k5 k8 an n cn ns (t + 1) (w'.setCell ⟨k8, 0, none⟩ (.int .i64 ((t + 1 : Nat) : Int))) := by
  have ne : ∀ k, A k → k ≠ ka := fun k hA e => hka (e ▸ hA)
  have ha := (hk.block k8 (lt_of_heap h.at_) ⟨h.sub _ h.bk, ne _ h.bk⟩).trans h.at_
  have hn := hk.cell h.nb ⟨h.sub _ h.n5.1, ne _ h.n5.1⟩
  have hs := h.s.keep hk (fun z hz => ⟨h.sub _ (h.sb z hz).1, ne _ (h.sb z hz).1⟩)
  have k2 : Keep (fun k => k ≠ k8) w' (w'.setCell ⟨k8, 0, none⟩ (.int .i64 ((t + 1 : Nat) : Int))) := (Keep.refl _ _).setCell (fun hn => hn rfl) _
  obtain ⟨c1, -, c2⟩ := blk1 ha
  refine ⟨c1, c2, hn, hs, hd.keep (k2.mono fun k _ hB e => hB (e ▸ h.sub _ h.bk)) (fun k hk => .inl hk) (fun k hk => by rw [World.size_setCell]; exact hd.guard k hk), h.sub, h.bk, heap_set1 ha, k2.cell hn h.n5.2, h.n5, hs.keep k2 (fun z hz => (h.sb z hz).2), h.sb, ?_⟩
  exact (h.keep.trans (hk.mono fun k _ hA => ⟨h.sub k hA.1, ne k hA.1⟩)).trans (k2.mono fun k _ hA => hA.2)

/-- What First does with the law's closure, where one waits. -/
theorem first_row (w : World) (ka ky kt kn : Nat) (y : Bool) (L : List ByteArray) (hd : DIn w B g 0 (drs L) []) (hnd : L.Nodup) (h6 : L.length ≤ 16) (hl : 0 < L.length) (hB : B ka) (hr : RV w ka ky kt kn 0 y t an n cn ns) (ht : t < n) (hx : ns.getD t ⟨#[]⟩ = L.getD 0 ⟨#[]⟩) :
    Calls Try.prog 19 #[.pointer (some ⟨g, 0, none⟩), rowv ka ky kt kn] w fun e w' => e = .returned (.tuple #[.string (if y = true then L.getD 0 ⟨#[]⟩ else ⟨#[]⟩), .bool y]) ∧ w'.cell? ⟨ka, 0, none⟩ = some (.int .i64 1) ∧ DIn w' B g 0 (drs (L.drop (if y = true then 1 else 0))) [] ∧ Keep (fun k => B k ∧ k ≠ ka) w w' := by
  have hb : Below w.heap.size w (w.alloc (.cells #[rowv ka ky kt kn] 42)) := (Below.refl _ w).alloc (Nat.le_refl _) _
  have hask := asked_row (m := 0) (y := y) w.heap.size (L.getD 0 ⟨#[]⟩) (w.alloc (.cells #[rowv ka ky kt kn] 42)) (blk1 (heap_alloc_new w _)).1 (hr.below hb) ht hx (by omega) (by omega)
  have hl' : 0 < (drs L).length := by rw [drs_length]; exact hl
  rw [← drs_head hl] at hask ⊢
  cases y with
  | true =>
    refine (first_yes (.func 30) #[] _ w B g (drs L) [] (fun w' => w'.cell? ⟨ka, 0, none⟩ = some (.int .i64 1) ∧ Keep (fun k => k ≠ ka) w w') hd (inv_drs hnd h6) hl' (hask.mono fun e w' ⟨he, hc, hk⟩ => ⟨he, ⟨hc, (keep_below hb).trans hk⟩, ((keep_below hb).trans hk).mono fun k _ hn e => hn (e ▸ hB)⟩)).mono fun e w' ⟨he, w2, ⟨hc, hk⟩, hd', hk2⟩ => ?_
    refine ⟨he, hk2.cell hc hB, ?_, (hk.mono fun k _ h => h.2).trans (hk2.mono fun k _ h => h.1)⟩
    have e1 : (drs L).drop 1 = drs (L.drop 1) := by unfold drs; rw [List.map_drop]
    rw [e1] at hd'
    exact hd'
  | false =>
    exact (first_no (.func 30) #[] _ w B g (drs L) [] (fun w' => w'.cell? ⟨ka, 0, none⟩ = some (.int .i64 1) ∧ Keep (fun k => k ≠ ka) w w') hd hl' (hask.mono fun e w' ⟨he, hc, hk⟩ => ⟨he, ⟨hc, (keep_below hb).trans hk⟩, ((keep_below hb).trans hk).mono fun k _ hn e => hn (e ▸ hB)⟩)).mono fun e w' ⟨he, ⟨hc, hk⟩, hd'⟩ => ⟨he, hc, hd', hk.mono fun k _ h => h.2⟩
theorem RW.held (h : RW w5 A B g k5 k8 an n cn ns t w) (hb : Below w.heap.size w w') : w'.cell? ⟨k5, 0, none⟩ = some (.slice an n cn) ∧ w'.cell? ⟨k8, 0, none⟩ = some (.int .i64 t) ∧ RW w5 A B g k5 k8 an n cn ns t w' :=
  ⟨(h.same hb).nb, (blk1 (h.same hb).at_).1, h.same hb⟩
theorem rw_of (h : w.cell? ⟨k5, 0, none⟩ = some (.slice an n cn) ∧ w.cell? ⟨k8, 0, none⟩ = some (.int .i64 t) ∧ RW w5 A B g k5 k8 an n cn ns t w) : RW w5 A B g k5 k8 an n cn ns t w := h.2.2
theorem RW.waits {r : Nat} (hn : ns.length = n) (h6 : n ≤ 6) (hr : n - t = r) (w : World) (h : RW w5 A B g k5 k8 an n cn ns t w) :
    Calls Try.prog 24 #[.pointer (some ⟨g, 0, none⟩)] w fun e w' => e = .returned (.slice (some ⟨w.heap.size, 0, none⟩) r r) ∧ Below w.heap.size w w' := by
  have hl : (drs (ns.drop t)).length = r := by rw [drs_length, List.length_drop, hn]; exact hr
  have := waits_w w B g (drs (ns.drop t)) [] h.d (by omega)
  rw [hl] at this
  exact this.mono fun e w' ⟨he, _, hb⟩ => ⟨he, hb⟩
end

end Go.Proofs.Ythobihlnjcphaaa
