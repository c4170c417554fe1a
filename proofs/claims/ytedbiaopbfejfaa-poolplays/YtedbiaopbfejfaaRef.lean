/-
  The document's pool: its room, three lists in rows; New, Len, Is of it. Conditions: the rows lie where they are said to lie; at most 100 connections.
-/
import Derived.Test.YtedbiaopbfejfaaFew
import Derived.Deep.CutRange
import Derived.Deep.CutBlock
import Derived.Deep.RegionHeld3
namespace Go.Proofs.Ytedbiaopbfejfaa
open Go.ChangeShapes Go.WideShapes Go.ChangeAt Go.RowKit

/-- The slice v reads as the ints zs, in a row of ints. -/
def Own (w : World) (v : Value) (zs : List Int) : Prop := w.ownsRow 0 3 1 v zs.length (ic zs)
theorem Own.below {w w' : World} {v : Value} {zs : List Int} (h : Own w v zs) (hb : Below w.heap.size w w') : Own w' v zs :=
  owns_keep (A := fun _ => True) h (keep_below hb) (fun _ _ => trivial)
theorem Own.ne {w : World} {v : Value} {zs : List Int} (h : Own w v zs) {p : Nat} {cs : Array Value} {t : TypeId} {f : Nat × Nat} (hp : w.heap[p]? = some (.cells cs t f)) (ht : t ≠ 3) : ∀ k, v.ownBlock = some k → k ≠ p := by
  intro k hk e
  subst e
  rcases h.2 with ⟨rfl, _⟩ | ⟨g, cap, cur, rfl, _, hg, _⟩
  · simp [Value.ownBlock] at hk
  · have : g = k := by simpa [Value.ownBlock] using hk
    subst this
    rw [hp] at hg
    simp at hg
    exact ht hg.2.1
theorem Own.keepNe {w w' : World} {v : Value} {zs : List Int} (h : Own w v zs) {p : Nat} {cs : Array Value} {t : TypeId} {f : Nat × Nat} (hp : w.heap[p]? = some (.cells cs t f)) (ht : t ≠ 3) (hk : Keep (fun k => k ≠ p) w w') : Own w' v zs :=
  owns_keep h hk (h.ne hp ht)
theorem Own.nil (w : World) : Own w (.slice none 0 0) [] := World.ownsRow_nil _ _ _ _
theorem Own.of {w : World} {b : Nat} {v : Value} {zs : List Int} (h : w.ownsRow b 3 1 v zs.length (ic zs)) : Own w v zs := owns_base h (Nat.zero_le _)
theorem Own.open {w : World} {v : Value} {zs : List Int} (h : Own w v zs) : ∃ a c, v = .slice a zs.length c ∧ IntsAt w a zs.length c zs ∧ (a = none → zs.length = 0 ∧ c = 0) := by
  obtain ⟨a, c, e, h1, h2, _⟩ := owns_ints h
  exact ⟨a, c, e, h1, h2⟩

/-- The three slices read as the three lists. -/
structure Rv (w : World) (v0 v1 v2 : Value) (s : St) : Prop where
  m : Own w v0 s.M
  i : Own w v1 s.I
  b : Own w v2 s.B
theorem Rv.below {w w' : World} {v0 v1 v2 : Value} {s : St} (h : Rv w v0 v1 v2 s) (hb : Below w.heap.size w w') : Rv w' v0 v1 v2 s := ⟨h.m.below hb, h.i.below hb, h.b.below hb⟩
theorem Rv.keepNe {w w' : World} {v0 v1 v2 : Value} {s : St} (h : Rv w v0 v1 v2 s) {p : Nat} {cs : Array Value} {t : TypeId} {f : Nat × Nat} (hp : w.heap[p]? = some (.cells cs t f)) (ht : t ≠ 3) (hk : Keep (fun k => k ≠ p) w w') : Rv w' v0 v1 v2 s :=
  ⟨h.m.keepNe hp ht hk, h.i.keepNe hp ht hk, h.b.keepNe hp ht hk⟩

theorem blk4 {w : World} {g : Nat} {x y z u : Value} {t : TypeId} (h : w.heap[g]? = some (.cells #[x, y, z, u] t (0, 0))) :
    w.cell? ⟨g, 0, none⟩ = some x ∧ w.cell? ⟨g, 1, none⟩ = some y ∧ w.cell? ⟨g, 2, none⟩ = some z ∧ w.cell? ⟨g, 3, none⟩ = some u ∧ g < w.heap.size :=
  ⟨by simp [World.cell?, h], by simp [World.cell?, h], by simp [World.cell?, h], by simp [World.cell?, h], (Array.getElem?_eq_some_iff.1 h).1⟩
theorem fz4 {w : World} {g : Nat} {x y z u : Value} {t : TypeId} (h : w.heap[g]? = some (.cells #[x, y, z, u] t (0, 0))) (o : Nat) : w.frozen? ⟨g, o, none⟩ = false := by simp [World.frozen?, h]
theorem set4_0 {w : World} {g : Nat} {x y z u : Value} {t : TypeId} (h : w.heap[g]? = some (.cells #[x, y, z, u] t (0, 0))) (v : Value) : (w.setCell ⟨g, 0, none⟩ v).heap[g]? = some (.cells #[v, y, z, u] t (0, 0)) := by rw [heap_setCell_same w g 0 _ t _ h]; simp
theorem set4_1 {w : World} {g : Nat} {x y z u : Value} {t : TypeId} (h : w.heap[g]? = some (.cells #[x, y, z, u] t (0, 0))) (v : Value) : (w.setCell ⟨g, 1, none⟩ v).heap[g]? = some (.cells #[x, v, z, u] t (0, 0)) := by rw [heap_setCell_same w g 1 _ t _ h]; simp
theorem set4_2 {w : World} {g : Nat} {x y z u : Value} {t : TypeId} (h : w.heap[g]? = some (.cells #[x, y, z, u] t (0, 0))) (v : Value) : (w.setCell ⟨g, 2, none⟩ v).heap[g]? = some (.cells #[x, y, v, u] t (0, 0)) := by rw [heap_setCell_same w g 2 _ t _ h]; simp
theorem set4_3 {w : World} {g : Nat} {x y z u : Value} {t : TypeId} (h : w.heap[g]? = some (.cells #[x, y, z, u] t (0, 0))) (v : Value) : (w.setCell ⟨g, 3, none⟩ v).heap[g]? = some (.cells #[x, y, z, v] t (0, 0)) := by rw [heap_setCell_same w g 3 _ t _ h]; simp
/-- All four are written. -/
def put4 (w : World) (g : Nat) (x y z u : Value) : World := (((w.setCell ⟨g, 0, none⟩ x).setCell ⟨g, 1, none⟩ y).setCell ⟨g, 2, none⟩ z).setCell ⟨g, 3, none⟩ u
theorem put4_at {w : World} {g : Nat} {x y z u : Value} {t : TypeId} (h : w.heap[g]? = some (.cells #[x, y, z, u] t (0, 0))) (x' y' z' u' : Value) :
    (put4 w g x' y' z' u').heap[g]? = some (.cells #[x', y', z', u'] t (0, 0)) := set4_3 (set4_2 (set4_1 (set4_0 h x') y') z') u'
theorem put4_keep (w : World) (g : Nat) (x y z u : Value) : Keep (fun k => k ≠ g) w (put4 w g x y z u) :=
  ((((Keep.refl _ w).setCell (fun e => e rfl) _).setCell (fun e => e rfl) _).setCell (fun e => e rfl) _).setCell (fun e => e rfl) _

/-- The block of an argument, and that of the result. -/
theorem two_blocks (w : World) (S : Int) (v0 v1 v2 : Value) :
    ((w.alloc (.cells #[.int .i64 S, v0, v1, v2] 28)).alloc (.cells #[.int .i64 0, .slice none 0 0, .slice none 0 0, .slice none 0 0] 28)).heap[w.heap.size]? = some (.cells #[.int .i64 S, v0, v1, v2] 28 (0, 0)) ∧
    ((w.alloc (.cells #[.int .i64 S, v0, v1, v2] 28)).alloc (.cells #[.int .i64 0, .slice none 0 0, .slice none 0 0, .slice none 0 0] 28)).heap[w.heap.size + 1]? = some (.cells #[.int .i64 0, .slice none 0 0, .slice none 0 0, .slice none 0 0] 28 (0, 0)) ∧
    ((w.alloc (.cells #[.int .i64 S, v0, v1, v2] 28)).alloc (.cells #[.int .i64 0, .slice none 0 0, .slice none 0 0, .slice none 0 0] 28)).heap.size = w.heap.size + 2 ∧
    Below w.heap.size w ((w.alloc (.cells #[.int .i64 S, v0, v1, v2] 28)).alloc (.cells #[.int .i64 0, .slice none 0 0, .slice none 0 0, .slice none 0 0] 28)) := by
  refine ⟨?_, ?_, by simp, ((Below.refl _ w).alloc (Nat.le_refl _) _).alloc (by simp) _⟩
  · rw [Below.heap_alloc _ _ _ (by simp)]; exact heap_alloc_new w _
  · have := heap_alloc_new (w.alloc (.cells #[.int .i64 S, v0, v1, v2] 28)) (.cells #[.int .i64 0, .slice none 0 0, .slice none 0 0, .slice none 0 0] 28)
    simpa using this

theorem agg_ret {a b : Int} {x y z : Value} (h : a = b) : Ending.returned (.agg #[.int .i64 a, x, y, z]) = .returned (.agg #[.int .i64 b, x, y, z]) := by rw [h]

set_option maxRecDepth 100000 in
theorem rnew_any (n : Int) (w : World) :
    Calls Try.prog 10 #[.int .i64 n] w fun e w' => e = .returned (.agg #[.int .i64 (roomN n : Nat), .slice none 0 0, .slice none 0 0, .slice none 0 0]) ∧ Below w.heap.size w w' := by
  have he : Hid (min (max n 1) 8 = ((roomN n : Nat) : Int)) := Hid.mk' (roomN_eq n).symm
  generalize roomN n = R at *
  go_enter Try.func10, Try.ntmps10
  go_wp2
  refine bodyPost_ret (v := .agg #[.int .i64 (min (max n 1) 8), .slice none 0 0, .slice none 0 0, .slice none 0 0]) (by simp [results, Try.results10, go_sem]) rfl ?_
  exact ⟨agg_ret he.out, (Below.refl _ _).alloc (Nat.le_refl _) _⟩

section
variable {w : World} {v0 v1 v2 : Value} {s : St}
set_option maxRecDepth 100000 in
theorem rlen_any (S : Int) (h : Rv w v0 v1 v2 s) (hl : s.ids.length ≤ 100) (n : Nat) (hn : s.ids.length = n) :
    Calls Try.prog 24 #[.agg #[.int .i64 S, v0, v1, v2]] w fun e w' => e = .returned (.int .i64 n) ∧ Below w.heap.size w w' := by
  obtain ⟨a0, c0, rfl, _⟩ := h.m.open
  obtain ⟨a1, c1, rfl, _⟩ := h.i.open
  obtain ⟨a2, c2, rfl, _⟩ := h.b.open
  have hs : Hid ((s.M.length : Int) + (s.I.length : Int) + (s.B.length : Int) = (n : Int)) := by
    show _ = _
    simp [St.ids] at hn
    omega
  have h3 : s.M.length ≤ 100 ∧ s.I.length ≤ 100 ∧ s.B.length ≤ 100 := by simp [St.ids] at hl; omega
  obtain ⟨l0, l1, l2⟩ := h3
  clear h hl hn
  generalize s.M.length = n0 at *
  generalize s.I.length = n1 at *
  generalize s.B.length = n2 at *
  go_enter Try.func24, Try.ntmps24
  go_wp2
  go_ret
  exact ⟨ret_int hs.out, (Below.refl _ _).alloc (Nat.le_refl _) _⟩

set_option maxRecDepth 100000 in
theorem ris_any (S x : Int) (h : Rv w v0 v1 v2 s) (b : Bool) (hb : decide (x ∈ s.ids) = b) :
    Calls Try.prog 27 #[.agg #[.int .i64 S, v0, v1, v2], .int .i64 x] w fun e w' => e = .returned (.bool b) ∧ Below w.heap.size w w' := by
  have hbl : Below w.heap.size w (w.alloc (.cells #[.int .i64 S, v0, v1, v2] 28)) := (Below.refl _ _).alloc (Nat.le_refl _) _
  obtain ⟨a0, c0, rfl, h0, _⟩ := h.m.open
  obtain ⟨a1, c1, rfl, h1, _⟩ := h.i.open
  obtain ⟨a2, c2, rfl, h2, _⟩ := h.b.open
  have k0 := has_any _ a0 _ c0 s.M x (h0.below hbl)
  have k1 := has_any _ a1 _ c1 s.I x (h1.below hbl)
  have k2 := has_any _ a2 _ c2 s.B x (h2.below hbl)
  have HB := Hid.mk' hbl
  have hm := mem_ids (s := s) (x := x)
  clear h h0 h1 h2 hbl
  by_cases e0 : x ∈ s.M
  · have hbt : b = true := by rw [← hb]; exact decide_eq_true (hm.2 (.inl e0))
    subst hbt
    replace k0 := k0 true (decide_eq_true e0)
    clear k1 k2 hm hb e0
    generalize s.M.length = n0 at *
    generalize s.I.length = n1 at *
    generalize s.B.length = n2 at *
    go_enter Try.func27, Try.ntmps27
    go_wp2_with (first | (go_at_call 35; refine k0.mono ?_; rintro e w' ⟨rfl, hw'⟩; subst w'))
    go_ret
    exact ⟨rfl, HB.out⟩
  · replace k0 := k0 false (decide_eq_false e0)
    by_cases e1 : x ∈ s.I
    · have hbt : b = true := by rw [← hb]; exact decide_eq_true (hm.2 (.inr (.inl e1)))
      subst hbt
      replace k1 := k1 true (decide_eq_true e1)
      clear k2 hm hb e0 e1
      generalize s.M.length = n0 at *
      generalize s.I.length = n1 at *
      generalize s.B.length = n2 at *
      go_enter Try.func27, Try.ntmps27
      go_wp2_with (first
        | (go_at_call 35; refine k0.mono ?_; rintro e w' ⟨rfl, hw'⟩; subst w'; clear k0)
        | (go_at_call 35; refine k1.mono ?_; rintro e w' ⟨rfl, hw'⟩; subst w'))
      go_ret
      exact ⟨rfl, HB.out⟩
    · replace k1 := k1 false (decide_eq_false e1)
      have hbt : decide (x ∈ s.B) = b := by rw [← hb, decide_eq_decide, hm]; simp [e0, e1]
      replace k2 := k2 b hbt
      clear hm hb e0 e1 hbt
      generalize s.M.length = n0 at *
      generalize s.I.length = n1 at *
      generalize s.B.length = n2 at *
      go_enter Try.func27, Try.ntmps27
      go_wp2_with (first
        | (go_at_call 35; refine k0.mono ?_; rintro e w' ⟨rfl, hw'⟩; subst w'; clear k0)
        | (go_at_call 35; refine k1.mono ?_; rintro e w' ⟨rfl, hw'⟩; subst w'; clear k1)
        | (go_at_call 35; refine k2.mono ?_; rintro e w' ⟨rfl, hw'⟩; subst w'))
      go_ret
      exact ⟨rfl, HB.out⟩
end

end Go.Proofs.Ytedbiaopbfejfaa
