/-
  The first 80 steps as a row that is read; a step in a block of its own; what a name that has ended is. Conditions: the steps lie where they are said to lie.
-/
import Derived.Test.YthobihlnjcphaaaEarly
import Derived.Test.YthobihlnjcphaaaDueP
namespace Go.Proofs.Ythobihlnjcphaaa
open Go.ChangeShapes Go.WideShapes Go.ChangeAt Go.RowKit

theorem early_any (a : Option Addr) (len cap n : Nat) (ss : List Stp) (w : World) (h : StepsAt w a len cap ss) (hn : min len 80 = n) :
    Calls Try.prog 10 #[.slice a len cap] w fun e w' => ∃ a' c', e = .returned (.slice a' n c') ∧ StepsAt w' a' n c' (trs (ss.take n)) ∧ (∀ j, j < n → ((trs (ss.take n)).getD j s0).nm.size ≤ 20) ∧ (∀ j, j < n → ((trs (ss.take n)).getD j s0).ma = (ss.getD j s0).ma) ∧ (∀ x, a' = some x → w.heap.size ≤ x.block ∧ x.block < w'.heap.size) ∧ Below w.heap.size w w' := by
  have hl : (trs (ss.take n)).length = n := by rw [trs_length, List.length_take, h.hlen]; omega
  have hg : ∀ j, j < n → (trs (ss.take n)).getD j s0 = tr (ss.getD j s0) := fun j hj => by
    unfold trs
    have : j < ss.length := by rw [h.hlen]; omega
    simp [List.getD, hj, this]
  refine (early_own a len cap n ss w h hn).mono fun e w' ⟨v, he, hown, hb⟩ => ?_
  have hx := hown.2
  rcases hx with ⟨rfl, rfl⟩ | ⟨g, c, cur, rfl, hgb, hgg, hnc, hcm, hsz, htk⟩
  · exact ⟨none, 0, he, ⟨hl, Nat.le_refl _, Nat.zero_le _, fun j hj => absurd hj (Nat.not_lt_zero _)⟩, fun j hj => absurd hj (Nat.not_lt_zero _), fun j hj => absurd hj (Nat.not_lt_zero _), fun x hx => (by cases hx), hb⟩
  · refine ⟨_, c, he, ⟨hl, hnc, hcm, fun j hj => ⟨g, 0, rfl, lt_of_heap hgg, fun i u hu => ?_, ?_, ?_⟩⟩, fun j hj => by rw [hg j hj]; exact tr_size _, fun j hj => by rw [hg j hj]; rfl, fun x hx => (by cases hx; exact ⟨hgb, lt_of_heap hgg⟩), hb⟩
    · have hi : i < 4 := (List.getElem?_eq_some_iff.1 hu).1
      have h1 := sf_get _ j i u (by omega) hi hu
      rw [← htk, List.getElem?_take_of_lt (by omega)] at h1
      simp only [World.cell?, hgg]
      rw [Nat.zero_add]
      simpa using h1
    · rw [hg j hj]
      have := tr_size (ss.getD j s0)
      unfold maxLen
      omega
    · rw [hg j hj]
      obtain ⟨b, off, _, _, _, _, h3⟩ := h.rd j (by omega)
      exact h3.below (Nat.le_refl _) hb

/-- A step lies in block z. -/
def StAt (w : World) (z : Nat) (s : Stp) : Prop := w.heap[z]? = some (.cells #[.int .i64 s.kd, .int .i64 s.n, .string s.nm, .slice s.ma s.ml s.mc] 32 (0, 0))
theorem StAt.cells {w : World} {z : Nat} {s : Stp} (h : StAt w z s) : w.cell? ⟨z, 0, none⟩ = some (.int .i64 s.kd) ∧ w.cell? ⟨z, 1, none⟩ = some (.int .i64 s.n) ∧ w.cell? ⟨z, 2, none⟩ = some (.string s.nm) ∧ w.cell? ⟨z, 3, none⟩ = some (.slice s.ma s.ml s.mc) ∧ z < w.heap.size := by
  unfold StAt at h
  exact ⟨by simp [World.cell?, h], by simp [World.cell?, h], by simp [World.cell?, h], by simp [World.cell?, h], lt_of_heap h⟩
theorem StAt.below {w w' : World} {z : Nat} {s : Stp} (h : StAt w z s) (hb : Below w.heap.size w w') : StAt w' z s := (hb.block z (lt_of_heap h)).trans h
theorem StAt.keep {w w' : World} {A : Nat → Prop} {z : Nat} {s : Stp} (h : StAt w z s) (hk : Keep A w w') (hz : A z) : StAt w' z s := (hk.block z (lt_of_heap h) hz).trans h

theorem hasB_isIn (x : ByteArray) (L : List Dr) : hasB (nms L) x = isIn x L := by
  cases h : isIn x L with
  | true => exact hasB_iff.2 (isIn_iff.1 h)
  | false => exact hasB_not.2 (isIn_not.1 h)
theorem isIn_wo (x : ByteArray) (L : List Dr) : isIn x (wo x L) = false := isIn_not.2 fun h => (mem_wo.1 h).2 rfl
theorem Inv.ended {L M : List Dr} (h : Inv L M) (x : ByteArray) : Inv (wo x L) (wo x M) := h.wait.over
theorem hasB_take {l : List ByteArray} (h : l.Nodup) {k : Nat} (hk : k < l.length) : hasB (l.take k) (l.getD k ⟨#[]⟩) = false := by
  rw [hasB_not]
  intro hx
  have := nodup_take h (k + 1)
  rw [take_snoc hk, nodup_snoc] at this
  exact this.2 hx

/-- What holds all through a round: drains at g, the step at z. -/
structure OS (w1 : World) (A B : Nat → Prop) (g z : Nat) (L M : List Dr) (st : Stp) (w : World) : Prop where
  d : DIn w B g 0 L M
  v : Inv L M
  sub : ∀ k, A k → B k
  bz : B z
  s : StAt w z st
  keep : Keep A w1 w
section
variable {w1 w w' : World} {A B : Nat → Prop} {g z : Nat} {L M L2 M2 : List Dr} {st : Stp}
theorem OS.same (h : OS w1 A B g z L M st w) (hb : Below w.heap.size w w') : OS w1 A B g z L M st w' := ⟨h.d.same hb, h.v, h.sub, h.bz, h.s.below hb, h.keep.trans (keep_below hb)⟩
theorem OS.step (h : OS w1 A B g z L M st w) (hd : DIn w' B g 0 L2 M2) (hv : Inv L2 M2) (hk : Keep B w w') : OS w1 A B g z L2 M2 st w' :=
  ⟨hd, hv, h.sub, h.bz, h.s.keep hk h.bz, h.keep.trans (hk.mono fun k _ hA => h.sub k hA)⟩
end

section
variable {w1 : World} {A B : Nat → Prop} {g z : Nat} {L M : List Dr} {st : Stp}
theorem OS.waits (hl : L.length ≤ 16) (w : World) (h : OS w1 A B g z L M st w) :
    Calls Try.prog 24 #[.pointer (some ⟨g, 0, none⟩)] w fun e w' => e = .returned (.slice (some ⟨w.heap.size, 0, none⟩) L.length L.length) ∧ StrsAt w' (some ⟨w.heap.size, 0, none⟩) L.length L.length (nms L) ∧ OS w1 A B g z L M st w' :=
  (waits_w w B g L M h.d (by omega)).mono fun e w' ⟨he, hs, hb⟩ => ⟨he, hs, h.same hb⟩
theorem OS.under (hl : M.length ≤ 900) (w : World) (h : OS w1 A B g z L M st w) :
    Calls Try.prog 25 #[.pointer (some ⟨g, 0, none⟩)] w fun e w' => e = .returned (.slice (some ⟨w.heap.size, 0, none⟩) M.length M.length) ∧ StrsAt w' (some ⟨w.heap.size, 0, none⟩) M.length M.length (nms M) ∧ OS w1 A B g z L M st w' ∧ Below w.heap.size w w' :=
  (under_w w B g L M h.d (by omega)).mono fun e w' ⟨he, hs, hb⟩ => ⟨he, hs, h.same hb, hb⟩
theorem has_is (x : ByteArray) (a : Option Addr) (n c : Nat) (w : World) (v : Bool) (hs : StrsAt w a n c (nms L)) (hv : isIn x L = v) :
    Calls Try.prog 31 #[.slice a n c, .string x] w fun e w' => e = .returned (.bool v) ∧ w' = w := by
  have := has_any a n c (nms L) x w hs
  rw [hasB_isIn, hv] at this
  exact this
theorem OS.ends (w : World) (h : OS w1 A B g z L M st w) (v : Bool) (hv : (isIn st.nm L || isIn st.nm M) = v) :
    Calls Try.prog 17 #[.pointer (some ⟨g, 0, none⟩), .string st.nm] w fun e w' => e = .returned (.bool v) ∧ OS w1 A B g z (wo st.nm L) (wo st.nm M) st w' := by
  subst hv
  exact (end_w w B g L M st.nm h.d h.v).mono fun e w' ⟨he, hd, hk⟩ => ⟨he, h.step hd (h.v.ended _) hk⟩
theorem OS.held {w : World} (h : OS w1 A B g z L M st w) : w.cell? ⟨z, 2, none⟩ = some (.string st.nm) ∧ OS w1 A B g z L M st w := ⟨h.s.cells.2.2.1, h⟩
theorem os_of {w : World} (h : w.cell? ⟨z, 2, none⟩ = some (.string st.nm) ∧ OS w1 A B g z L M st w) : OS w1 A B g z L M st w := h.2
end

end Go.Proofs.Ythobihlnjcphaaa
