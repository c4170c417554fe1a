/-
  What takeOut does. Conditions: drains lie where they are said to lie, and the place is one of the row.
-/
import Derived.Test.YtmlkpfkeeifgeaaDoorRow
import Derived.Deep.RegionHeld3
namespace Go.Proofs.YtmlkpfkeeifgeaaDoor
open Go.ChangeShapes Go.WideShapes Go.ChangeAt Go.RowKit

theorem eraseIdx_len {L : List Dr} {i : Nat} (h : i < L.length) : (L.eraseIdx i).length = L.length - 1 := List.length_eraseIdx_of_lt h

set_option maxHeartbeats 4000000 in
set_option maxRecDepth 1000000 in
theorem takeOut_cells (w : World) (g r b i n cap : Nat) (y : Value) (l L : List Dr) (hr : r = 0 ∨ r = 1) (hb : w.heap[g]? = some (.cells (two r (.slice (some ⟨b, 0, none⟩) n cap) y) 102 (0, 0))) (hgb : g ≠ b)
    (hg : w.heap[b]? = some (.cells (flat l).toArray 118 (0, 0))) (hl : l.length = cap) (hL : l.take n = L) (hn : n ≤ cap) (hi : i < n) (hcap : cap ≤ maxLen) :
    Calls Tryd.prog 91 #[.pointer (some ⟨g, 0, none⟩), .int .i64 r, .int .i64 i] w fun e w' => e = .returned (.tuple #[]) ∧ ∃ w3 l', w' = w3.setCell ⟨g, r, none⟩ (.slice (some ⟨b, 0, none⟩) (n - 1) cap) ∧
      w3.heap[b]? = some (.cells (flat l').toArray 118 (0, 0)) ∧ l'.length = cap ∧ l'.take (n - 1) = L.eraseIdx i ∧ Keep (fun k => k ≠ b) w w3 := by
  obtain ⟨j, hj⟩ : ∃ j, i + 1 = j := ⟨_, rfl⟩
  have ew : IntKind.i64.wrap ((i : Int) + 1) = (j : Int) := by
    unfold maxLen at hcap
    rw [show (j : Int) = (i : Int) + 1 by omega]
    simp [IntKind.wrap, IntKind.signed, IntKind.bits]
    omega
  have hdel : Calls Tryd.prog 104 #[.slice (some ⟨b, 0, none⟩) n cap, .int .i64 i, .int .i64 j] w.drew fun e w' => e = .returned (.slice (some ⟨b, 0, none⟩) (n - 1) cap) ∧ ∃ l', w'.heap[b]? = some (.cells (flat l').toArray 118 (0, 0)) ∧ l'.length = cap ∧ l'.take (n - 1) = L.eraseIdx i ∧ Keep (fun k => k ≠ b) w w' :=
    (delete_any w.drew b n cap i j l L hg hl hL hn hi hcap hj).mono fun e w' ⟨h1, l', h2, h3, h4, h5⟩ => ⟨h1, l', h2, h3, h4, ((Keep.refl _ w).drew).trans h5⟩
  have HK : Hid (∀ w3 : World, Keep (fun k => k ≠ b) w w3 → w3.cell? ⟨g, r, none⟩ = some (.slice (some ⟨b, 0, none⟩) n cap) ∧ w3.frozen? ⟨g, r, none⟩ = false) := fun w3 hk => by
    have := two_cells hr ((hk.block g (lt_of_heap hb) hgb).trans hb)
    exact ⟨this.1, this.2.2.2 r⟩
  obtain ⟨c0, -, -, f0⟩ := two_cells hr hb
  have f0 := f0 r
  clear hj hcap
  clear hb hg hl hL hgb
  generalize L.eraseIdx i = L2 at *
  rcases hr with rfl | rfl
  · rw [show ((0 : Nat) : Int) = 0 from rfl]
    go_enter Tryd.func91, Tryd.ntmps91
    go_wp2
    go_region_with (go_at_call 104; refine hdel.mono ?_; rintro e w3 ⟨rfl, l', hg3, hl3, ht3, hk3⟩; obtain ⟨d3, f3⟩ := HK.out w3 hk3)
    all_goals (
      go_end0
      exact ⟨rfl, _, l', rfl, hg3, hl3, ht3, hk3⟩)
  · rw [show ((1 : Nat) : Int) = 1 from rfl]
    go_enter Tryd.func91, Tryd.ntmps91
    go_wp2
    go_region_with (go_at_call 104; refine hdel.mono ?_; rintro e w3 ⟨rfl, l', hg3, hl3, ht3, hk3⟩; obtain ⟨d3, f3⟩ := HK.out w3 hk3)
    all_goals (
      go_end0
      exact ⟨rfl, _, l', rfl, hg3, hl3, ht3, hk3⟩)

end Go.Proofs.YtmlkpfkeeifgeaaDoor
