/-
  The document's example is as it says: lives answers true. No conditions.
-/
import Derived.Test.YtcgnhkpclpecgaaDoorFew
namespace Go.Proofs.YtcgnhkpclpecgaaDoor
open Go.ChangeShapes Go.WideShapes Go.ChangeAt Go.RowKit

def nA : ByteArray := ⟨#[97]⟩
def nB : ByteArray := ⟨#[98]⟩
def nC : ByteArray := ⟨#[99]⟩
theorem came_ex : cameL [nA, nB] [nC, nA] = [nC] := by decide +kernel
theorem went_ex : wentL [nA, nB] [nC, nA] = [nB] := by decide +kernel
theorem both_ex : bothL [nA, nB] [nC, nA] = [nA] := by decide +kernel

theorem two_at (w : World) (x y : ByteArray) (g : Nat) (h : w.heap[g]? = some (.cells #[.string x, .string y] 9 (0, 0))) : StrsAt w (some ⟨g, 0, none⟩) 2 2 [x, y] := by
  refine ⟨rfl, Nat.le_refl _, by unfold maxLen; omega, fun j hj => ⟨g, 0, rfl, (Array.getElem?_eq_some_iff.1 h).1, ?_⟩⟩
  match j, hj with
  | 0, _ => simp [World.cell?, h]
  | 1, _ => simp [World.cell?, h]

theorem text_nil (a : Option Addr) (c : Nat) (w : World) : Calls Tryd.prog 11 #[.slice a 0 c] w fun e w' => e = .returned (.string ⟨#[45]⟩) ∧ w' = w := by
  go_enter Tryd.func11, Tryd.ntmps11
  go_wp2
  go_ret
  exact ⟨rfl, rfl⟩

/-- The shape of an own row of one text. -/
theorem one_shape {w : World} {base : Nat} {v : Value} {x : ByteArray} (h : w.ownsRow base 9 1 v 1 (sc [x])) : ∃ g cap, v = .slice (some ⟨g, 0, none⟩) 1 cap ∧ w.cell? ⟨g, 0, none⟩ = some (.string x) := by
  obtain ⟨a, cap, rfl, hs, _⟩ := owns_strs h
  obtain ⟨b, off, rfl, _, hc⟩ := hs.at_ 0 (by omega)
  rcases h.2 with ⟨h1, _⟩ | ⟨g, cap', cur, h1, _⟩
  · cases h1
  · cases h1
    exact ⟨_, _, rfl, hc⟩

set_option maxHeartbeats 1000000 in
set_option maxRecDepth 100000 in
theorem lives_any (w : World) : Calls Tryd.prog 5 #[] w fun e w' => e = .returned (.bool true) ∧ Below w.heap.size w w' := by
  have HW : Hid (∀ w1 : World, w1 = (w.alloc (.cells #[.string nA, .string nB] 9)).alloc (.cells #[.string nC, .string nA] 9) → Calls Tryd.prog 15 #[.slice (some ⟨w.heap.size, 0, none⟩) 2 2, .slice (some ⟨w.heap.size + 1, 0, none⟩) 2 2] w1 fun e w' => ∃ g1 g2 g3 c1 c2 c3,
      e = .returned (.tuple #[.slice (some ⟨g1, 0, none⟩) 1 c1, .slice (some ⟨g2, 0, none⟩) 1 c2, .slice (some ⟨g3, 0, none⟩) 1 c3]) ∧ w'.cell? ⟨g1, 0, none⟩ = some (.string nC) ∧ w'.cell? ⟨g2, 0, none⟩ = some (.string nB) ∧ w'.cell? ⟨g3, 0, none⟩ = some (.string nA) ∧ Below w.heap.size w w') := by
    rintro w1 rfl
    have e1 : ((w.alloc (.cells #[.string nA, .string nB] 9)).alloc (.cells #[.string nC, .string nA] 9)).heap[w.heap.size]? = some (.cells #[.string nA, .string nB] 9 (0, 0)) := by
      rw [Below.heap_alloc _ _ _ (by simp)]
      exact heap_alloc_new _ _
    have e2 : ((w.alloc (.cells #[.string nA, .string nB] 9)).alloc (.cells #[.string nC, .string nA] 9)).heap[w.heap.size + 1]? = some (.cells #[.string nC, .string nA] 9 (0, 0)) := by
      have := heap_alloc_new (w.alloc (.cells #[.string nA, .string nB] 9)) (.cells #[.string nC, .string nA] 9)
      rw [World.size_alloc] at this
      exact this
    refine (diff_any _ _ _ _ _ _ _ _ _ (two_at _ _ _ _ e1) ?_ (two_at _ _ _ _ e2) ?_).mono ?_
    · intro s hs
      simp only [List.mem_cons, List.not_mem_nil, or_false] at hs
      rcases hs with rfl | rfl <;> decide
    · intro s hs
      simp only [List.mem_cons, List.not_mem_nil, or_false] at hs
      rcases hs with rfl | rfl <;> decide
    · rintro e w2 ⟨v1, v2, v3, rfl, o1, o2, o3, hb⟩
      rw [came_ex] at o1
      rw [went_ex] at o2
      rw [both_ex] at o3
      obtain ⟨g1, c1, rfl, x1⟩ := one_shape o1
      obtain ⟨g2, c2, rfl, x2⟩ := one_shape o2
      obtain ⟨g3, c3, rfl, x3⟩ := one_shape o3
      exact ⟨g1, g2, g3, c1, c2, c3, rfl, x1, x2, x3, (((Below.refl _ w).alloc (Nat.le_refl _) _).alloc (by simp) _).trans (hb.mono (by simp; omega))⟩
  have HC : Hid (∀ w1 : World, Calls Tryd.prog 14 #[.slice none 0 0] w1 fun e w' => e = .returned (.int .i64 0) ∧ Below w1.heap.size w1 w') := fun w1 => check_any none 0 0 [] w1 (StrsAt.nil _ _ _ (Nat.zero_le _)) (fun s hs => by cases hs)
  have e1 : (⟨#[97]⟩ : ByteArray) = nA := rfl
  have e2 : (⟨#[98]⟩ : ByteArray) = nB := rfl
  have e3 : (⟨#[99]⟩ : ByteArray) = nC := rfl
  go_enter Tryd.func5, Tryd.ntmps5
  go_wp2_with fail
  refine (HW.out _ rfl).mono ?_
  rintro e w2 ⟨g1, g2, g3, c1, c2, c3, rfl, x1, x2, x3, hb2⟩
  clear HW
  go_wp2_with (first
    | (go_at_call 14; refine (HC.out _).mono ?_; rintro e w3 ⟨rfl, hb3⟩)
    | (go_at_call 11; refine (text_nil _ _ _).mono ?_; rintro e w4 ⟨rfl, rfl⟩))
  go_ret
  exact ⟨rfl, hb2.trans (hb3.mono hb2.size)⟩

end Go.Proofs.YtcgnhkpclpecgaaDoor
