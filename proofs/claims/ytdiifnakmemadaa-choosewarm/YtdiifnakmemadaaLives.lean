/-
  What lives does, as a contract: the document's example holds. No conditions.
-/
import Derived.Test.YtdiifnakmemadaaApi
import Derived.Test.YtdiifnakmemadaaAll
import Derived.Test.YtdiifnakmemadaaRows2
namespace Go.Proofs.Ytdiifnakmemadaa
open Go.ChangeShapes Go.WideShapes Go.ChangeAt Go.RowKit

def two1 : List Hs := [⟨0, 0, 1, 2, false⟩, ⟨0, 0, 1, 1, false⟩]
def two2 : List Hs := [⟨0, 0, 0, 1, true⟩, ⟨0, 0, 0, 0, true⟩]
theorem two_hosts (w : World) (p q : Hs) : HostsAt (w.alloc (.cells #[.int .i64 p.st, .int .i64 p.mg, .int .i64 p.id, .int .i64 p.bz, .bool p.my, .int .i64 q.st, .int .i64 q.mg, .int .i64 q.id, .int .i64 q.bz, .bool q.my] 38)) (some ⟨w.heap.size, 0, none⟩) 2 2 [p, q] := by
  refine ⟨rfl, Nat.le_refl _, by unfold maxLen; omega, fun j hj => ⟨w.heap.size, 0, rfl, by simp, ?_⟩⟩
  match j, hj with
  | 0, _ => exact ⟨by simp [go_sem], by simp [go_sem], by simp [go_sem], by simp [go_sem], by simp [go_sem]⟩
  | 1, _ => exact ⟨by simp [go_sem], by simp [go_sem], by simp [go_sem], by simp [go_sem], by simp [go_sem]⟩

set_option maxHeartbeats 1000000 in
set_option maxRecDepth 100000 in
theorem lives_any (w : World) : Calls Try.prog 7 #[] w fun e w' => e = .returned (.bool true) ∧ Below w.heap.size w w' := by
  obtain ⟨w1, hw1⟩ : ∃ w1, w1 = w.alloc (.cells #[.int .i64 0, .int .i64 0, .int .i64 1, .int .i64 2, .bool false, .int .i64 0, .int .i64 0, .int .i64 1, .int .i64 1, .bool false] 38) := ⟨_, rfl⟩
  have h1 := Serve_any w1 _ _ _ _ (hw1 ▸ two_hosts w ⟨0, 0, 1, 2, false⟩ ⟨0, 0, 1, 1, false⟩)
  have hb1 : Below w.heap.size w w1 := by rw [hw1]; exact (Below.refl _ w).alloc (Nat.le_refl _) _
  have e1 : lst servesH busyH [⟨0, 0, 1, 2, false⟩, ⟨0, 0, 1, 1, false⟩] 2 = some 1 := by decide +kernel
  have e2 : lst (opensH 2) allH [⟨0, 0, 0, 1, true⟩, ⟨0, 0, 0, 0, true⟩] 2 = some 1 := by decide +kernel
  rw [e1] at h1
  have h1' : Calls Try.prog 10 #[.slice (some ⟨w.heap.size, 0, none⟩) 2 2] w1 fun e w' => e = .returned (.tuple #[.int .i64 1, .bool true]) ∧ Below w1.heap.size w1 w' := h1
  have HO : Hid (∀ w2 w3 : World, w3 = w2.alloc (.cells #[.int .i64 0, .int .i64 0, .int .i64 0, .int .i64 1, .bool true, .int .i64 0, .int .i64 0, .int .i64 0, .int .i64 0, .bool true] 38) → Calls Try.prog 12 #[.slice (some ⟨w2.heap.size, 0, none⟩) 2 2, .int .i64 2] w3 fun e w' => e = .returned (.tuple #[.int .i64 1, .bool true]) ∧ Below w3.heap.size w3 w') := fun w2 w3 h3 => by
    have h := Open_any w3 _ _ _ _ 2 (h3 ▸ two_hosts w2 ⟨0, 0, 0, 1, true⟩ ⟨0, 0, 0, 0, true⟩)
    rw [e2] at h
    exact h
  have HB1 := Hid.mk' hb1
  clear h1 e1 e2 hb1
  go_enter Try.func7, Try.ntmps7
  go_wp2_with fail
  rw [← hw1]
  clear hw1
  refine h1'.mono ?_
  rintro e w2 ⟨rfl, hb2⟩
  obtain ⟨w3, hw3⟩ : ∃ w3, w3 = w2.alloc (.cells #[.int .i64 0, .int .i64 0, .int .i64 0, .int .i64 1, .bool true, .int .i64 0, .int .i64 0, .int .i64 0, .int .i64 0, .bool true] 38) := ⟨_, rfl⟩
  have h3 := HO.out w2 w3 hw3
  have hb3 : Below w2.heap.size w2 w3 := by rw [hw3]; exact (Below.refl _ w2).alloc (Nat.le_refl _) _
  have HB3 : Hid (Below w.heap.size w w3) := below_trans (below_trans HB1.out hb2) hb3
  clear h1' hb2 hb3 HB1 HO
  go_wp2_with fail
  rw [← hw3]
  clear hw3
  refine h3.mono ?_
  rintro e w4 ⟨rfl, hb4⟩
  have hn := need_31 w4
  have HB4 : Hid (Below w.heap.size w w4) := below_trans HB3.out hb4
  clear h3 hb4 HB3
  go_wp2_with (go_at_call 18; refine hn.mono ?_; rintro e w5 ⟨rfl, hb5⟩)
  go_ret
  exact ⟨rfl, below_trans HB4.out hb5⟩

end Go.Proofs.Ytdiifnakmemadaa
