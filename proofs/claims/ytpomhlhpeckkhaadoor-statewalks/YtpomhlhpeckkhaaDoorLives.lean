/-
  The document's example answers true. Condition: the tables read as they are laid.
-/
import Derived.Test.YtpomhlhpeckkhaaDoorWalk
namespace Go.Proofs.YtpomhlhpeckkhaaDoor
open Go.ChangeShapes Go.WideShapes Go.ChangeAt Go.RowKit

set_option maxHeartbeats 1000000 in
theorem lives_any (w : World) (hn : Tabs w) :
    Calls Tryd.prog 8 #[] w fun e w' => e = .returned (.bool true) ∧ Below w.heap.size w w' := by
  have hb : Below w.heap.size w (w.alloc (.cells #[.int .i64 0, .int .i64 4] 3)) := (Below.refl _ _).alloc (Nat.le_refl _) _
  have hn1 := hn.below hb
  have hi : IntsAt (w.alloc (.cells #[.int .i64 0, .int .i64 4] 3)) (some ⟨w.heap.size, 0, none⟩) 2 2 [0, 4] := by
    refine ⟨rfl, Nat.le_refl _, by unfold maxLen; omega, fun j hj => ⟨_, _, rfl, by simp, ?_⟩⟩
    match j, hj with
    | 0, _ => simp [go_sem]
    | 1, _ => simp [go_sem]
  have HB : Hid _ := hb
  have HN : Hid _ := hn1
  have HI : Hid _ := hi
  have e2 : nm 2 = ⟨#[113, 117, 97, 114, 97, 110, 116, 105, 110, 101, 100]⟩ := by decide
  have e3 : wk 0 [0, 4] = 3 := by decide
  have e4 : wn 0 [0, 4] = 2 := by decide
  clear hb hn1 hi hn
  go_enter Tryd.func8, Tryd.ntmps8
  go_wp2_with (first
    | (go_at_call 11; refine (walk_any _ _ _ _ _ _ HN.out HI.out).mono ?_; rintro e w' ⟨rfl, rfl⟩)
    | (go_at_call 17; refine (serves_any _ _).mono ?_; rintro e w' ⟨rfl, rfl⟩)
    | (go_at_call 13; refine (name_any _ _ HN.out).mono ?_; rintro e w' ⟨rfl, rfl⟩))
  go_ret
  exact ⟨rfl, HB.out⟩

end Go.Proofs.YtpomhlhpeckkhaaDoor
