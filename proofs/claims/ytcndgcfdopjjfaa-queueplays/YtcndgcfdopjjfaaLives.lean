/-
  What the document's example does: it holds, and nothing that was there is written. And a queue that isn't there. No conditions.
-/
import Derived.Test.YtcndgcfdopjjfaaExp
namespace Go.Proofs.Ytcndgcfdopjjfaa
open Go.ChangeShapes Go.WideShapes Go.ChangeAt Go.RowKit

theorem below_trans {w w1 w2 : World} (h1 : Below w.heap.size w w1) (h2 : Below w1.heap.size w1 w2) : Below w.heap.size w w2 :=
  h1.trans ⟨h2.os, h2.tape, h2.output, h2.size, fun k hk => h2.block k (Nat.lt_of_lt_of_le hk h1.size)⟩

theorem lives_any (w : World) : Calls Try.prog 8 #[] w fun e w' => e = .returned (.bool true) ∧ Below w.heap.size w w' := by
  have hn := new_any 2 w
  go_enter Try.func8, Try.ntmps8
  go_wp2_with (first
    | (go_at_call 9; refine hn.mono ?_; rintro e w1 ⟨rfl, hq1, hb1, hs1⟩; have hp1 := push_w w1 _ _ _ _ 7 0 hq1)
    | (go_at_call 14; refine hp1.mono ?_; rintro e w2 ⟨rfl, hq2, hk2⟩; clear hp1; have hp2 := push_w w2 _ _ _ _ 8 0 hq2)
    | (go_at_call 14; refine hp2.mono ?_; rintro e w3 ⟨rfl, hq3, hk3⟩; clear hp2; have hp3 := push_w w3 _ _ _ _ 9 0 hq3)
    | (go_at_call 14; refine hp3.mono ?_; rintro e w4 ⟨rfl, hq4, hk4⟩; clear hp3; have hp4 := pop_w w4 _ _ _ _ hq4)
    | (go_at_call 16; refine hp4.mono ?_; rintro e w5 ⟨rfl, hq5, hk5⟩; clear hp4; have hp5 := len_w w5 _ _ _ _ hq5; have hp6 := room_w w5 _ _ _ _ hq5)
    | (go_at_call 25; refine hp5.mono ?_; rintro e w' ⟨rfl, hw'⟩; subst w')
    | (go_at_call 26; refine hp6.mono ?_; rintro e w' ⟨rfl, hw'⟩; subst w'))
  go_ret
  have e1 : (((roomN 2 - (without [7] (pushL (roomN 2) 9 0 (pushL (roomN 2) 8 0 (pushL (roomN 2) 7 0 [])))).length : Nat) : Int) == 1) = true := by decide
  refine ⟨ret_bool e1, hb1.trans (Keep.below (((hk2.trans hk3).trans hk4).trans hk5) (by omega) (fun k hk => hk))⟩

theorem nil_any (x t : Int) (w : World) : Calls Try.prog 6 #[.int .i64 x, .int .i64 t] w fun e w' => e = .returned (.bool true) ∧ Below w.heap.size w w' := by
  go_enter Try.func6, Try.ntmps6
  go_wp2_with (first
    | (go_at_call 8; refine (lives_any w).mono ?_; rintro e w1 ⟨rfl, hb1⟩)
    | (go_at_call 16; refine (pop_nil _).mono ?_; rintro e w' ⟨rfl, hw'⟩; subst w')
    | (go_at_call 24; refine (peek_nil _).mono ?_; rintro e w' ⟨rfl, hw'⟩; subst w')
    | (go_at_call 23; refine (since_nil _ _).mono ?_; rintro e w' ⟨rfl, hw'⟩; subst w')
    | (go_at_call 14; refine (push_nil _ _ _).mono ?_; rintro e w' ⟨rfl, hw'⟩; subst w')
    | (go_at_call 18; refine (remove_nil _ _).mono ?_; rintro e w' ⟨rfl, hw'⟩; subst w')
    | (go_at_call 21; refine (expire_nil _ _ _).mono ?_; rintro e w' ⟨rfl, hw'⟩; subst w')
    | (go_at_call 25; refine (len_nil _).mono ?_; rintro e w' ⟨rfl, hw'⟩; subst w')
    | (go_at_call 26; refine (room_nil _).mono ?_; rintro e w' ⟨rfl, hw'⟩; subst w')
    | (go_at_call 27; refine (ids_nil _).mono ?_; rintro e w2 ⟨⟨a2, c2, rfl⟩, hb2⟩)
    | (go_at_call 28; refine (place_nil _ _).mono ?_; rintro e w' ⟨rfl, hw'⟩; subst w'))
  go_ret
  exact ⟨rfl, below_trans hb1 hb2⟩

end Go.Proofs.Ytcndgcfdopjjfaa
