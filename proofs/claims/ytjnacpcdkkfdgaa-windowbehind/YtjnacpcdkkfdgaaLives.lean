/-
  The document's example answers true; nothing that was there is turned. WindowNil's walk: it returns true. No conditions.
-/
import Derived.Test.YtjnacpcdkkfdgaaCount
namespace Go.Proofs.Ytjnacpcdkkfdgaa
open Go.ChangeShapes Go.WideShapes Go.ChangeAt Go.RowKit

/-- Add, its answer and what is left by name. -/
theorem add_n (w : World) (A : Nat → Prop) (g : Nat) (s t : Int) (L : List Int) (x y T : Int) (M : List Int) (n : Nat) (h : WAt w A g s t L) (hL : L.length ≤ 1000) (hy : max (cut x) (lastI L) = y) (hT : max t (cut y) = T) (hM : cntL s T (L ++ [y]) = M) (hn : M.length = n) :
    Calls Try.prog 14 #[.pointer (some ⟨g, 0, none⟩), .int .i64 x] w fun e w' => e = .returned (.int .i64 n) ∧ WAt w' A g s T M ∧ Keep A w w' := by
  refine (add_w w A g s t L x h hL).mono ?_
  rintro e w' ⟨z, rfl, rfl, h1, h2⟩
  rw [hy, hT, hM] at h1
  rw [hy, hT, hM, hn]
  exact ⟨rfl, h1, h2⟩
theorem count_n (w : World) (A : Nat → Prop) (g : Nat) (s t : Int) (L : List Int) (x T : Int) (M : List Int) (n : Nat) (h : WAt w A g s t L) (hL : L.length ≤ 1001) (hT : max t (cut x) = T) (hM : cntL s T L = M) (hn : M.length = n) :
    Calls Try.prog 16 #[.pointer (some ⟨g, 0, none⟩), .int .i64 x] w fun e w' => e = .returned (.int .i64 n) ∧ WAt w' A g s T M ∧ Keep A w w' := by
  refine (count_w w A g s t L x h hL).mono ?_
  rintro e w' ⟨rfl, h1, h2⟩
  rw [hT, hM] at h1
  rw [hT, hM, hn]
  exact ⟨rfl, h1, h2⟩

set_option maxHeartbeats 1000000 in
set_option maxRecDepth 100000 in
theorem lives_any (w : World) :
    Calls Try.prog 8 #[] w fun e w' => e = .returned (.bool true) ∧ Below w.heap.size w w' := by
  go_enter Try.func8, Try.ntmps8
  go_wp2_with fail
  refine (new_any 10 w).mono ?_
  rintro e w1 ⟨rfl, hW, hb, -⟩
  rw [show spanI 10 = 10 by decide] at hW
  have hk : Keep (fun k => k < w.heap.size) w w1 := keep_below hb
  clear hb
  go_wp2_with fail
  refine (add_n _ _ _ 10 0 [] 0 0 0 [0] 1 hW (by decide) (by decide) (by decide) (by decide) (by decide)).mono ?_
  rintro e w2 ⟨rfl, hW2, hk2⟩
  have hk := hk.trans hk2
  clear hW hk2
  go_wp2_with fail
  refine (add_n _ _ _ 10 0 [0] 5 5 5 [0, 5] 2 hW2 (by decide) (by decide) (by decide) (by decide) (by decide)).mono ?_
  rintro e w3 ⟨rfl, hW3, hk3⟩
  have hk := hk.trans hk3
  clear hW2 hk3
  go_wp2_with fail
  refine (add_n _ _ _ 10 5 [0, 5] 9 9 9 [0, 5, 9] 3 hW3 (by decide) (by decide) (by decide) (by decide) (by decide)).mono ?_
  rintro e w4 ⟨rfl, hW4, hk4⟩
  have hk := hk.trans hk4
  clear hW3 hk4
  go_wp2_with fail
  refine (count_n _ _ _ 10 9 [0, 5, 9] 10 10 [5, 9] 2 hW4 (by decide) (by decide) (by decide) (by decide)).mono ?_
  rintro e w5 ⟨rfl, hW5, hk5⟩
  have hk := hk.trans hk5
  clear hW4 hk5
  go_wp2_with fail
  refine (len_w _ _ _ _ _ _ hW5).mono ?_
  rintro e w6 ⟨rfl, hw6⟩
  obtain rfl : w5 = w6 := hw6.symm
  go_wp2_with fail
  refine (count_n _ _ _ 10 10 [5, 9] 19 19 [] 0 hW5 (by decide) (by decide) (by decide) (by decide)).mono ?_
  rintro e w7 ⟨rfl, hW7, hk7⟩
  have hk := hk.trans hk7
  clear hW5 hk7
  go_wp2_with fail
  refine (len_w _ _ _ _ _ _ hW7).mono ?_
  rintro e w8 ⟨rfl, hw8⟩
  obtain rfl : w7 = w8 := hw8.symm
  clear hW7
  go_wp2
  go_ret
  exact ⟨rfl, hk.below (Nat.le_refl _) (fun _ h => h)⟩

set_option maxRecDepth 100000 in
theorem nil_walk (x : Int) (w : World) :
    Calls Try.prog 6 #[.int .i64 x] w fun e w' => e = .returned (.bool true) ∧ Below w.heap.size w w' := by
  go_enter Try.func6, Try.ntmps6
  go_wp2_with fail
  refine (lives_any w).mono ?_
  rintro e w1 ⟨rfl, hb1⟩
  go_wp2_with (first
    | (go_at_call 17; refine (reset_nil _).mono ?_; rintro e w' ⟨rfl, rfl⟩)
    | (go_at_call 19; refine (last_nil _).mono ?_; rintro e w' ⟨rfl, rfl⟩)
    | (go_at_call 14; refine (add_nil _ _).mono ?_; rintro e w' ⟨rfl, rfl⟩)
    | (go_at_call 16; refine (count_nil _ _).mono ?_; rintro e w' ⟨rfl, rfl⟩)
    | (go_at_call 20; refine (len_nil _).mono ?_; rintro e w' ⟨rfl, rfl⟩))
  go_ret
  exact ⟨rfl, hb1⟩

end Go.Proofs.Ytjnacpcdkkfdgaa
