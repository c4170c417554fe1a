/-
  The document's example answers true; nothing that was there is turned. ReaderNil's walk: it returns true. No conditions.
-/
import Derived.Test.YtbpflpngaipckaaFeed
namespace Go.Proofs.Ytbpflpngaipckaa
open Go.ChangeShapes Go.WideShapes Go.ChangeAt Go.RowKit

set_option maxHeartbeats 1000000 in
set_option maxRecDepth 100000 in
theorem lives_any (w : World) :
    Calls Try.prog 10 #[] w fun e w' => e = .returned (.bool true) ∧ Below w.heap.size w w' := by
  have hf1 : feedB 9 ⟨[], 0⟩ [3, 0] = (⟨[3, 0], 0⟩, []) := by kernel_rfl
  have hf2 : (feedB 9 ⟨[3, 0], 0⟩ [1, 113]).1 = ⟨[], 0⟩ ∧ (feedB 9 ⟨[3, 0], 0⟩ [1, 113]).2.length = 1 := ⟨by kernel_rfl, by kernel_rfl⟩
  have hw : wantB 9 ⟨[3, 0], 0⟩ = 1 := by kernel_rfl
  go_enter Try.func10, Try.ntmps10
  go_wp2_with fail
  refine (new_any 9 w).mono ?_
  rintro e w1 ⟨rfl, hr1, hb1, hz1⟩
  go_wp2_with fail
  refine (feed_any _ 9 ⟨[], 0⟩ ⟨#[3, 0]⟩ w1 hr1 (by decide)).mono ?_
  rintro e w2 ⟨v2, rfl, ho2, hr2, hg2⟩
  have e1 : (⟨#[3, 0]⟩ : ByteArray).data.toList = [3, 0] := rfl
  rw [e1, hf1] at ho2 hr2 ⊢
  have B2 : Below w.heap.size w w2 := hb1.grown hg2 hb1.size (fun k hk => by cases hk; exact Nat.le_refl _)
  clear hg2 hr1 hb1 e1 hf1
  obtain ⟨a2, c2, rfl, _⟩ := owns_frames ho2
  go_wp2_with fail
  refine (want_any _ 9 _ w2 hr2 (by decide)).mono ?_
  rintro e w3 ⟨rfl, hb3⟩
  rw [hw]
  have hr3 := hr2.below hb3
  have B3 : Below w.heap.size w w3 := B2.trans (hb3.mono B2.size)
  clear hb3 hr2 B2 ho2 hw
  go_wp2_with fail
  refine (feed_any _ 9 _ ⟨#[1, 113]⟩ w3 hr3 (by decide)).mono ?_
  rintro e w4 ⟨v4, rfl, ho4, hr4, hg4⟩
  have e1 : (⟨#[1, 113]⟩ : ByteArray).data.toList = [1, 113] := rfl
  rw [e1, hf2.1] at hr4
  rw [e1, hf2.2] at ho4
  rw [e1, hf2.1]
  have B4 : Below w.heap.size w w4 := B3.grown hg4 B3.size (fun k hk => by cases hk; exact Nat.le_refl _)
  obtain ⟨a4, c4, rfl, _⟩ := owns_frames ho4
  clear hg4 hr3 B3 ho4 e1 hf2
  go_wp2_with (first
    | (go_at_call 16; refine (left_any _ 9 _ _ hr4).mono ?_; rintro e w' ⟨rfl, rfl⟩)
    | (go_at_call 17; refine (err_any _ 9 _ _ hr4).mono ?_; rintro e w' ⟨rfl, rfl⟩))
  go_ret
  exact ⟨rfl, B4⟩

set_option maxRecDepth 100000 in
theorem nil_walk (s : ByteArray) (w : World) :
    Calls Try.prog 8 #[.string s] w fun e w' => e = .returned (.bool true) ∧ Below w.heap.size w w' := by
  go_enter Try.func8, Try.ntmps8
  go_wp2_with fail
  refine (lives_any w).mono ?_
  rintro e w1 ⟨rfl, hb1⟩
  go_wp2_with fail
  refine (feed_nil s w1).mono ?_
  rintro e w' ⟨rfl, hw⟩
  obtain rfl : w1 = w' := hw.symm
  go_wp2_with (first
    | (go_at_call 16; refine (left_nil _).mono ?_; rintro e w' ⟨rfl, rfl⟩)
    | (go_at_call 18; refine (want_nil _).mono ?_; rintro e w' ⟨rfl, rfl⟩)
    | (go_at_call 17; refine (err_nil _).mono ?_; rintro e w' ⟨rfl, rfl⟩))
  go_ret
  exact ⟨rfl, hb1⟩

end Go.Proofs.Ytbpflpngaipckaa
