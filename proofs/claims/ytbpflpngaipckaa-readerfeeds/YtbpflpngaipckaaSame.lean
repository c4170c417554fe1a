/-
  Same answers true at two slices that read as the same frames; nothing that was there is turned. Condition: both slices read as those frames.
-/
import Derived.Test.YtbpflpngaipckaaRead
namespace Go.Proofs.Ytbpflpngaipckaa
open Go.ChangeShapes Go.WideShapes Go.ChangeAt Go.RowKit

set_option maxHeartbeats 400000 in
set_option maxRecDepth 100000 in
theorem same_any (a a' : Option Addr) (n ca cb : Nat) (l : List Fr) (w : World) (h : FramesAt w a n ca l) (h' : FramesAt w a' n cb l) :
    Calls Try.prog 15 #[.slice a n ca, .slice a' n cb] w fun e w' => e = .returned (.bool true) ∧ Below w.heap.size w w' := by
  have hcap := h.hcap
  have hle := h.hle
  unfold maxLen at hcap
  have H : Hid (FramesAt w a n ca l) := h
  have H' : Hid (FramesAt w a' n cb l) := h'
  clear h h'
  go_enter Try.func15, Try.ntmps15
  go_wp2
  go_loopw [5] (fun i wr => ∃ k : Nat, k ≤ n ∧ i = .int .i64 k ∧ Below w.heap.size w wr) (fun i _ => n - (intOf i).toNat)
  case atStart => exact ⟨0, Nat.zero_le _, rfl, Below.refl _ _⟩
  case round =>
    obtain ⟨k, hk, rfl, hbel⟩ := hrel
    by_cases hlt : k < n
    · obtain ⟨b, off, rfl, hb, hc, hd⟩ := (H.out.below hbel).at_ k hlt
      obtain ⟨b', off', rfl, hb', hc', hd'⟩ := (H'.out.below hbel).at_ k hlt
      generalize l.getD k Fr.zero = f at hc hd hc' hd'
      have hkn : (k : Int) < (n : Int) := by omega
      clear H H'
      go_wp2
      go_quiet (fail)
      go_wp2
      go_roundw
      case rel => exact ⟨k + 1, by omega, by go_num, below_drewN hbel _⟩
      case measure => simp [intOf]; omega
    · go_wp2
      go_ret
      exact ⟨rfl, hbel⟩

end Go.Proofs.Ytbpflpngaipckaa
