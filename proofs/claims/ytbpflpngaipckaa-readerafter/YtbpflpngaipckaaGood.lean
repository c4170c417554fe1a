/-
  Good makes a frame that may be, of 40 bytes at most, of any; Bytes is the bytes of frames that may be, one behind the other. Condition, of Bytes: the slice reads as such frames, at most 8.
-/
import Derived.Test.YtbpflpngaipckaaApp
import Derived.Deep.RegionHeld3
import Derived.Deep.DrawnRows
import Derived.BigRegion
namespace Go.Proofs.Ytbpflpngaipckaa
open Go.ChangeShapes Go.WideShapes Go.ChangeAt Go.RowKit
attribute [local go_sem ↓] Go.wp_at_zero Go.wp_at_succ

def cut40 (s : ByteArray) : ByteArray := s.extract 0 (min s.size 40)
theorem cut40_size (s : ByteArray) : (cut40 s).size ≤ 40 := by
  unfold cut40
  rw [ByteArray.size_extract]
  omega
theorem cut40_short {s : ByteArray} (h : s.size ≤ 40) : cut40 s = s := by unfold cut40; rw [Nat.min_eq_left h]; simp
theorem cut40_long {s : ByteArray} (h : ¬ s.size ≤ 40) : cut40 s = s.extract 0 40 := by unfold cut40; rw [Nat.min_eq_right (by omega)]

theorem good_k (k : Int) : wrap64 (1 + wrap64 ((IntKind.u64.wrap k).tmod 8)) = 1 + k % 8 := by
  rw [IntKind.wrap_u64, Int.tmod_eq_emod_of_nonneg (by omega)]
  unfold wrap64
  omega

set_option maxHeartbeats 1000000 in
set_option maxRecDepth 100000 in
theorem good_any (k : Int) (s : ByteArray) (w : World) (hs : s.size ≤ maxLen) :
    Calls Try.prog 23 #[.agg #[.int .i64 k, .string s]] w fun e w' => e = .returned (.agg #[.int .i64 (1 + k % 8), .string (cut40 s)]) ∧ Below w.heap.size w w' := by
  unfold maxLen at hs
  rw [← good_k k]
  by_cases h : s.size ≤ 40
  · rw [cut40_short h]
    go_enter Try.func23, Try.ntmps23
    go_wp2
    go_region
    go_wp2
    exact bodyPost_ret (v := .agg #[.int .i64 (wrap64 (1 + wrap64 ((IntKind.u64.wrap k).tmod 8))), .string s]) (by simp [results, Try.results23, go_sem]) rfl ⟨rfl, (((Below.refl _ _).alloc (Nat.le_refl _) _).alloc (by simp) _).drew⟩
  · rw [cut40_long h]
    have h40 : (40 : Int) < (s.size : Int) := by omega
    go_enter Try.func23, Try.ntmps23
    go_wp2
    go_region
    go_wp2
    exact bodyPost_ret (v := .agg #[.int .i64 (wrap64 (1 + wrap64 ((IntKind.u64.wrap k).tmod 8))), .string (s.extract 0 40)]) (by simp [results, Try.results23, go_sem]) rfl ⟨rfl, (((Below.refl _ _).alloc (Nat.le_refl _) _).alloc (by simp) _).drew⟩

end Go.Proofs.Ytbpflpngaipckaa
