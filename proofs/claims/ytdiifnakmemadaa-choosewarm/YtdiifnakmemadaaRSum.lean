/-
  What the document's own sum does, as a contract. Conditions: the host's numbers are within 100000.
-/
import Derived.Test.YtdiifnakmemadaaSum
namespace Go.Proofs.Ytdiifnakmemadaa
open Go.ChangeShapes Go.WideShapes Go.ChangeAt Go.RowKit

theorem allH_of (s m d b : Int) (y : Bool) (h1 : m ≤ 100000) (h2 : d ≤ 100000) (h3 : b ≤ 100000) : allH ⟨s, m, d, b, y⟩ = max m 0 + max d 0 + max b 0 := by
  unfold allH sumS
  simp only [List.foldl_cons, List.foldl_nil]
  unfold addS
  omega
theorem ownH_of (s m d b : Int) (y : Bool) (h1 : m ≤ 100000) (h2 : d ≤ 100000) : ownH ⟨s, m, d, b, y⟩ = max m 0 + max d 0 := by
  unfold ownH sumS
  simp only [List.foldl_cons, List.foldl_nil]
  unfold addS
  omega
theorem busyH_of (s m d b : Int) (y : Bool) : b ≤ 9223372036854775807 → busyH ⟨s, m, d, b, y⟩ = max b 0 := by
  intro h
  unfold busyH sumS
  simp only [List.foldl_cons, List.foldl_nil]
  unfold addS
  omega

set_option maxRecDepth 100000 in
theorem rsum5 (s m d b : Int) (y : Bool) (w : World) (h1 : m ≤ 100000) (h2 : d ≤ 100000) (h3 : b ≤ 100000) :
    Calls Try.prog 27 #[.agg #[.int .i64 s, .int .i64 m, .int .i64 d, .int .i64 b, .bool y]] w fun e w' => e = .returned (.int .i64 (allH ⟨s, m, d, b, y⟩)) ∧ Below w.heap.size w w' := by
  have hb : Below w.heap.size w (w.alloc (.cells #[.int .i64 s, .int .i64 m, .int .i64 d, .int .i64 b, .bool y] 43)) := (Below.refl _ w).alloc (Nat.le_refl _) _
  have hA := allH_of s m d b y h1 h2 h3
  have HB := Hid.mk' hb
  have HA := Hid.mk' hA
  clear hb hA
  rcases Int.lt_or_le m 0 with hm | hm <;> rcases Int.lt_or_le d 0 with hd | hd <;> rcases Int.lt_or_le b 0 with hbz | hbz
  all_goals
    go_enter Try.func27, Try.ntmps27
    go_wp2
    go_ret
    exact ⟨ret_int (by rw [HA.out]; omega), HB.out⟩

end Go.Proofs.Ytdiifnakmemadaa
