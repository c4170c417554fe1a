/-
  What the document's own Right does, as a contract. No conditions.
-/
import Derived.Test.YtbpflpngaipckaaMem
namespace Go.Proofs.Ytbpflpngaipckaa
open Go.ChangeShapes Go.WideShapes Go.ChangeAt Go.RowKit

theorem ret_str {a b : ByteArray} (h : a = b) : Ending.returned (.string a) = .returned (.string b) := by rw [h]

theorem rright_any (k : Int) (s : ByteArray) (c : Int) (w : World) :
    Calls Try.prog 34 #[.agg #[.int .i64 k, .string s], .int .i64 c] w fun e w' => e = .returned (.int .i64 (chk k s.size c)) ∧ Below w.heap.size w w' := by
  by_cases h1 : k < 1
  · have e := chk_kind (k := k) (n := s.size) (c := c) (by omega)
    rw [e]
    clear e
    go_enter Try.func34, Try.ntmps34
    go_wp2
    go_ret
    exact ⟨rfl, (Below.refl _ _).alloc (Nat.le_refl _) _⟩
  · by_cases h2 : 8 < k
    · have e := chk_kind (k := k) (n := s.size) (c := c) (by omega)
      rw [e]
      clear e
      go_enter Try.func34, Try.ntmps34
      go_wp2
      go_ret
      exact ⟨rfl, (Below.refl _ _).alloc (Nat.le_refl _) _⟩
    · by_cases h3 : capd c < s.size
      · have e := chk_big (k := k) (n := s.size) (c := c) (by omega) (by omega) h3
        rw [e]
        clear e
        go_enter Try.func34, Try.ntmps34
        go_wp2
        go_quiet ((go_at_call 33; exact Calls.quiet_of_same (capped_any _ _)))
        go_wp2
        go_ret
        exact ⟨rfl, below_drewN ((Below.refl _ _).alloc (Nat.le_refl _) _) _⟩
      · have e := chk_ok (k := k) (n := s.size) (c := c) (by omega) (by omega) (by omega)
        rw [e]
        clear e
        go_enter Try.func34, Try.ntmps34
        go_wp2
        go_quiet ((go_at_call 33; exact Calls.quiet_of_same (capped_any _ _)))
        go_wp2
        go_ret
        exact ⟨rfl, below_drewN ((Below.refl _ _).alloc (Nat.le_refl _) _) _⟩

end Go.Proofs.Ytbpflpngaipckaa
