/-
  What Head and Read do, the program's and the document's own, at a slice that reads as a list of bytes: what the plain functions headB and readB say; nothing that was there is turned. Condition: the slice reads as those bytes.
-/
import Derived.Test.YtbpflpngaipckaaWrite
namespace Go.Proofs.Ytbpflpngaipckaa
open Go.ChangeShapes Go.WideShapes Go.ChangeAt Go.RowKit

theorem BytesAt.three {w : World} {a : Option Addr} {len cap : Nat} {bs : List UInt8} (h : BytesAt w a len cap bs) (h3 : 3 ≤ len) :
    ∃ x y z r b off, bs = x :: y :: z :: r ∧ a = some ⟨b, off, none⟩ ∧ b < w.heap.size ∧ w.cell? ⟨b, off, none⟩ = some (.int .u8 x.toNat) ∧ w.cell? ⟨b, off + 1, none⟩ = some (.int .u8 y.toNat) ∧ w.cell? ⟨b, off + 2, none⟩ = some (.int .u8 z.toNat) := by
  have hl := h.hlen
  match bs, hl with
  | x :: y :: z :: r, hl =>
    obtain ⟨b, off, e0, hlt, hc0⟩ := h.at_ 0 (by omega)
    obtain ⟨b1, off1, e1, _, hc1⟩ := h.at_ 1 (by omega)
    obtain ⟨b2, off2, e2, _, hc2⟩ := h.at_ 2 (by omega)
    rw [e0] at e1 e2
    cases e1
    cases e2
    exact ⟨x, y, z, r, b, off, rfl, e0, hlt, by simpa using hc0, by simpa using hc1, by simpa using hc2⟩
  | [], hl => simp at hl; omega
  | [_], hl => simp at hl; omega
  | [_, _], hl => simp at hl; omega

theorem or_bytes (y z : Nat) (hy : y < 256) (hz : z < 256) : bits .or .i64 ((y : Int) * 256) (z : Int) = (y : Int) * 256 + z := by
  show IntKind.i64.wrap ((BitVec.ofInt 64 ((y : Int) * 256) ||| BitVec.ofInt 64 (z : Int)).toNat : Int) = _
  have e : ((y : Int) * 256) = ((y * 256 : Nat) : Int) := by omega
  have ho : y * 256 ||| z = y * 256 + z := by
    have := Nat.two_pow_add_eq_or_of_lt (i := 8) (b := z) (by omega) y
    rw [Nat.mul_comm y 256]
    exact this.symm
  rw [e, BitVec.toNat_or, BitVec.ofInt_natCast, BitVec.ofInt_natCast, BitVec.toNat_ofNat, BitVec.toNat_ofNat, Nat.mod_eq_of_lt (by omega), Nat.mod_eq_of_lt (by omega), ho, IntKind.wrap_i64]
  omega

set_option maxHeartbeats 400000 in
set_option maxRecDepth 100000 in
theorem head_any (a : Option Addr) (len cap : Nat) (bs : List UInt8) (c : Int) (w : World) (h : BytesAt w a len cap bs) :
    Calls Try.prog 27 #[.slice a len cap, .int .i64 c] w fun e w' => e = .returned (.tuple #[.int .i64 (headB bs c).1, .int .i64 (headB bs c).2.1, .int .i64 (headB bs c).2.2]) ∧ Below w.heap.size w w' := by
  have hcap := h.hcap
  have hle := h.hle
  unfold maxLen at hcap
  by_cases h3 : 3 ≤ len
  · obtain ⟨x, y, z, r, b, off, rfl, rfl, hb, hx, hy, hz⟩ := h.three h3
    clear h
    have hl0 : (0 : Int) < (len : Int) := by omega
    have hl1 : (1 : Int) < (len : Int) := by omega
    have hl2 : (2 : Int) < (len : Int) := by omega
    have hx8 : (x.toNat : Int) < 256 := by have := x.toNat_lt; omega
    have hy8 : (y.toNat : Int) < 256 := by have := y.toNat_lt; omega
    have hz8 : (z.toNat : Int) < 256 := by have := z.toNat_lt; omega
    have hor := or_bytes y.toNat z.toNat (by omega) (by omega)
    by_cases hk : chk x.toNat (y.toNat * 256 + z.toNat) c = 0
    · rw [headB_ok hk]
      go_enter Try.func27, Try.ntmps27
      go_wp2
      go_quiet (fail)
      go_wp2_with (first | (go_at_call 32; refine (check_any _ _ _ _).mono ?_; rintro e w' ⟨rfl, rfl⟩))
      go_ret3
      exact ⟨rfl, below_drewN (Below.refl _ _) _⟩
    · rw [headB_bad hk]
      have hne : (chk x.toNat (y.toNat * 256 + z.toNat) c != 0) = true := by simpa using hk
      clear hk
      go_enter Try.func27, Try.ntmps27
      go_wp2
      go_quiet (fail)
      go_wp2_with (first | (go_at_call 32; refine (check_any _ _ _ _).mono ?_; rintro e w' ⟨rfl, rfl⟩))
      go_ret3
      exact ⟨rfl, below_drewN (Below.refl _ _) _⟩
  · have hl := h.hlen
    rw [headB_short (by omega)]
    clear h hl
    go_enter Try.func27, Try.ntmps27
    go_wp2
    go_ret3
    exact ⟨rfl, Below.refl _ _⟩

set_option maxHeartbeats 400000 in
set_option maxRecDepth 100000 in
theorem rhead_any (a : Option Addr) (len cap : Nat) (bs : List UInt8) (c : Int) (w : World) (h : BytesAt w a len cap bs) :
    Calls Try.prog 28 #[.slice a len cap, .int .i64 c] w fun e w' => e = .returned (.tuple #[.int .i64 (headB bs c).1, .int .i64 (headB bs c).2.1, .int .i64 (headB bs c).2.2]) ∧ Below w.heap.size w w' := by
  have hcap := h.hcap
  have hle := h.hle
  unfold maxLen at hcap
  by_cases h3 : 3 ≤ len
  · obtain ⟨x, y, z, r, b, off, rfl, rfl, hb, hx, hy, hz⟩ := h.three h3
    clear h
    have hl0 : (0 : Int) < (len : Int) := by omega
    have hl1 : (1 : Int) < (len : Int) := by omega
    have hl2 : (2 : Int) < (len : Int) := by omega
    have hx8 : (x.toNat : Int) < 256 := by have := x.toNat_lt; omega
    have hy8 : (y.toNat : Int) < 256 := by have := y.toNat_lt; omega
    have hz8 : (z.toNat : Int) < 256 := by have := z.toNat_lt; omega
    by_cases h1 : (x.toNat : Int) < 1
    · have e := chk_kind (k := x.toNat) (n := y.toNat * 256 + z.toNat) (c := c) (by omega)
      rw [headB_bad (by rw [e]; decide), e]
      clear e
      go_enter Try.func28, Try.ntmps28
      go_wp2
      go_ret3
      exact ⟨rfl, Below.refl _ _⟩
    · by_cases h2 : (8 : Int) < (x.toNat : Int)
      · have e := chk_kind (k := x.toNat) (n := y.toNat * 256 + z.toNat) (c := c) (by omega)
        rw [headB_bad (by rw [e]; decide), e]
        clear e
        go_enter Try.func28, Try.ntmps28
        go_wp2
        go_ret3
        exact ⟨rfl, Below.refl _ _⟩
      · by_cases hk : capd c < y.toNat * 256 + z.toNat
        · have e := chk_big (k := x.toNat) (n := y.toNat * 256 + z.toNat) (c := c) (by omega) (by omega) hk
          rw [headB_bad (by rw [e]; decide), e]
          clear e
          go_enter Try.func28, Try.ntmps28
          go_wp2
          go_quiet (fail)
          go_wp2_with (first | (go_at_call 33; refine (capped_any _ _).mono ?_; rintro e w' ⟨rfl, rfl⟩))
          go_ret3
          exact ⟨rfl, below_drewN (Below.refl _ _) _⟩
        · have e := chk_ok (k := x.toNat) (n := y.toNat * 256 + z.toNat) (c := c) (by omega) (by omega) (by omega)
          rw [headB_ok e]
          clear e
          go_enter Try.func28, Try.ntmps28
          go_wp2
          go_quiet (fail)
          go_wp2_with (first | (go_at_call 33; refine (capped_any _ _).mono ?_; rintro e w' ⟨rfl, rfl⟩))
          go_ret3
          exact ⟨rfl, below_drewN (Below.refl _ _) _⟩
  · have hl := h.hlen
    rw [headB_short (by omega)]
    clear h hl
    go_enter Try.func28, Try.ntmps28
    go_wp2
    go_ret3
    exact ⟨rfl, Below.refl _ _⟩

end Go.Proofs.Ytbpflpngaipckaa
