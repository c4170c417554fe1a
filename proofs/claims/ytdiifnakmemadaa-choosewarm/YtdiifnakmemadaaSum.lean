/-
  What the sums do, and what is asked of a state, each as a contract. Conditions: the slice lies where it is said to lie.
-/
import Derived.Test.YtdiifnakmemadaaMem
namespace Go.Proofs.Ytdiifnakmemadaa
open Go.ChangeShapes Go.WideShapes Go.ChangeAt Go.RowKit

theorem serves_any (s : Int) (w : World) : Calls Try.prog 21 #[.int .i64 s] w fun e w' => e = .returned (.bool (s == 0)) ∧ w' = w := by
  go_enter Try.func21, Try.ntmps21
  go_wp2
  go_ret
  exact ⟨rfl, rfl⟩
theorem opens_any (s : Int) (w : World) : Calls Try.prog 31 #[.int .i64 s] w fun e w' => e = .returned (.bool (s == 0)) ∧ w' = w := by
  go_enter Try.func31, Try.ntmps31
  go_wp2
  go_ret
  exact ⟨rfl, rfl⟩

set_option maxRecDepth 100000 in
theorem sum_any (w : World) (a : Option Addr) (len cap : Nat) (zs : List Int) (h : IntsAt w a len cap zs) :
    Calls Try.prog 23 #[.slice a len cap] w fun e w' => e = .returned (.int .i64 (sumS zs)) ∧ w' = w := by
  have hl := h.hlen
  have hle := h.hle
  have hc := h.hcap
  unfold maxLen at hc
  have HI := Hid.mk' h
  have HS : Hid (∀ k, k < len → sumS (zs.take (k + 1)) = addS (sumS (zs.take k)) (zs.getD k 0)) := fun k hk => sumS_take (by omega)
  have HE : Hid (sumS (zs.take len) = sumS zs) := by show _ = _; rw [List.take_of_length_le (by omega)]
  clear h hl
  go_enter Try.func23, Try.ntmps23
  go_wp2
  go_loop [3, 8] (fun v3 v8 => ∃ i : Nat, v8 = .int .i64 i ∧ i ≤ len ∧ v3 = .int .i64 (sumS (zs.take i))) (fun _ v8 => len + 1 - (intOf v8).toNat)
  case atStart => exact ⟨0, rfl, Nat.zero_le _, rfl⟩
  case round =>
    obtain ⟨i, rfl, hi, rfl⟩ := hrel
    by_cases h1 : i < len
    · obtain ⟨b, off, rfl, hb, hx⟩ := HI.out.at_ i h1
      have hs := HS.out i h1
      have hbd := sumS_bd (zs.take i)
      generalize sumS (zs.take i) = A at *
      generalize zs.getD i 0 = n at *
      have h2 := addS_bd n hbd.1 hbd.2
      unfold addS at hs h2
      have HS2 := Hid.mk' hs
      clear hs
      go_wp2
      refine ⟨⟨i + 1, by simp, by omega, ?_⟩, by simp [intOf]; omega⟩
      rw [HS2.out]
      congr 1
      omega
    · obtain rfl : i = len := by omega
      go_wp2
      go_ret
      exact ⟨ret_int HE.out, rfl⟩

set_option maxRecDepth 100000 in
theorem inAll_any (h : Hs) (w : World) : Calls Try.prog 26 #[hv h] w fun e w' => e = .returned (.int .i64 (allH h)) ∧ Below w.heap.size w w' := by
  obtain ⟨s, m, d, b, y⟩ := h
  unfold allH hv
  have hb : Below w.heap.size w ((w.alloc (.cells #[.int .i64 s, .int .i64 m, .int .i64 d, .int .i64 b, .bool y] 38)).alloc (.cells #[.int .i64 m, .int .i64 d, .int .i64 b] 3)) :=
    ((Below.refl _ w).alloc (Nat.le_refl _) _).alloc (by simp) _
  have hs := sum_any _ _ _ _ _ (three_at (w.alloc (.cells #[.int .i64 s, .int .i64 m, .int .i64 d, .int .i64 b, .bool y] 38)) m d b)
  rw [World.size_alloc] at hs
  have HB := Hid.mk' hb
  clear hb
  go_enter Try.func26, Try.ntmps26
  go_wp2_with (go_at_call 23; refine hs.mono ?_; rintro e w' ⟨rfl, hw⟩; subst hw)
  go_ret
  exact ⟨rfl, HB.out⟩

set_option maxRecDepth 100000 in
theorem busy_any (h : Hs) (w : World) : Calls Try.prog 22 #[hv h] w fun e w' => e = .returned (.int .i64 (busyH h)) ∧ Below w.heap.size w w' := by
  obtain ⟨s, m, d, b, y⟩ := h
  unfold busyH hv
  have hb : Below w.heap.size w ((w.alloc (.cells #[.int .i64 s, .int .i64 m, .int .i64 d, .int .i64 b, .bool y] 38)).alloc (.cells #[.int .i64 b] 3)) :=
    ((Below.refl _ w).alloc (Nat.le_refl _) _).alloc (by simp) _
  have hs := sum_any _ _ _ _ _ (one_at (w.alloc (.cells #[.int .i64 s, .int .i64 m, .int .i64 d, .int .i64 b, .bool y] 38)) b)
  rw [World.size_alloc] at hs
  have HB := Hid.mk' hb
  clear hb
  go_enter Try.func22, Try.ntmps22
  go_wp2_with (go_at_call 23; refine hs.mono ?_; rintro e w' ⟨rfl, hw⟩; subst hw)
  go_ret
  exact ⟨rfl, HB.out⟩

set_option maxRecDepth 100000 in
theorem serve_any (h : Hs) (w : World) : Calls Try.prog 20 #[hv h] w fun e w' => e = .returned (.bool (servesH h)) ∧ Below w.heap.size w w' := by
  obtain ⟨s, m, d, b, y⟩ := h
  have hb : Below w.heap.size w (w.alloc (.cells #[.int .i64 s, .int .i64 m, .int .i64 d, .int .i64 b, .bool y] 38)) := (Below.refl _ w).alloc (Nat.le_refl _) _
  unfold servesH hv
  have HB := Hid.mk' hb
  clear hb
  cases hs : (s == 0) with
  | true =>
    go_enter Try.func20, Try.ntmps20
    go_wp2_with (go_at_call 21; refine (serves_any _ _).mono ?_; rintro e w' ⟨rfl, rfl⟩)
    go_ret
    exact ⟨ret_bool (by simp), HB.out⟩
  | false =>
    go_enter Try.func20, Try.ntmps20
    go_wp2_with (go_at_call 21; refine (serves_any _ _).mono ?_; rintro e w' ⟨rfl, rfl⟩)
    go_ret
    exact ⟨ret_bool (by simp), HB.out⟩

end Go.Proofs.Ytdiifnakmemadaa
