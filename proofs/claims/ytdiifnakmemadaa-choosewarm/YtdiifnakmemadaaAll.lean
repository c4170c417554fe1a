/-
  What All does, and Need of 3 and 1, each as a contract. Conditions: the slice lies where it is said to lie.
-/
import Derived.Test.YtdiifnakmemadaaLeastO
namespace Go.Proofs.Ytdiifnakmemadaa
open Go.ChangeShapes Go.WideShapes Go.ChangeAt Go.RowKit

/-- How many there are in all. -/
def allL (hs : List Hs) : Int := hs.foldl (fun a h => sumS [a, allH h]) 0
theorem allL_take {hs : List Hs} {k : Nat} (h : k < hs.length) : allL (hs.take (k + 1)) = sumS [allL (hs.take k), allH (hs.getD k z0)] := by
  have e : hs.take (k + 1) = hs.take k ++ [hs.getD k z0] := by
    rw [List.take_add_one]
    congr 1
    simp [List.getD, h]
  rw [e, allL, List.foldl_append]
  rfl

set_option maxRecDepth 100000 in
theorem All_any (w : World) (a : Option Addr) (len cap : Nat) (hs : List Hs) (h : HostsAt w a len cap hs) :
    Calls Try.prog 16 #[.slice a len cap] w fun e w' => e = .returned (.int .i64 (allL hs)) ∧ Below w.heap.size w w' := by
  have hl := h.hlen
  have hle := h.hle
  have hc := h.hcap
  unfold maxLen at hc
  have HH := Hid.mk' h
  have HS : Hid (∀ k, k < len → allL (hs.take (k + 1)) = sumS [allL (hs.take k), allH (hs.getD k z0)]) := fun k hk => allL_take (by omega)
  have HE : Hid (allL (hs.take len) = allL hs) := by show _ = _; rw [List.take_of_length_le (by omega)]
  clear h hl
  go_enter Try.func16, Try.ntmps16
  go_wp2
  go_loopw [3, 8] (fun v3 v8 wr => ∃ i : Nat, v8 = .int .i64 i ∧ i ≤ len ∧ v3 = .int .i64 (allL (hs.take i)) ∧ Below w.heap.size w wr) (fun _ v8 _ => len + 1 - (intOf v8).toNat)
  case atStart => exact ⟨0, rfl, Nat.zero_le _, rfl, Below.refl _ _⟩
  case round =>
    obtain ⟨i, rfl, hi, rfl, hbl⟩ := hrel
    by_cases h1 : i < len
    · obtain ⟨b, off, rfl, hlt, c0, c1, c2, c3, c4⟩ := (HH.out.below hbl).rd i h1
      have hs1 := HS.out i h1
      generalize allL (hs.take i) = A at *
      generalize hs.getD i z0 = h at *
      obtain ⟨s, m, d, bz, y⟩ := h
      simp only [] at c0 c1 c2 c3 c4
      obtain ⟨W, hW⟩ : ∃ W, W = wr.alloc (.cells #[.int .i64 s, .int .i64 m, .int .i64 d, .int .i64 bz, .bool y] 38) := ⟨_, rfl⟩
      have hbW : Below wr.heap.size wr W := by rw [hW]; exact (Below.refl _ wr).alloc (Nat.le_refl _) _
      have HO : Hid (O6 w wr.heap.size wr.heap.size (.int .i64 s) s m d bz y W) := by
        rw [hW]
        exact o6_one w wr s m d bz y hbl
      have hin := inAll5 s m d bz y W
      generalize allH ⟨s, m, d, bz, y⟩ = A2 at *
      have HS1 := Hid.mk' hs1
      clear hs1 hbl hbW
      go_wp2_with fail
      rw [← hW]
      clear hW
      obtain ⟨x0, x1, x2, x3, x4, x5, hbx⟩ := HO.out
      have HBX := Hid.mk' hbx
      clear hbx
      refine hin.mono ?_
      rintro e w1 ⟨rfl, hb1⟩
      have hs2 := sum_any _ _ _ _ _ (two_at w1 A A2)
      have HE1 : Hid (Below w.heap.size w (w1.alloc (.cells #[.int .i64 A, .int .i64 A2] 3))) := below_trans (below_trans HBX.out hb1) ((Below.refl _ w1).alloc (Nat.le_refl _) _)
      rw [← HS1.out] at hs2
      clear x0 x1 x2 x3 x4 x5 hb1 hin HO HBX c0 c1 c2 c3 c4
      go_wp2_with (go_at_call 23; refine hs2.mono ?_; rintro e w2 ⟨rfl, hw2⟩; subst w2)
      exact ⟨⟨i + 1, by simp, by omega, rfl, HE1.out⟩, by simp [intOf]; omega⟩
    · obtain rfl : i = len := by omega
      have HB := Hid.mk' hbl
      clear hbl
      go_wp2
      go_ret
      exact ⟨ret_int HE.out, HB.out⟩

theorem need_31 (w : World) : Calls Try.prog 18 #[.int .i64 3, .int .i64 1] w fun e w' => e = .returned (.int .i64 2) ∧ Below w.heap.size w w' := by
  obtain ⟨w1, hw1⟩ : ∃ w1, w1 = w.alloc (.cells #[.int .i64 3] 3) := ⟨_, rfl⟩
  have hb1 : Below w.heap.size w w1 := by rw [hw1]; exact (Below.refl _ w).alloc (Nat.le_refl _) _
  have hs1 := sum_any _ _ _ _ _ (one_at w 3)
  have hs2 := sum_any _ _ _ _ _ (one_at w1 1)
  have e1 : sumS [3] = 3 := by decide
  have e2 : sumS [1] = 1 := by decide
  rw [← hw1] at hs1
  rw [e1] at hs1
  rw [e2] at hs2
  have HB : Hid (Below w.heap.size w (w1.alloc (.cells #[.int .i64 1] 3))) := below_trans hb1 ((Below.refl _ w1).alloc (Nat.le_refl _) _)
  clear hb1 e1 e2
  go_enter Try.func18, Try.ntmps18
  go_wp2_with fail
  rw [← hw1]
  clear hw1
  refine hs1.mono ?_
  rintro e w2 ⟨rfl, hw2⟩
  subst w2
  go_wp2_with fail
  refine hs2.mono ?_
  rintro e w2 ⟨rfl, hw2⟩
  subst w2
  go_wp2
  go_ret
  exact ⟨rfl, HB.out⟩

end Go.Proofs.Ytdiifnakmemadaa
