/-
  What the document's own All does, as a contract; it is what All answers. Conditions: the hosts lie where they are said to lie, at most 20, their numbers within 1000.
-/
import Derived.Test.YtdiifnakmemadaaRServe
import Derived.Test.YtdiifnakmemadaaAll
namespace Go.Proofs.Ytdiifnakmemadaa
open Go.ChangeShapes Go.WideShapes Go.ChangeAt Go.RowKit

theorem sumS2 (a b : Int) (h0 : 0 ≤ a) (h1 : a ≤ 1000000000) (h2 : 0 ≤ b) (h3 : b ≤ 1000000000) : sumS [a, b] = a + b := by
  unfold sumS
  simp only [List.foldl_cons, List.foldl_nil]
  unfold addS
  omega
theorem allH_small (h : Hs) (hm : h.mg ≤ 1000 ∧ h.id ≤ 1000 ∧ h.bz ≤ 1000) : 0 ≤ allH h ∧ allH h ≤ 3000 := by
  obtain ⟨s, m, d, b, y⟩ := h
  simp only [] at hm
  have := allH_of s m d b y (by omega) (by omega) (by omega)
  omega

set_option maxHeartbeats 1000000 in
set_option maxRecDepth 100000 in
theorem RAll_any (w : World) (a : Option Addr) (len cap : Nat) (hs : List Hs) (h : HostsAt w a len cap hs) (hsm : Small hs) (h20 : len ≤ 20) :
    Calls Try.prog 17 #[.slice a len cap] w fun e w' => e = .returned (.int .i64 (allL hs)) ∧ Below w.heap.size w w' := by
  have hl := h.hlen
  have hle := h.hle
  have hc := h.hcap
  unfold maxLen at hc
  have HH := Hid.mk' h
  have HS : Hid (∀ k, k < len → allL (hs.take (k + 1)) = sumS [allL (hs.take k), allH (hs.getD k z0)]) := fun k hk => allL_take (by omega)
  have HE : Hid (allL (hs.take len) = allL hs) := by show _ = _; rw [List.take_of_length_le (by omega)]
  clear h hl
  go_enter Try.func17, Try.ntmps17
  go_wp2
  go_loopw [3, 4] (fun v3 v4 wr => ∃ i : Nat, v4 = .int .i64 i ∧ i ≤ len ∧ v3 = .int .i64 (allL (hs.take i)) ∧ (0 ≤ allL (hs.take i) ∧ allL (hs.take i) ≤ 3000 * (i : Int)) ∧ Below w.heap.size w wr) (fun _ v4 _ => len + 1 - (intOf v4).toNat)
  case atStart => exact ⟨0, rfl, Nat.zero_le _, rfl, ⟨Int.le_refl 0, Int.le_refl 0⟩, Below.refl _ _⟩
  case round =>
    obtain ⟨i, rfl, hi, rfl, hA0, hbl⟩ := hrel
    by_cases h1 : i < len
    · obtain ⟨b, off, rfl, hlt, c0, c1, c2, c3, c4⟩ := (HH.out.below hbl).rd i h1
      have hs1 := HS.out i h1
      have hsi := hsm.at_ (hs := hs) i
      have hbd := allH_small (hs.getD i z0) ⟨hsi.2.1, hsi.2.2.2.1, hsi.2.2.2.2.2⟩
      rw [sumS2 _ _ hA0.1 (by omega) hbd.1 (by omega)] at hs1
      generalize hs.getD i z0 = h at *
      obtain ⟨s, m, d, bz, y⟩ := h
      simp only [] at c0 c1 c2 c3 c4
      have hin := rsum5 s m d bz y wr (by have := hsi.2.1; simp only [] at this; omega) (by have := hsi.2.2.2.1; simp only [] at this; omega) (by have := hsi.2.2.2.2.2; simp only [] at this; omega)
      generalize allL (hs.take i) = A at *
      generalize allH ⟨s, m, d, bz, y⟩ = A2 at *
      have HS1 := Hid.mk' hs1
      have HB := Hid.mk' hbl
      clear hs1 hbl hsi
      go_wp2_with (go_at_call 27; refine hin.mono ?_; rintro e w1 ⟨rfl, hb1⟩)
      refine ⟨⟨i + 1, by simp, by omega, by rw [HS1.out], ?_, below_trans HB.out hb1⟩, by simp [intOf]; omega⟩
      rw [HS1.out]
      constructor <;> omega
    · obtain rfl : i = len := by omega
      have HB := Hid.mk' hbl
      clear hbl hA0
      go_wp2
      go_ret
      exact ⟨ret_int HE.out, HB.out⟩

end Go.Proofs.Ytdiifnakmemadaa
