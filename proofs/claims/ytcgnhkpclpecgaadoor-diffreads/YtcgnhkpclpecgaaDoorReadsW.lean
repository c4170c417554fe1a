/-
  The walk of the statement DiffReads. Conditions: the first argument reads as texts; no text is longer than the greatest length.
-/
import Derived.Test.YtcgnhkpclpecgaaDoorReadW
namespace Go.Proofs.YtcgnhkpclpecgaaDoor
open Go.ChangeShapes Go.WideShapes Go.ChangeAt Go.RowKit

theorem small_of {l : List ByteArray} (h : ∀ s ∈ l, s.size ≤ 20) : ∀ s ∈ l, s.size ≤ maxLen := fun s hs => by have := h s hs; unfold maxLen; omega
theorem thou {n : Nat} (h : n ≤ 1000) : n ≤ maxLen := by unfold maxLen; omega

set_option maxHeartbeats 2000000 in
set_option maxRecDepth 100000 in
theorem reads_walk (a : Option Addr) (n ca : Nat) (l : List ByteArray) (s : ByteArray) (w : World) (h : StrsAt w a n ca l) (hl : ∀ s ∈ l, s.size ≤ maxLen) (hs : s.size ≤ maxLen) :
    Calls Tryd.prog 3 #[.slice a n ca, .string s] w fun e w' => e = .returned (.bool true) ∧ Below w.heap.size w w' := by
  have H : Hid (StrsAt w a n ca l) := h
  have HL : Hid (∀ s ∈ l, s.size ≤ maxLen) := hl
  unfold maxLen at hs
  clear h hl
  go_enter Tryd.func3, Tryd.ntmps3
  go_wp2_with fail
  refine (lives_any _).mono ?_
  rintro e w1 ⟨rfl, b1⟩
  go_wp2_with fail
  refine (few_any a n ca l _ (H.out.below (Nat.le_refl _) b1) HL.out).mono ?_
  rintro e w2 ⟨v, k, x, rfl, hk, hxl, hxs, ox, q2⟩
  have b2 := b1.trans (q2.mono b1.size)
  obtain ⟨aa, cc, rfl, hx2, _⟩ := owns_strs ox
  have X2 : Hid (StrsAt w2 aa k cc x) := hx2
  have XS : Hid (∀ s ∈ x, s.size ≤ 20) := hxs
  clear b1 H HL ox hx2 q2 hxs hxl
  have hz2 : (s.extract 0 (min (s.size : Int) 200).toNat).size ≤ 1000 := by rw [ByteArray.size_extract]; omega
  go_wp2_with fail
  generalize s.extract 0 (min (s.size : Int) 200).toNat = t at *
  refine (read_any _ hz2 _).mono ?_
  rintro e w3 ⟨a3, n3, c3, rfl, s3, q3⟩
  have b3 := b2.trans (q3.mono b2.size)
  have X3 : Hid (StrsAt w3 aa k cc x) := X2.out.below (Nat.le_refl _) q3
  have S3 := Hid.mk' s3
  clear b2 X2 q3 s3
  go_wp2_with fail
  refine (rread_any _ hz2 _).mono ?_
  rintro e w4 ⟨a4, n4, c4, rfl, s4, q4⟩
  have b4 := b3.trans (q4.mono b3.size)
  have X4 : Hid (StrsAt w4 aa k cc x) := X3.out.below (Nat.le_refl _) q4
  have S4 := Hid.mk' (And.intro (S3.out.below (Nat.le_refl _) q4) s4)
  clear b3 X3 q4 s4 S3
  go_wp2_with fail
  refine (name_any _ (thou hz2) _).mono ?_
  rintro e w5 ⟨rfl, rfl⟩
  go_wp2_with fail
  refine (rname_any _ (thou hz2) _).mono ?_
  rintro e w6 ⟨rfl, rfl⟩
  go_wp2_with fail
  refine (text_any aa k cc x _ X4.out hk XS.out).mono ?_
  rintro e w7 ⟨rfl, q7⟩
  have b7 := b4.trans (q7.mono b4.size)
  have X7 : Hid (StrsAt w7 aa k cc x) := X4.out.below (Nat.le_refl _) q7
  have S7 := Hid.mk' (And.intro (S4.out.1.below (Nat.le_refl _) q7) (S4.out.2.below (Nat.le_refl _) q7))
  clear b4 X4 q7 S4
  go_wp2_with fail
  refine (rtext_any aa k cc x _ X7.out hk XS.out).mono ?_
  rintro e w8 ⟨rfl, rfl⟩
  go_wp2_with fail
  refine (same_any _ _ _ _ _ _ _ _ _ S7.out.1 S7.out.2).mono ?_
  rintro e w9 ⟨rfl, q9⟩
  rw [decide_eq_true rfl]
  have b9 := b7.trans (q9.mono b7.size)
  clear b7 q9 S7 X7
  go_wp2
  go_ret
  exact ⟨rfl, b9⟩

end Go.Proofs.YtcgnhkpclpecgaaDoor
