/-
  The walk of the statement DiffTurned. Condition: the arguments read as ints.
-/
import Derived.Test.YtcgnhkpclpecgaaGood
namespace Go.Proofs.Ytcgnhkpclpecgaa
open Go.ChangeShapes Go.WideShapes Go.ChangeAt Go.RowKit

theorem good_small {l : List ByteArray} (hs : ∀ s ∈ l, s ∈ names6) : ∀ s ∈ l, s.size ≤ maxLen := fun s h => by
  have := (nameB_size (names6_ok s (hs s h))).2
  unfold maxLen
  omega

set_option maxHeartbeats 2000000 in
set_option maxRecDepth 100000 in
theorem turned_walk (a a' : Option Addr) (n n' ca cb : Nat) (z z' : List Int) (w : World) (h : IntsAt w a n ca z) (h' : IntsAt w a' n' cb z') :
    Calls Try.prog 5 #[.slice a n ca, .slice a' n' cb] w fun e w' => e = .returned (.bool true) ∧ Below w.heap.size w w' := by
  have H : Hid (IntsAt w a n ca z) := h
  have H' : Hid (IntsAt w a' n' cb z') := h'
  clear h h'
  go_enter Try.func5, Try.ntmps5
  go_wp2_with fail
  refine (lives_any _).mono ?_
  rintro e w1 ⟨rfl, b1⟩
  go_wp2_with fail
  refine (good_any a n ca z _ (H.out.below (Nat.le_refl _) b1)).mono ?_
  rintro e w2 ⟨v, x, rfl, xn, xs, ox, q2⟩
  have b2 := b1.trans (q2.mono b1.size)
  clear b1
  go_wp2_with fail
  refine (good_any a' n' cb z' _ (H'.out.below (Nat.le_refl _) b2)).mono ?_
  rintro e w3 ⟨v', y, rfl, yn, ys, oy, q3⟩
  have b3 := b2.trans (q3.mono b2.size)
  clear b2 H H'
  obtain ⟨aa, cc, rfl, hx2, _⟩ := owns_strs ox
  obtain ⟨aa', cc', rfl, hy3, _⟩ := owns_strs oy
  have X3 : Hid (StrsAt w3 aa x.length cc x) := hx2.below (Nat.le_refl _) q3
  have Y3 : Hid (StrsAt w3 aa' y.length cc' y) := hy3
  have XS := Hid.mk' (good_small xs)
  have YS := Hid.mk' (good_small ys)
  have CX := Hid.mk' (good_chk xn xs)
  have CY := Hid.mk' (good_chk yn ys)
  have LX := Hid.mk' (good_len xn xs)
  clear ox oy hx2 hy3 q2 q3 xs ys xn yn
  go_wp2_with fail
  refine (diff_any aa aa' _ _ cc cc' x y _ X3.out XS.out Y3.out YS.out).mono ?_
  rintro e w4 ⟨v1, v2, v3, rfl, o1, o2, o3, q4⟩
  have b4 := b3.trans (q4.mono b3.size)
  obtain ⟨a1, c1, rfl, s1, _⟩ := owns_strs o1
  obtain ⟨a2, c2, rfl, s2, _⟩ := owns_strs o2
  obtain ⟨a3, c3, rfl, s3, _⟩ := owns_strs o3
  have X4 : Hid (StrsAt w4 aa x.length cc x) := X3.out.below (Nat.le_refl _) q4
  have Y4 : Hid (StrsAt w4 aa' y.length cc' y) := Y3.out.below (Nat.le_refl _) q4
  have S4 := Hid.mk' (And.intro s1 s2)
  clear o1 o2 o3 s1 s2 s3 q4 b3 X3 Y3
  go_wp2_with fail
  refine (diff_any aa' aa _ _ cc' cc y x _ Y4.out YS.out X4.out XS.out).mono ?_
  rintro e w5 ⟨v1, v2, v3, rfl, o1, o2, o3, q5⟩
  rw [turned_went CX.out CY.out] at o1
  rw [turned_came CX.out CY.out] at o2
  rw [turned_both CX.out CY.out] at o3
  have b5 := b4.trans (q5.mono b4.size)
  obtain ⟨d1, e1, rfl, s1, _⟩ := owns_strs o1
  obtain ⟨d2, e2, rfl, s2, _⟩ := owns_strs o2
  obtain ⟨d3, e3, rfl, s3, _⟩ := owns_strs o3
  have X5 : Hid (StrsAt w5 aa x.length cc x) := X4.out.below (Nat.le_refl _) q5
  have S5 := Hid.mk' (And.intro (S4.out.1.below (Nat.le_refl _) q5) (S4.out.2.below (Nat.le_refl _) q5))
  have T5 := Hid.mk' (And.intro s1 s2)
  clear o1 o2 o3 s1 s2 s3 q5 b4 X4 Y4 S4
  go_wp2_with fail
  refine (diff_any aa aa _ _ cc cc x x _ X5.out XS.out X5.out XS.out).mono ?_
  rintro e w6 ⟨v1, v2, v3, rfl, o1, o2, o3, q6⟩
  rw [self_came CX.out] at o1
  rw [self_went CX.out] at o2
  rw [self_both CX.out] at o3
  have b6 := b5.trans (q6.mono b5.size)
  obtain ⟨f1, g1, rfl, s1, _⟩ := owns_strs o1
  obtain ⟨f2, g2, rfl, s2, _⟩ := owns_strs o2
  obtain ⟨f3, g3, rfl, s3, _⟩ := owns_strs o3
  have X6 : Hid (StrsAt w6 aa x.length cc x) := X5.out.below (Nat.le_refl _) q6
  have S6 := Hid.mk' (And.intro (S5.out.1.below (Nat.le_refl _) q6) (S5.out.2.below (Nat.le_refl _) q6))
  have T6 := Hid.mk' (And.intro (T5.out.1.below (Nat.le_refl _) q6) (T5.out.2.below (Nat.le_refl _) q6))
  have U6 := Hid.mk' s3
  clear o1 o2 o3 s1 s2 s3 q6 b5 X5 S5 T5
  go_wp2_with fail
  refine (same_any _ _ _ _ _ _ _ _ _ S6.out.1 T6.out.2).mono ?_
  rintro e w7 ⟨rfl, q67⟩
  have b7 := b6.trans (q67.mono b6.size)
  rw [decide_eq_true rfl]
  go_wp2_with fail
  refine (same_any _ _ _ _ _ _ _ _ _ (S6.out.2.below (Nat.le_refl _) q67) (T6.out.1.below (Nat.le_refl _) q67)).mono ?_
  rintro e w8 ⟨rfl, q8⟩
  have b8 := b7.trans (q8.mono b7.size)
  have q68 := q67.trans (q8.mono q67.size)
  rw [decide_eq_true rfl]
  clear b7 q8 q67 S6 T6
  go_wp2_with fail
  refine (same_any _ _ _ _ _ _ _ _ _ (U6.out.below (Nat.le_refl _) q68) (X6.out.below (Nat.le_refl _) q68)).mono ?_
  rintro e w9 ⟨rfl, q9⟩
  have b9 := b8.trans (q9.mono b8.size)
  have q69 := q68.trans (q9.mono q68.size)
  rw [decide_eq_true rfl]
  clear b8 q9 q68 U6
  go_wp2_with fail
  refine (join_any none aa 0 x.length 0 cc [] x _ (StrsAt.nil _ _ _ (Nat.zero_le _)) (fun s hs => by cases hs) (by omega) (X6.out.below (Nat.le_refl _) q69) XS.out).mono ?_
  rintro e w10 ⟨v1, rfl, o1, q10⟩
  rw [join_nil CX.out] at o1
  have b10 := b9.trans (q10.mono b9.size)
  have q610 := q69.trans (q10.mono q69.size)
  obtain ⟨k1, m1, rfl, s1, _⟩ := owns_strs o1
  have S10 := Hid.mk' s1
  clear b9 q10 q69 o1 s1
  go_wp2_with fail
  refine (same_any _ _ _ _ _ _ _ _ _ S10.out (X6.out.below (Nat.le_refl _) q610)).mono ?_
  rintro e w11 ⟨rfl, q11⟩
  have b11 := b10.trans (q11.mono b10.size)
  have q611 := q610.trans (q11.mono q610.size)
  rw [decide_eq_true rfl]
  clear b10 q11 q610 S10
  go_wp2_with fail
  refine (join_any aa none x.length 0 cc 0 x [] _ (X6.out.below (Nat.le_refl _) q611) XS.out (by have := LX.out; omega) (StrsAt.nil _ _ _ (Nat.zero_le _)) (fun s hs => by cases hs)).mono ?_
  rintro e w12 ⟨v1, rfl, o1, q12⟩
  rw [join_to_nil CX.out] at o1
  have b12 := b11.trans (q12.mono b11.size)
  obtain ⟨k2, m2, rfl, s1, _⟩ := owns_strs o1
  clear b11 q12 o1 s1 q611
  go_wp2
  go_ret
  exact ⟨rfl, b12⟩

end Go.Proofs.Ytcgnhkpclpecgaa
