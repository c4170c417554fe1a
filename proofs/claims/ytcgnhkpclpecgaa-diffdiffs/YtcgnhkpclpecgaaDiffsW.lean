/-
  The walk of the statement DiffDiffs. Conditions: the arguments read as texts, each no longer than the greatest length.
-/
import Derived.Test.YtcgnhkpclpecgaaLives
import Derived.Test.YtcgnhkpclpecgaaJoin
namespace Go.Proofs.Ytcgnhkpclpecgaa
open Go.ChangeShapes Go.WideShapes Go.ChangeAt Go.RowKit

theorem small_of {l : List ByteArray} (h : ∀ s ∈ l, s.size ≤ 20) : ∀ s ∈ l, s.size ≤ maxLen := fun s hs => by have := h s hs; unfold maxLen; omega

set_option maxHeartbeats 2000000 in
set_option maxRecDepth 100000 in
theorem diffs_walk (a a' : Option Addr) (n n' ca cb : Nat) (l m : List ByteArray) (w : World) (h : StrsAt w a n ca l) (hl : ∀ s ∈ l, s.size ≤ maxLen) (h' : StrsAt w a' n' cb m) (hm : ∀ s ∈ m, s.size ≤ maxLen) :
    Calls Try.prog 3 #[.slice a n ca, .slice a' n' cb] w fun e w' => e = .returned (.bool true) ∧ Below w.heap.size w w' := by
  have H : Hid (StrsAt w a n ca l) := h
  have H' : Hid (StrsAt w a' n' cb m) := h'
  have HL : Hid (∀ s ∈ l, s.size ≤ maxLen) := hl
  have HM : Hid (∀ s ∈ m, s.size ≤ maxLen) := hm
  clear h h' hl hm
  go_enter Try.func3, Try.ntmps3
  go_wp2_with fail
  refine (lives_any _).mono ?_
  rintro e w1 ⟨rfl, b1⟩
  go_wp2_with fail
  refine (few_any a n ca l _ (H.out.below (Nat.le_refl _) b1) HL.out).mono ?_
  rintro e w2 ⟨v, k, x, rfl, hk, hxl, hxs, ox, q2⟩
  have b2 := b1.trans (q2.mono b1.size)
  clear b1
  go_wp2_with fail
  refine (few_any a' n' cb m _ (H'.out.below (Nat.le_refl _) b2) HM.out).mono ?_
  rintro e w3 ⟨v', k', y, rfl, hk', hyl, hys, oy, q3⟩
  have b3 := b2.trans (q3.mono b2.size)
  clear b2 H H' HL HM
  obtain ⟨aa, cc, rfl, hx2, _⟩ := owns_strs ox
  obtain ⟨aa', cc', rfl, hy3, _⟩ := owns_strs oy
  have X3 : Hid (StrsAt w3 aa k cc x) := hx2.below (Nat.le_refl _) q3
  have Y3 : Hid (StrsAt w3 aa' k' cc' y) := hy3
  have XS := Hid.mk' (small_of hxs)
  have YS := Hid.mk' (small_of hys)
  clear ox oy hx2 hy3 q2 q3 hxs hys hxl hyl
  go_wp2_with fail
  refine (diff_any aa aa' k k' cc cc' x y _ X3.out XS.out Y3.out YS.out).mono ?_
  rintro e w4 ⟨v1, v2, v3, rfl, o1, o2, o3, q4⟩
  have b4 := b3.trans (q4.mono b3.size)
  obtain ⟨a1, c1, rfl, s1, _⟩ := owns_strs o1
  obtain ⟨a2, c2, rfl, s2, _⟩ := owns_strs o2
  obtain ⟨a3, c3, rfl, s3, _⟩ := owns_strs o3
  have X4 : Hid (StrsAt w4 aa k cc x) := X3.out.below (Nat.le_refl _) q4
  have Y4 : Hid (StrsAt w4 aa' k' cc' y) := Y3.out.below (Nat.le_refl _) q4
  have S4 := Hid.mk' (And.intro s1 (And.intro s2 s3))
  clear o1 o2 o3 s1 s2 s3 q4 b3 X3 Y3
  go_wp2_with fail
  refine (rdiff_any aa aa' k k' cc cc' x y _ X4.out XS.out Y4.out YS.out).mono ?_
  rintro e w5 ⟨v1, v2, v3, rfl, o1, o2, o3, q5⟩
  have b5 := b4.trans (q5.mono b4.size)
  obtain ⟨d1, e1, rfl, s1, _⟩ := owns_strs o1
  obtain ⟨d2, e2, rfl, s2, _⟩ := owns_strs o2
  obtain ⟨d3, e3, rfl, s3, _⟩ := owns_strs o3
  have X5 : Hid (StrsAt w5 aa k cc x) := X4.out.below (Nat.le_refl _) q5
  have Y5 : Hid (StrsAt w5 aa' k' cc' y) := Y4.out.below (Nat.le_refl _) q5
  have S5 := Hid.mk' (And.intro (S4.out.1.below (Nat.le_refl _) q5) (And.intro (S4.out.2.1.below (Nat.le_refl _) q5) (S4.out.2.2.below (Nat.le_refl _) q5)))
  have T5 := Hid.mk' (And.intro s1 (And.intro s2 s3))
  clear o1 o2 o3 s1 s2 s3 q5 b4 X4 Y4 S4
  go_wp2_with fail
  refine (check_any aa k cc x _ X5.out XS.out).mono ?_
  rintro e w6 ⟨rfl, q6⟩
  have b6 := b5.trans (q6.mono b5.size)
  have X6 : Hid (StrsAt w6 aa k cc x) := X5.out.below (Nat.le_refl _) q6
  go_wp2_with fail
  refine (rcheck_any aa k cc x _ X6.out XS.out).mono ?_
  rintro e w7 ⟨rfl, q7⟩
  have b7 := b6.trans (q7.mono b6.size)
  have q57 := q6.trans (q7.mono q6.size)
  clear b6 X6 q6 q7
  go_wp2_with fail
  refine (same_any _ _ _ _ _ _ _ _ _ (S5.out.1.below (Nat.le_refl _) q57) (T5.out.1.below (Nat.le_refl _) q57)).mono ?_
  rintro e w8 ⟨rfl, q8⟩
  have b8 := b7.trans (q8.mono b7.size)
  have q58 := q57.trans (q8.mono q57.size)
  rw [decide_eq_true rfl]
  clear b7 q8 q57
  go_wp2_with fail
  refine (same_any _ _ _ _ _ _ _ _ _ (S5.out.2.1.below (Nat.le_refl _) q58) (T5.out.2.1.below (Nat.le_refl _) q58)).mono ?_
  rintro e w9 ⟨rfl, q9⟩
  have b9 := b8.trans (q9.mono b8.size)
  have q59 := q58.trans (q9.mono q58.size)
  rw [decide_eq_true rfl]
  clear b8 q9 q58
  go_wp2_with fail
  refine (same_any _ _ _ _ _ _ _ _ _ (S5.out.2.2.below (Nat.le_refl _) q59) (T5.out.2.2.below (Nat.le_refl _) q59)).mono ?_
  rintro e w10 ⟨rfl, q10⟩
  have b10 := b9.trans (q10.mono b9.size)
  have q510 := q59.trans (q10.mono q59.size)
  rw [decide_eq_true rfl]
  clear b9 q10 q59
  go_wp2_with fail
  refine (join_any aa aa' k k' cc cc' x y _ (X5.out.below (Nat.le_refl _) q510) XS.out hk (Y5.out.below (Nat.le_refl _) q510) YS.out).mono ?_
  rintro e w11 ⟨v1, rfl, o1, q11⟩
  have b11 := b10.trans (q11.mono b10.size)
  have q511 := q510.trans (q11.mono q510.size)
  obtain ⟨f1, g1, rfl, s1, _⟩ := owns_strs o1
  have S11 := Hid.mk' s1
  clear b10 q11 q510 o1 s1
  go_wp2_with fail
  refine (rjoin_any aa aa' k k' cc cc' x y _ (X5.out.below (Nat.le_refl _) q511) XS.out (Y5.out.below (Nat.le_refl _) q511) YS.out).mono ?_
  rintro e w12 ⟨f2, g2, rfl, s2, q12⟩
  have b12 := b11.trans (q12.mono b11.size)
  have T12 := Hid.mk' s2
  have S12 := Hid.mk' (S11.out.below (Nat.le_refl _) q12)
  clear b11 q511 s2 q12 S11
  go_wp2_with fail
  refine (same_any _ _ _ _ _ _ _ _ _ S12.out T12.out).mono ?_
  rintro e w13 ⟨rfl, q13⟩
  have b13 := b12.trans (q13.mono b12.size)
  rw [decide_eq_true rfl]
  clear b12 q13
  go_wp2
  go_ret
  exact ⟨rfl, b13⟩

end Go.Proofs.Ytcgnhkpclpecgaa
