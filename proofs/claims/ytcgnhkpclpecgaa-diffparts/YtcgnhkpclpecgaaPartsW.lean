/-
  The walk of the statement DiffParts. Condition: the arguments read as ints.
-/
import Derived.Test.YtcgnhkpclpecgaaTurnedW
namespace Go.Proofs.Ytcgnhkpclpecgaa
open Go.ChangeShapes Go.WideShapes Go.ChangeAt Go.RowKit

set_option maxHeartbeats 2000000 in
set_option maxRecDepth 100000 in
theorem parts_walk (a a' : Option Addr) (n n' ca cb : Nat) (z z' : List Int) (w : World) (h : IntsAt w a n ca z) (h' : IntsAt w a' n' cb z') :
    Calls Try.prog 4 #[.slice a n ca, .slice a' n' cb] w fun e w' => e = .returned (.bool true) ∧ Below w.heap.size w w' := by
  have H : Hid (IntsAt w a n ca z) := h
  have H' : Hid (IntsAt w a' n' cb z') := h'
  clear h h'
  go_enter Try.func4, Try.ntmps4
  go_wp2_with fail
  refine (lives_any _).mono ?_
  rintro e w1 ⟨rfl, b1⟩
  go_wp2_with fail
  refine (good_any a n ca z _ (H.out.below (Nat.le_refl _) b1)).mono ?_
  rintro e w2 ⟨v, x, rfl, xn, xs, ox, q2⟩
  have b2 := b1.trans (q2.mono b1.size)
  clear b1
  go_wp2_with fail
  refine (good_any a' n' cb z' _ (H'.out.below (Nat.le_refl _) b2)).mono ?_
  rintro e w3 ⟨v', y, rfl, yn, ys, oy, q3⟩
  have b3 := b2.trans (q3.mono b2.size)
  clear b2 H H'
  obtain ⟨aa, cc, rfl, hx2, _⟩ := owns_strs ox
  obtain ⟨aa', cc', rfl, hy3, _⟩ := owns_strs oy
  have X3 : Hid (StrsAt w3 aa x.length cc x) := hx2.below (Nat.le_refl _) q3
  have Y3 : Hid (StrsAt w3 aa' y.length cc' y) := hy3
  have XS := Hid.mk' (good_small xs)
  have YS := Hid.mk' (good_small ys)
  have CX := Hid.mk' (good_chk xn xs)
  have CY := Hid.mk' (good_chk yn ys)
  have LX := good_len xn xs
  have LY := good_len yn ys
  clear ox oy hx2 hy3 q2 q3 xs ys xn yn
  go_wp2_with fail
  refine (diff_any aa aa' _ _ cc cc' x y _ X3.out XS.out Y3.out YS.out).mono ?_
  rintro e w4 ⟨v1, v2, v3, rfl, o1, o2, o3, q4⟩
  have b4 := b3.trans (q4.mono b3.size)
  obtain ⟨a1, c1, rfl, s1, _⟩ := owns_strs o1
  obtain ⟨a2, c2, rfl, s2, _⟩ := owns_strs o2
  obtain ⟨a3, c3, rfl, s3, _⟩ := owns_strs o3
  have X4 : Hid (StrsAt w4 aa x.length cc x) := X3.out.below (Nat.le_refl _) q4
  have Y4 : Hid (StrsAt w4 aa' y.length cc' y) := Y3.out.below (Nat.le_refl _) q4
  have S4 := Hid.mk' (And.intro s1 (And.intro s2 s3))
  clear o1 o2 o3 s1 s2 s3 q4 b3 X3 Y3
  go_wp2_with fail
  refine (join_any aa aa' x.length y.length cc cc' x y _ X4.out XS.out (by omega) Y4.out YS.out).mono ?_
  rintro e w5 ⟨v1, rfl, o1, q5⟩
  have b5 := b4.trans (q5.mono b4.size)
  obtain ⟨d1, e1, rfl, s1, _⟩ := owns_strs o1
  have X5 : Hid (StrsAt w5 aa x.length cc x) := X4.out.below (Nat.le_refl _) q5
  have Y5 : Hid (StrsAt w5 aa' y.length cc' y) := Y4.out.below (Nat.le_refl _) q5
  have S5 := Hid.mk' (And.intro (S4.out.1.below (Nat.le_refl _) q5) (And.intro (S4.out.2.1.below (Nat.le_refl _) q5) (S4.out.2.2.below (Nat.le_refl _) q5)))
  have J5 := Hid.mk' s1
  clear o1 s1 q5 b4 X4 Y4 S4
  have E1 := new_len CX.out CY.out
  have E2 := old_len CX.out CY.out
  have E3 := joined_len CX.out CY.out
  have HI : Hid ((∀ s ∈ y, hasB (bothL x y) s = !hasB (cameL x y) s) ∧ (∀ s ∈ y, hasB (joinL x y) s = true) ∧ ∀ s ∈ wentL x y, hasB y s = false ∧ hasB x s = true) := ⟨fun s hs => in_one CX.out CY.out hs, fun s hs => in_join CX.out CY.out hs, fun s hs => in_went CX.out CY.out hs⟩
  have HJ := Hid.mk' (join_chk CX.out CY.out)
  have K5 : Hid (StrsAt w5 d1 y.length e1 (joinL x y)) := by rw [← E3]; exact J5.out
  rw [E3]
  clear J5
  have SJ : Hid (joinL x x = x) := join_self CX.out
  have JS : Hid (∀ s ∈ joinL x y, s.size ≤ maxLen) := fun s hs => YS.out s ((mem_join CX.out CY.out).1 hs)
  clear E3
  generalize cameL x y = l1 at *
  generalize wentL x y = l2 at *
  generalize bothL x y = l3 at *
  generalize joinL x y = jl at *
  have F1 : ((l1.length : Int) + (l3.length : Int) != (y.length : Int)) = false := by simp; omega
  have F2 : ((l2.length : Int) + (l3.length : Int) != (x.length : Int)) = false := by simp; omega
  have F3 : (l1.length : Int) + (l3.length : Int) = (y.length : Int) := by omega
  have F4 : (l2.length : Int) + (l3.length : Int) = (x.length : Int) := by omega
  go_wp2_with fail
  refine (join_any aa aa x.length x.length cc cc x x _ X5.out XS.out (by omega) X5.out XS.out).mono ?_
  rintro e w6 ⟨v1, rfl, o1, q6⟩
  rw [SJ.out] at o1
  obtain ⟨f1, g1, rfl, s1, _⟩ := owns_strs o1
  have b6 := b5.trans (q6.mono b5.size)
  have T6 := Hid.mk' s1
  clear o1 s1
  go_wp2_with fail
  refine (same_any _ _ _ _ _ _ _ _ _ T6.out (X5.out.below (Nat.le_refl _) q6)).mono ?_
  rintro e w7 ⟨rfl, q7⟩
  rw [decide_eq_true rfl]
  have b7 := b6.trans (q7.mono b6.size)
  have q57 := q6.trans (q7.mono q6.size)
  clear b6 q6 q7 T6
  go_wp2_with fail
  refine (check_any d1 y.length e1 jl _ (K5.out.below (Nat.le_refl _) q57) JS.out).mono ?_
  rintro e w8 ⟨rfl, q8⟩
  rw [HJ.out]
  have b8 := b7.trans (q8.mono b7.size)
  have q58 := q57.trans (q8.mono q57.size)
  have X8 : Hid (StrsAt w8 aa x.length cc x) := X5.out.below (Nat.le_refl _) q58
  have Y8 : Hid (StrsAt w8 aa' y.length cc' y) := Y5.out.below (Nat.le_refl _) q58
  have K8 : Hid (StrsAt w8 d1 y.length e1 jl) := K5.out.below (Nat.le_refl _) q58
  have S8 := Hid.mk' (And.intro (S5.out.1.below (Nat.le_refl _) q58) (And.intro (S5.out.2.1.below (Nat.le_refl _) q58) (S5.out.2.2.below (Nat.le_refl _) q58)))
  clear b7 q8 q57 q58 X5 Y5 K5 S5 b5 HJ JS SJ CX CY XS YS
  go_wp2
  go_loopw [11] (fun i wr => ∃ k : Nat, k ≤ y.length ∧ i = .int .i64 k ∧ Below w8.heap.size w8 wr) (fun i _ => y.length - (intOf i).toNat)
  case atStart => exact ⟨0, Nat.zero_le _, rfl, Below.refl _ _⟩
  case round =>
    obtain ⟨k, hk, rfl, hbel⟩ := hrel
    by_cases hlt : k < y.length
    · have hY := Y8.out.below (Nat.le_refl _) hbel
      obtain ⟨b, off, rfl, hb, hc⟩ := hY.at_ k hlt
      have hkn : (k : Int) < (y.length : Int) := by omega
      have hI1 := HI.out.1 _ (getD_mem hlt)
      have hI2 := HI.out.2.1 _ (getD_mem hlt)
      generalize y.getD k ⟨#[]⟩ = f at *
      have hh3 : ∀ q, Calls Try.prog 16 #[.slice a3 l3.length c3, .string f] (World.drewN _ q) _ := fun q => has_any a3 l3.length c3 l3 f (World.drewN _ q) ((S8.out.2.2.below (Nat.le_refl _) hbel).drewN q)
      have hh1 : ∀ q, Calls Try.prog 16 #[.slice a1 l1.length c1, .string f] (World.drewN _ q) _ := fun q => has_any a1 l1.length c1 l1 f (World.drewN _ q) ((S8.out.1.below (Nat.le_refl _) hbel).drewN q)
      have hhj : ∀ q, Calls Try.prog 16 #[.slice d1 y.length e1, .string f] (World.drewN _ q) _ := fun q => has_any d1 y.length e1 jl f (World.drewN _ q) ((K8.out.below (Nat.le_refl _) hbel).drewN q)
      rw [hI1] at hh3
      rw [hI2] at hhj
      have HJ := Hid.mk' hhj
      clear hI1 hI2 hhj hY
      cases hr : hasB l1 f with
      | true =>
        rw [hr] at hh1 hh3
        clear hr
        go_wp2
        go_quiet (first | (go_at_call_of 16 a3; exact quiet1_same (hh3 _)) | (go_at_call_of 16 a1; exact quiet1_same (hh1 _)))
        clear hh1 hh3
        go_wp2_with (first | (go_at_call 16; refine (HJ.out _).mono ?_; rintro e w' ⟨rfl, hw⟩; rw [hw]; clear hw))
        go_roundw
        case rel => exact ⟨k + 1, by omega, by go_num, below_drewN hbel _⟩
        case measure => simp [intOf]; omega
      | false =>
        rw [hr] at hh1 hh3
        clear hr
        go_wp2
        go_quiet (first | (go_at_call_of 16 a3; exact quiet1_same (hh3 _)) | (go_at_call_of 16 a1; exact quiet1_same (hh1 _)))
        clear hh1 hh3
        go_wp2_with (first | (go_at_call 16; refine (HJ.out _).mono ?_; rintro e w' ⟨rfl, hw⟩; rw [hw]; clear hw))
        go_roundw
        case rel => exact ⟨k + 1, by omega, by go_num, below_drewN hbel _⟩
        case measure => simp [intOf]; omega
    · obtain rfl : k = y.length := by omega
      have X9 : Hid (StrsAt wr aa x.length cc x) := X8.out.below (Nat.le_refl _) hbel
      have Y9 : Hid (StrsAt wr aa' y.length cc' y) := Y8.out.below (Nat.le_refl _) hbel
      have S9 := Hid.mk' (S8.out.2.1.below (Nat.le_refl _) hbel)
      have b9 := b8.trans (hbel.mono b8.size)
      clear S8 X8 Y8 K8 hbel b8
      go_wp2
      go_loopw [13] (fun i w2 => ∃ k : Nat, k ≤ l2.length ∧ i = .int .i64 k ∧ Below wr.heap.size wr w2) (fun i _ => l2.length - (intOf i).toNat)
      case atStart => exact ⟨0, Nat.zero_le _, rfl, Below.refl _ _⟩
      case round =>
        obtain ⟨k, hk, rfl, hbel⟩ := hrel
        by_cases hlt : k < l2.length
        · have hY := S9.out.below (Nat.le_refl _) hbel
          obtain ⟨b, off, rfl, hb, hc⟩ := hY.at_ k hlt
          have hkn : (k : Int) < (l2.length : Int) := by omega
          obtain ⟨hI1, hI2⟩ := HI.out.2.2 _ (getD_mem hlt)
          generalize l2.getD k ⟨#[]⟩ = f at *
          have hhy := has_any aa' y.length cc' y f _ (Y9.out.below (Nat.le_refl _) hbel)
          have hhx := has_any aa x.length cc x f _ (X9.out.below (Nat.le_refl _) hbel)
          rw [hI1] at hhy
          rw [hI2] at hhx
          clear hI1 hI2 hY
          go_wp2_with fail
          refine hhy.mono ?_
          rintro e w' ⟨rfl, hw⟩
          have hw := hw.symm
          subst hw
          go_wp2_with fail
          refine hhx.mono ?_
          rintro e w' ⟨rfl, hw⟩
          have hw := hw.symm
          subst hw
          clear hhx hhy
          go_wp2
          go_roundw
          case rel => exact ⟨k + 1, by omega, by go_num, hbel⟩
          case measure => simp [intOf]; omega
        · obtain rfl : k = l2.length := by omega
          go_wp2
          go_ret
          exact ⟨rfl, b9.trans (hbel.mono b9.size)⟩

end Go.Proofs.Ytcgnhkpclpecgaa
