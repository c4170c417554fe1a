/-
  What a step's kind is, and what a step does, to a connection that is there and to one that isn't; the document's example answers true; how many steps are early. Conditions: the connection lies where it is said to lie.
-/
import Derived.Test.YtnbpkjfaopfapaaDoorMeth
namespace Go.Proofs.YtnbpkjfaopfapaaDoor
open Go.ChangeShapes Go.WideShapes Go.ChangeAt Go.RowKit

theorem um_bd (m z : Int) (h0 : 0 < m) (h1 : m ≤ 1000000) : 0 ≤ wrap64 ((IntKind.u64.wrap z).tmod m) ∧ wrap64 ((IntKind.u64.wrap z).tmod m) < m := by
  have e : IntKind.u64.wrap z = z % 18446744073709551616 := by simp [IntKind.wrap, IntKind.signed, IntKind.bits]
  have hnn : 0 ≤ z % 18446744073709551616 := Int.emod_nonneg _ (by decide)
  rw [e, Int.tmod_eq_emod_of_nonneg hnn]
  have a1 := Int.emod_nonneg (z % 18446744073709551616) (show m ≠ 0 by omega)
  have a2 := Int.emod_lt_of_pos (z % 18446744073709551616) h0
  generalize z % 18446744073709551616 % m = y at a1 a2
  have e2 : wrap64 y = y := by
    unfold wrap64
    omega
  rw [e2]
  exact ⟨a1, a2⟩

/-- A step's kind. -/
def kindI (z : Int) : Int := wrap64 ((IntKind.u64.wrap z).tmod 7)
theorem kindI_of (z : Int) : kindI z = 0 ∨ kindI z = 1 ∨ kindI z = 2 ∨ kindI z = 3 ∨ kindI z = 4 ∨ kindI z = 5 ∨ kindI z = 6 := by
  have := um_bd 7 z (by decide) (by decide)
  unfold kindI
  omega

set_option maxRecDepth 100000 in
theorem kind_any (k a b : Int) (w : World) :
    Calls Tryd.prog 28 #[.agg #[.int .i64 k, .int .i64 a, .int .i64 b]] w fun e w' => e = .returned (.int .i64 (kindI k)) ∧ Below w.heap.size w w' := by
  have hb : Below w.heap.size w (w.alloc (.cells #[.int .i64 k, .int .i64 a, .int .i64 b] 30)) := (Below.refl _ w).alloc (Nat.le_refl _) _
  have HX : Hid (wrap64 ((IntKind.u64.wrap k).tmod 7) = kindI k) := rfl
  go_enter Tryd.func28, Tryd.ntmps28
  go_wp2
  go_ret
  exact ⟨by first | rfl | (rw [← HX.out]), hb⟩

theorem kind_v (k a b : Int) (v : Int) (hv : kindI k = v) (w : World) :
    Calls Tryd.prog 28 #[.agg #[.int .i64 k, .int .i64 a, .int .i64 b]] w fun e w' => e = .returned (.int .i64 v) ∧ Below w.heap.size w w' := by
  subst hv; exact kind_any k a b w

set_option maxRecDepth 100000 in
theorem early_any (a : Option Addr) (len cap n : Nat) (hl : len ≤ cap) (hc : cap ≤ maxLen) (hn : min len 100 = n) (w : World) :
    Calls Tryd.prog 6 #[.slice a len cap] w fun e w' => e = .returned (.slice a n cap) ∧ w' = w := by
  unfold maxLen at hc
  have hn2 : (if (100 : Int) < (len : Int) then (100 : Int) else (len : Int)) = (n : Int) := by split <;> omega
  have hn3 : n ≤ 100 := by omega
  have hn4 : n ≤ len := by omega
  clear hn
  go_enter Tryd.func6, Tryd.ntmps6
  go_wp2
  go_ret
  exact ⟨rfl, rfl⟩

/-- The block of a step, and what of it is read. -/
theorem step_box (w : World) (k a b : Int) : Below w.heap.size w (w.alloc (.cells #[.int .i64 k, .int .i64 a, .int .i64 b] 30)) ∧
    (w.alloc (.cells #[.int .i64 k, .int .i64 a, .int .i64 b] 30)).cell? ⟨w.heap.size, 0, none⟩ = some (.int .i64 k) ∧ (w.alloc (.cells #[.int .i64 k, .int .i64 a, .int .i64 b] 30)).cell? ⟨w.heap.size, 1, none⟩ = some (.int .i64 a) ∧ (w.alloc (.cells #[.int .i64 k, .int .i64 a, .int .i64 b] 30)).cell? ⟨w.heap.size, 2, none⟩ = some (.int .i64 b) ∧ w.heap.size < (w.alloc (.cells #[.int .i64 k, .int .i64 a, .int .i64 b] 30)).heap.size :=
  ⟨(Below.refl _ w).alloc (Nat.le_refl _) _, by simp [go_sem], by simp [go_sem], by simp [go_sem], by simp⟩

section
variable {w : World} {g : Nat} {h : ByteArray} {s : Bk}

set_option maxHeartbeats 1000000 in
set_option maxRecDepth 100000 in
theorem step_w (h7 : BAt w g h s) (o0 : 0 ≤ s.ow) (o1 : s.ow ≤ 1000) (k a b : Int) :
    Calls Tryd.prog 8 #[.pointer (some ⟨g, 0, none⟩), .agg #[.int .i64 k, .int .i64 a, .int .i64 b]] w fun e w' => e = .returned (.bool (stp (kindI k) a b s).2) ∧ BAt w' g h (stp (kindI k) a b s).1 ∧ Keep (fun k => k ≠ g) w w' := by
  obtain ⟨hb1, x0, x1, x2, hl⟩ := step_box w k a b
  have hk := kind_any k a b (w.alloc (.cells #[.int .i64 k, .int .i64 a, .int .i64 b] 30))
  have hkk := kindI_of k
  generalize kindI k = kk at *
  have H8 := Hid.mk' (h7.below hb1)
  have HK : Hid (Keep (fun k => k ≠ g) w _) := keep_below hb1
  have HW : Hid (∃ W, W = w.alloc (.cells #[.int .i64 k, .int .i64 a, .int .i64 b] 30)) := ⟨_, rfl⟩
  obtain ⟨W, hW⟩ := HW.out
  rw [← hW] at x0 x1 x2 hk H8 HK hl
  have HW2 := Hid.mk' hW
  clear HW hW hb1 h7
  rcases hkk with rfl | rfl | rfl | rfl | rfl | rfl | rfl
  · have HE : Hid (stp 0 a b s = thr s a b) := rfl
    rw [HE.out]
    go_enter Tryd.func8, Tryd.ntmps8
    go_wp2_with fail
    rw [← HW2.out]
    refine hk.mono ?_
    rintro e w2 ⟨rfl, hb2⟩
    have H9 := Hid.mk' (H8.out.below hb2)
    have HK2 : Hid (Keep (fun k => k ≠ g) w w2) := HK.out.trans (keep_below hb2)
    have x1 := (hb2.cell hl).trans x1
    have x2 := (hb2.cell hl).trans x2
    clear hb2 hk x0 H8 HK
    go_wp2_with fail
    refine (thr_w H9.out a b).mono ?_
    rintro e w3 ⟨rfl, h3, hk3⟩
    have HR := Hid.mk' h3
    have HK3 := Hid.mk' (HK2.out.trans hk3)
    clear h3 hk3 H9 HK2 x1 x2
    go_wp2
    go_ret
    exact ⟨rfl, HR.out, HK3.out⟩
  · have HE : Hid (stp 1 a b s = gre s a) := rfl
    rw [HE.out]
    go_enter Tryd.func8, Tryd.ntmps8
    go_wp2_with fail
    rw [← HW2.out]
    refine hk.mono ?_
    rintro e w2 ⟨rfl, hb2⟩
    have H9 := Hid.mk' (H8.out.below hb2)
    have HK2 : Hid (Keep (fun k => k ≠ g) w w2) := HK.out.trans (keep_below hb2)
    have x1 := (hb2.cell hl).trans x1
    have x2 := (hb2.cell hl).trans x2
    clear hb2 hk x0 H8 HK
    go_wp2_with fail
    refine (gre_w H9.out a).mono ?_
    rintro e w3 ⟨rfl, h3, hk3⟩
    have HR := Hid.mk' h3
    have HK3 := Hid.mk' (HK2.out.trans hk3)
    clear h3 hk3 H9 HK2 x1 x2
    go_wp2
    go_ret
    exact ⟨rfl, HR.out, HK3.out⟩
  · have HE : Hid (stp 2 a b s = bin s a) := rfl
    rw [HE.out]
    go_enter Tryd.func8, Tryd.ntmps8
    go_wp2_with fail
    rw [← HW2.out]
    refine hk.mono ?_
    rintro e w2 ⟨rfl, hb2⟩
    have H9 := Hid.mk' (H8.out.below hb2)
    have HK2 : Hid (Keep (fun k => k ≠ g) w w2) := HK.out.trans (keep_below hb2)
    have x1 := (hb2.cell hl).trans x1
    have x2 := (hb2.cell hl).trans x2
    clear hb2 hk x0 H8 HK
    go_wp2_with fail
    refine (bin_w H9.out a).mono ?_
    rintro e w3 ⟨rfl, h3, hk3⟩
    have HR := Hid.mk' h3
    have HK3 := Hid.mk' (HK2.out.trans hk3)
    clear h3 hk3 H9 HK2 x1 x2
    go_wp2
    go_ret
    exact ⟨rfl, HR.out, HK3.out⟩
  · have HE : Hid (stp 3 a b s = sen s) := rfl
    rw [HE.out]
    go_enter Tryd.func8, Tryd.ntmps8
    go_wp2_with fail
    rw [← HW2.out]
    refine hk.mono ?_
    rintro e w2 ⟨rfl, hb2⟩
    have H9 := Hid.mk' (H8.out.below hb2)
    have HK2 : Hid (Keep (fun k => k ≠ g) w w2) := HK.out.trans (keep_below hb2)
    have x1 := (hb2.cell hl).trans x1
    have x2 := (hb2.cell hl).trans x2
    clear hb2 hk x0 H8 HK
    go_wp2_with fail
    refine (sen_w H9.out o0 o1).mono ?_
    rintro e w3 ⟨rfl, h3, hk3⟩
    have HR := Hid.mk' h3
    have HK3 := Hid.mk' (HK2.out.trans hk3)
    clear h3 hk3 H9 HK2 x1 x2
    go_wp2
    go_ret
    exact ⟨rfl, HR.out, HK3.out⟩
  · have HE : Hid (stp 4 a b s = got s) := rfl
    rw [HE.out]
    go_enter Tryd.func8, Tryd.ntmps8
    go_wp2_with fail
    rw [← HW2.out]
    refine hk.mono ?_
    rintro e w2 ⟨rfl, hb2⟩
    have H9 := Hid.mk' (H8.out.below hb2)
    have HK2 : Hid (Keep (fun k => k ≠ g) w w2) := HK.out.trans (keep_below hb2)
    have x1 := (hb2.cell hl).trans x1
    have x2 := (hb2.cell hl).trans x2
    clear hb2 hk x0 H8 HK
    go_wp2_with fail
    refine (got_w H9.out o0 o1).mono ?_
    rintro e w3 ⟨rfl, h3, hk3⟩
    have HR := Hid.mk' h3
    have HK3 := Hid.mk' (HK2.out.trans hk3)
    clear h3 hk3 H9 HK2 x1 x2
    go_wp2
    go_ret
    exact ⟨rfl, HR.out, HK3.out⟩
  · have HE : Hid (stp 5 a b s = fre s a) := rfl
    rw [HE.out]
    go_enter Tryd.func8, Tryd.ntmps8
    go_wp2_with fail
    rw [← HW2.out]
    refine hk.mono ?_
    rintro e w2 ⟨rfl, hb2⟩
    have H9 := Hid.mk' (H8.out.below hb2)
    have HK2 : Hid (Keep (fun k => k ≠ g) w w2) := HK.out.trans (keep_below hb2)
    have x1 := (hb2.cell hl).trans x1
    have x2 := (hb2.cell hl).trans x2
    clear hb2 hk x0 H8 HK
    go_wp2_with fail
    refine (fre_w H9.out a).mono ?_
    rintro e w3 ⟨rfl, h3, hk3⟩
    have HR := Hid.mk' h3
    have HK3 := Hid.mk' (HK2.out.trans hk3)
    clear h3 hk3 H9 HK2 x1 x2
    go_wp2
    go_ret
    exact ⟨rfl, HR.out, HK3.out⟩
  · have HE : Hid (stp 6 a b s = kil s) := rfl
    rw [HE.out]
    go_enter Tryd.func8, Tryd.ntmps8
    go_wp2_with fail
    rw [← HW2.out]
    refine hk.mono ?_
    rintro e w2 ⟨rfl, hb2⟩
    have H9 := Hid.mk' (H8.out.below hb2)
    have HK2 : Hid (Keep (fun k => k ≠ g) w w2) := HK.out.trans (keep_below hb2)
    have x1 := (hb2.cell hl).trans x1
    have x2 := (hb2.cell hl).trans x2
    clear hb2 hk x0 H8 HK
    go_wp2_with fail
    refine (kil_w H9.out).mono ?_
    rintro e w3 ⟨rfl, h3, hk3⟩
    have HR := Hid.mk' h3
    have HK3 := Hid.mk' (HK2.out.trans hk3)
    clear h3 hk3 H9 HK2 x1 x2
    go_wp2
    go_ret
    exact ⟨rfl, HR.out, HK3.out⟩

theorem step_v (h7 : BAt w g h s) (o0 : 0 ≤ s.ow) (o1 : s.ow ≤ 1000) (k a b : Int) (t : Bk) (d : Bool) (hv : stp (kindI k) a b s = (t, d)) :
    Calls Tryd.prog 8 #[.pointer (some ⟨g, 0, none⟩), .agg #[.int .i64 k, .int .i64 a, .int .i64 b]] w fun e w' => e = .returned (.bool d) ∧ BAt w' g h t ∧ Keep (fun k => k ≠ g) w w' := by
  have := step_w h7 o0 o1 k a b
  rw [hv] at this
  exact this

set_option maxHeartbeats 1000000 in
set_option maxRecDepth 100000 in
theorem lives_any (w : World) :
    Calls Tryd.prog 4 #[] w fun e w' => e = .returned (.bool true) ∧ Below w.heap.size w w' := by
  go_enter Tryd.func4, Tryd.ntmps4
  go_wp2_with fail
  refine (new_any _ w).mono ?_
  rintro e w1 ⟨rfl, hB, hb, -⟩
  have HB := Hid.mk' hB
  have HK : Hid (Keep (fun k => k < w.heap.size) w w1) := keep_below hb
  clear hb hB
  have hq := thr_w HB.out 1 9
  rw [show thr b0 1 9 = (⟨1, 0, 0, 0, 1, 9⟩, true) from rfl] at hq
  have HQ := Hid.mk' hq
  clear hq
  go_wp2_with fail
  refine HQ.out.mono ?_
  rintro e w2 ⟨rfl, hB, hk⟩
  replace HB := Hid.mk' hB
  replace HK : Hid (Keep (fun k => k < w.heap.size) w w2) := HK.out.trans (hk.mono fun k _ h => by omega)
  clear hB hk HQ
  have hq := gre_w HB.out 2
  rw [show gre ⟨1, 0, 0, 0, 1, 9⟩ 2 = (⟨2, 2, 0, 0, 1, 9⟩, true) from rfl] at hq
  have HQ := Hid.mk' hq
  clear hq
  go_wp2_with fail
  refine HQ.out.mono ?_
  rintro e w3 ⟨rfl, hB, hk⟩
  replace HB := Hid.mk' hB
  replace HK : Hid (Keep (fun k => k < w.heap.size) w w3) := HK.out.trans (hk.mono fun k _ h => by omega)
  clear hB hk HQ
  have hq := bin_w HB.out 7
  rw [show bin ⟨2, 2, 0, 0, 1, 9⟩ 7 = (⟨3, 0, 7, 0, 1, 9⟩, true) from rfl] at hq
  have HQ := Hid.mk' hq
  clear hq
  go_wp2_with fail
  refine HQ.out.mono ?_
  rintro e w4 ⟨rfl, hB, hk⟩
  replace HB := Hid.mk' hB
  replace HK : Hid (Keep (fun k => k < w.heap.size) w w4) := HK.out.trans (hk.mono fun k _ h => by omega)
  clear hB hk HQ
  have hq := sen_w HB.out (by decide) (by decide)
  rw [show sen ⟨3, 0, 7, 0, 1, 9⟩ = (⟨3, 0, 7, 1, 1, 9⟩, true) from rfl] at hq
  have HQ := Hid.mk' hq
  clear hq
  go_wp2_with fail
  refine HQ.out.mono ?_
  rintro e w5 ⟨rfl, hB, hk⟩
  replace HB := Hid.mk' hB
  replace HK : Hid (Keep (fun k => k < w.heap.size) w w5) := HK.out.trans (hk.mono fun k _ h => by omega)
  clear hB hk HQ
  have hq := fre_w HB.out 3
  rw [show fre ⟨3, 0, 7, 1, 1, 9⟩ 3 = (⟨3, 0, 7, 1, 1, 9⟩, false) from rfl] at hq
  have HQ := Hid.mk' hq
  clear hq
  go_wp2_with fail
  refine HQ.out.mono ?_
  rintro e w6 ⟨rfl, hB, hk⟩
  replace HB := Hid.mk' hB
  replace HK : Hid (Keep (fun k => k < w.heap.size) w w6) := HK.out.trans (hk.mono fun k _ h => by omega)
  clear hB hk HQ
  have hq := got_w HB.out (by decide) (by decide)
  rw [show got ⟨3, 0, 7, 1, 1, 9⟩ = (⟨3, 0, 7, 0, 1, 9⟩, true) from rfl] at hq
  have HQ := Hid.mk' hq
  clear hq
  go_wp2_with fail
  refine HQ.out.mono ?_
  rintro e w7 ⟨rfl, hB, hk⟩
  replace HB := Hid.mk' hB
  replace HK : Hid (Keep (fun k => k < w.heap.size) w w7) := HK.out.trans (hk.mono fun k _ h => by omega)
  clear hB hk HQ
  have hq := fre_w HB.out 4
  rw [show fre ⟨3, 0, 7, 0, 1, 9⟩ 4 = (⟨2, 4, 0, 0, 1, 9⟩, true) from rfl] at hq
  have HQ := Hid.mk' hq
  clear hq
  go_wp2_with fail
  refine HQ.out.mono ?_
  rintro e w8 ⟨rfl, hB, hk⟩
  replace HB := Hid.mk' hB
  replace HK : Hid (Keep (fun k => k < w.heap.size) w w8) := HK.out.trans (hk.mono fun k _ h => by omega)
  clear hB hk HQ
  have h1 := Hid.mk' (state_w HB.out)
  have h2 := Hid.mk' (since_w HB.out)
  have h3 := Hid.mk' (client_w HB.out)
  go_wp2_with (first
    | (go_at_call 9; refine h1.out.mono ?_; rintro e w' ⟨rfl, rfl⟩)
    | (go_at_call 15; refine h2.out.mono ?_; rintro e w' ⟨rfl, rfl⟩)
    | (go_at_call 11; refine h3.out.mono ?_; rintro e w' ⟨rfl, rfl⟩))
  go_ret
  exact ⟨rfl, HK.out.below (Nat.le_refl _) (fun _ h => h)⟩
end

end Go.Proofs.YtnbpkjfaopfapaaDoor
