/-
  What Through, Greet, Bind, Sent, Got, Free and Kill do, of nil too, each as a contract. Conditions: the connection lies where it is said to lie; at most 1000 replies are to come.
-/
import Derived.Test.YtnbpkjfaopfapaaDoorThr
namespace Go.Proofs.YtnbpkjfaopfapaaDoor
open Go.ChangeShapes Go.WideShapes Go.ChangeAt Go.RowKit
variable {w : World} {g : Nat} {h : ByteArray} {s : Bk}

theorem mf_any (P : Program) : ∀ (fn : Fn) (first cap : Array Value) (w : World), (Instr.makeFunc fn first cap).run P w = .ok (.func fn first cap) w := fun _ _ _ _ => rfl

set_option maxHeartbeats 1000000 in
set_option maxRecDepth 100000 in
theorem thr_w (h7 : BAt w g h s) (a b : Int) :
    Calls Tryd.prog 22 #[.pointer (some ⟨g, 0, none⟩), .int .i64 a, .int .i64 b] w fun e w' => e = .returned (.bool (thr s a b).2) ∧ BAt w' g h (thr s a b).1 ∧ Keep (fun k => k ≠ g) w w' := by
  have hmf := mf_any Tryd.prog
  obtain ⟨W, hW⟩ : ∃ W, W = (((w.alloc (.cells #[.pointer (some ⟨g, 0, none⟩)] 24)).alloc (.cells #[.int .i64 a] 3)).alloc (.cells #[.int .i64 b] 3)) := ⟨_, rfl⟩
  have hbl : Below w.heap.size w W := by rw [hW]; exact (((Below.refl _ w).alloc (Nat.le_refl _) _).alloc (by simp) _).alloc (by simp; omega) _
  have hp : W.cell? ⟨w.heap.size, 0, none⟩ = some (.pointer (some ⟨g, 0, none⟩)) := by rw [hW]; simp [go_sem]
  have ha : W.cell? ⟨w.heap.size + 1, 0, none⟩ = some (.int .i64 a) := by rw [hW]; simp [go_sem]
  have hb : W.cell? ⟨w.heap.size + 2, 0, none⟩ = some (.int .i64 b) := by rw [hW]; simp [go_sem]
  have hlt := h7.lt
  have h8 := h7.below hbl
  have HW := Hid.mk' hW
  have HK : Hid (Keep (fun k => k ≠ g) w W) := keep_below hbl
  have H8 := Hid.mk' h8
  by_cases h0 : s.st = 0
  · have HE : Hid ((thr s a b) = (_, true)) := if_pos h0
    have HC := Hid.mk' (did_thr _ W _ (cthr_any w.heap.size a b hp ha hb (by omega) h8))
    have HST := Hid.mk' (state_v h8 0 h0)
    clear h8 hbl hW h7
    go_enter Tryd.func22, Tryd.ntmps22
    go_wp2_with fail
    rw [← HW.out]
    refine HST.out.mono ?_
    rintro e w1 ⟨rfl, hw1⟩
    obtain rfl : W = w1 := hw1.symm
    clear hw1
    go_wp2_with fail
    refine HC.out.mono ?_
    rintro e w2 ⟨rfl, hB2, hK2⟩
    have HR := Hid.mk' hB2
    have HK2 := Hid.mk' (HK.out.trans hK2)
    clear hB2 hK2
    go_wp2
    go_ret
    exact ⟨ret_bool (by rw [HE.out]), by rw [HE.out]; exact HR.out, HK2.out⟩
  · have HE : Hid ((thr s a b) = (_, false)) := if_neg h0
    have k0 : (s.st == 0) = false := by simpa using h0
    have HST := Hid.mk' (state_w h8)
    clear h0
    clear h8 hbl hW h7
    go_enter Tryd.func22, Tryd.ntmps22
    go_wp2_with fail
    rw [← HW.out]
    refine HST.out.mono ?_
    rintro e w1 ⟨rfl, hw1⟩
    obtain rfl : W = w1 := hw1.symm
    clear hw1
    go_wp2_with fail
    refine (did_no _ _ _ _).mono ?_
    rintro e w2 ⟨rfl, hw2⟩
    obtain rfl : W = w2 := hw2.symm
    clear hw2
    go_wp2
    go_ret
    exact ⟨ret_bool (by rw [HE.out]), by rw [HE.out]; exact H8.out, HK.out⟩

set_option maxHeartbeats 1000000 in
set_option maxRecDepth 100000 in
theorem gre_w (h7 : BAt w g h s) (a : Int) :
    Calls Tryd.prog 23 #[.pointer (some ⟨g, 0, none⟩), .int .i64 a] w fun e w' => e = .returned (.bool (gre s a).2) ∧ BAt w' g h (gre s a).1 ∧ Keep (fun k => k ≠ g) w w' := by
  have hmf := mf_any Tryd.prog
  obtain ⟨W, hW⟩ : ∃ W, W = ((w.alloc (.cells #[.pointer (some ⟨g, 0, none⟩)] 24)).alloc (.cells #[.int .i64 a] 3)) := ⟨_, rfl⟩
  have hbl : Below w.heap.size w W := by rw [hW]; exact ((Below.refl _ w).alloc (Nat.le_refl _) _).alloc (by simp) _
  have hp : W.cell? ⟨w.heap.size, 0, none⟩ = some (.pointer (some ⟨g, 0, none⟩)) := by rw [hW]; simp [go_sem]
  have ha : W.cell? ⟨w.heap.size + 1, 0, none⟩ = some (.int .i64 a) := by rw [hW]; simp [go_sem]
  have hlt := h7.lt
  have h8 := h7.below hbl
  have HW := Hid.mk' hW
  have HK : Hid (Keep (fun k => k ≠ g) w W) := keep_below hbl
  have H8 := Hid.mk' h8
  by_cases h0 : s.st = 1
  · have HE : Hid ((gre s a) = (_, true)) := if_pos h0
    have HC := Hid.mk' (did_gre _ W _ (cgre_any w.heap.size a hp ha h8))
    have HST := Hid.mk' (state_v h8 1 h0)
    clear h8 hbl hW h7
    go_enter Tryd.func23, Tryd.ntmps23
    go_wp2_with fail
    rw [← HW.out]
    refine HST.out.mono ?_
    rintro e w1 ⟨rfl, hw1⟩
    obtain rfl : W = w1 := hw1.symm
    clear hw1
    go_wp2_with fail
    refine HC.out.mono ?_
    rintro e w2 ⟨rfl, hB2, hK2⟩
    have HR := Hid.mk' hB2
    have HK2 := Hid.mk' (HK.out.trans hK2)
    clear hB2 hK2
    go_wp2
    go_ret
    exact ⟨ret_bool (by rw [HE.out]), by rw [HE.out]; exact HR.out, HK2.out⟩
  · have HE : Hid ((gre s a) = (_, false)) := if_neg h0
    have k0 : (s.st == 1) = false := by simpa using h0
    have HST := Hid.mk' (state_w h8)
    clear h0
    clear h8 hbl hW h7
    go_enter Tryd.func23, Tryd.ntmps23
    go_wp2_with fail
    rw [← HW.out]
    refine HST.out.mono ?_
    rintro e w1 ⟨rfl, hw1⟩
    obtain rfl : W = w1 := hw1.symm
    clear hw1
    go_wp2_with fail
    refine (did_no _ _ _ _).mono ?_
    rintro e w2 ⟨rfl, hw2⟩
    obtain rfl : W = w2 := hw2.symm
    clear hw2
    go_wp2
    go_ret
    exact ⟨ret_bool (by rw [HE.out]), by rw [HE.out]; exact H8.out, HK.out⟩

set_option maxHeartbeats 1000000 in
set_option maxRecDepth 100000 in
theorem bin_w (h7 : BAt w g h s) (a : Int) :
    Calls Tryd.prog 24 #[.pointer (some ⟨g, 0, none⟩), .int .i64 a] w fun e w' => e = .returned (.bool (bin s a).2) ∧ BAt w' g h (bin s a).1 ∧ Keep (fun k => k ≠ g) w w' := by
  have hmf := mf_any Tryd.prog
  obtain ⟨W, hW⟩ : ∃ W, W = ((w.alloc (.cells #[.pointer (some ⟨g, 0, none⟩)] 24)).alloc (.cells #[.int .i64 a] 3)) := ⟨_, rfl⟩
  have hbl : Below w.heap.size w W := by rw [hW]; exact ((Below.refl _ w).alloc (Nat.le_refl _) _).alloc (by simp) _
  have hp : W.cell? ⟨w.heap.size, 0, none⟩ = some (.pointer (some ⟨g, 0, none⟩)) := by rw [hW]; simp [go_sem]
  have ha : W.cell? ⟨w.heap.size + 1, 0, none⟩ = some (.int .i64 a) := by rw [hW]; simp [go_sem]
  have hlt := h7.lt
  have h8 := h7.below hbl
  have HW := Hid.mk' hW
  have HK : Hid (Keep (fun k => k ≠ g) w W) := keep_below hbl
  have H8 := Hid.mk' h8
  by_cases h0 : s.st = 2
  · have HST := Hid.mk' (state_v h8 2 h0)
    by_cases h1 : 1 ≤ a
    · have HE : Hid ((bin s a) = (_, true)) := if_pos ⟨h0, h1⟩
      have HC := Hid.mk' (did_bin _ W _ (cbin_any w.heap.size a hp ha h8))
      clear h8 hbl hW h7
      go_enter Tryd.func24, Tryd.ntmps24
      go_wp2_with fail
      rw [← HW.out]
      refine HST.out.mono ?_
      rintro e w1 ⟨rfl, hw1⟩
      obtain rfl : W = w1 := hw1.symm
      clear hw1
      go_wp2_with fail
      refine HC.out.mono ?_
      rintro e w2 ⟨rfl, hB2, hK2⟩
      have HR := Hid.mk' hB2
      have HK2 := Hid.mk' (HK.out.trans hK2)
      clear hB2 hK2
      go_wp2
      go_ret
      exact ⟨ret_bool (by rw [HE.out]), by rw [HE.out]; exact HR.out, HK2.out⟩
    · have HE : Hid ((bin s a) = (_, false)) := if_neg (fun e => h1 e.2)
      have k1 : decide (1 ≤ a) = false := decide_eq_false h1
      have k2 : a < 1 := by omega
      clear h8 hbl hW h7
      go_enter Tryd.func24, Tryd.ntmps24
      go_wp2_with fail
      rw [← HW.out]
      refine HST.out.mono ?_
      rintro e w1 ⟨rfl, hw1⟩
      obtain rfl : W = w1 := hw1.symm
      clear hw1
      go_wp2_with fail
      refine (did_no _ _ _ _).mono ?_
      rintro e w2 ⟨rfl, hw2⟩
      obtain rfl : W = w2 := hw2.symm
      clear hw2
      go_wp2
      go_ret
      exact ⟨ret_bool (by rw [HE.out]), by rw [HE.out]; exact H8.out, HK.out⟩
  · have HE : Hid ((bin s a) = (_, false)) := if_neg (fun e => h0 e.1)
    have k0 : (s.st == 2) = false := by simpa using h0
    have HST := Hid.mk' (state_w h8)
    clear h0
    clear h8 hbl hW h7
    go_enter Tryd.func24, Tryd.ntmps24
    go_wp2_with fail
    rw [← HW.out]
    refine HST.out.mono ?_
    rintro e w1 ⟨rfl, hw1⟩
    obtain rfl : W = w1 := hw1.symm
    clear hw1
    go_wp2_with fail
    refine (did_no _ _ _ _).mono ?_
    rintro e w2 ⟨rfl, hw2⟩
    obtain rfl : W = w2 := hw2.symm
    clear hw2
    go_wp2
    go_ret
    exact ⟨ret_bool (by rw [HE.out]), by rw [HE.out]; exact H8.out, HK.out⟩

set_option maxHeartbeats 1000000 in
set_option maxRecDepth 100000 in
theorem sen_w (h7 : BAt w g h s)  (o0 : 0 ≤ s.ow) (o1 : s.ow ≤ 1000):
    Calls Tryd.prog 25 #[.pointer (some ⟨g, 0, none⟩)] w fun e w' => e = .returned (.bool (sen s).2) ∧ BAt w' g h (sen s).1 ∧ Keep (fun k => k ≠ g) w w' := by
  have hmf := mf_any Tryd.prog
  obtain ⟨W, hW⟩ : ∃ W, W = (w.alloc (.cells #[.pointer (some ⟨g, 0, none⟩)] 24)) := ⟨_, rfl⟩
  have hbl : Below w.heap.size w W := by rw [hW]; exact (Below.refl _ w).alloc (Nat.le_refl _) _
  have hp : W.cell? ⟨w.heap.size, 0, none⟩ = some (.pointer (some ⟨g, 0, none⟩)) := by rw [hW]; simp [go_sem]
  have hlt := h7.lt
  have h8 := h7.below hbl
  have HW := Hid.mk' hW
  have HK : Hid (Keep (fun k => k ≠ g) w W) := keep_below hbl
  have H8 := Hid.mk' h8
  by_cases h0 : s.st = 3
  · have HE : Hid ((sen s) = (_, true)) := if_pos h0
    have HC := Hid.mk' (did_sen _ W _ (csen_any w.heap.size hp o0 o1 h8))
    have HST := Hid.mk' (state_v h8 3 h0)
    clear h8 hbl hW h7
    go_enter Tryd.func25, Tryd.ntmps25
    go_wp2_with fail
    rw [← HW.out]
    refine HST.out.mono ?_
    rintro e w1 ⟨rfl, hw1⟩
    obtain rfl : W = w1 := hw1.symm
    clear hw1
    go_wp2_with fail
    refine HC.out.mono ?_
    rintro e w2 ⟨rfl, hB2, hK2⟩
    have HR := Hid.mk' hB2
    have HK2 := Hid.mk' (HK.out.trans hK2)
    clear hB2 hK2
    go_wp2
    go_ret
    exact ⟨ret_bool (by rw [HE.out]), by rw [HE.out]; exact HR.out, HK2.out⟩
  · have HE : Hid ((sen s) = (_, false)) := if_neg h0
    have k0 : (s.st == 3) = false := by simpa using h0
    have HST := Hid.mk' (state_w h8)
    clear h0
    clear h8 hbl hW h7
    go_enter Tryd.func25, Tryd.ntmps25
    go_wp2_with fail
    rw [← HW.out]
    refine HST.out.mono ?_
    rintro e w1 ⟨rfl, hw1⟩
    obtain rfl : W = w1 := hw1.symm
    clear hw1
    go_wp2_with fail
    refine (did_no _ _ _ _).mono ?_
    rintro e w2 ⟨rfl, hw2⟩
    obtain rfl : W = w2 := hw2.symm
    clear hw2
    go_wp2
    go_ret
    exact ⟨ret_bool (by rw [HE.out]), by rw [HE.out]; exact H8.out, HK.out⟩

set_option maxHeartbeats 1000000 in
set_option maxRecDepth 100000 in
theorem got_w (h7 : BAt w g h s)  (o0 : 0 ≤ s.ow) (o1 : s.ow ≤ 1000):
    Calls Tryd.prog 27 #[.pointer (some ⟨g, 0, none⟩)] w fun e w' => e = .returned (.bool (got s).2) ∧ BAt w' g h (got s).1 ∧ Keep (fun k => k ≠ g) w w' := by
  have hmf := mf_any Tryd.prog
  obtain ⟨W, hW⟩ : ∃ W, W = (w.alloc (.cells #[.pointer (some ⟨g, 0, none⟩)] 24)) := ⟨_, rfl⟩
  have hbl : Below w.heap.size w W := by rw [hW]; exact (Below.refl _ w).alloc (Nat.le_refl _) _
  have hp : W.cell? ⟨w.heap.size, 0, none⟩ = some (.pointer (some ⟨g, 0, none⟩)) := by rw [hW]; simp [go_sem]
  have hlt := h7.lt
  have h8 := h7.below hbl
  have HW := Hid.mk' hW
  have HK : Hid (Keep (fun k => k ≠ g) w W) := keep_below hbl
  have H8 := Hid.mk' h8
  by_cases h0 : s.st = 3
  · have HST := Hid.mk' (state_v h8 3 h0)
    have HOW := Hid.mk' (owes_w h8)
    by_cases h1 : 0 < s.ow
    · have HE : Hid ((got s) = (_, true)) := if_pos ⟨h0, h1⟩
      have HC := Hid.mk' (did_got _ W _ (cgot_any w.heap.size hp o0 o1 h8))
      clear h8 hbl hW h7
      go_enter Tryd.func27, Tryd.ntmps27
      go_wp2_with fail
      rw [← HW.out]
      refine HST.out.mono ?_
      rintro e w1 ⟨rfl, hw1⟩
      obtain rfl : W = w1 := hw1.symm
      clear hw1
      go_wp2_with fail
      refine HOW.out.mono ?_
      rintro e w1 ⟨rfl, hw1⟩
      obtain rfl : W = w1 := hw1.symm
      clear hw1
      go_wp2_with fail
      refine HC.out.mono ?_
      rintro e w2 ⟨rfl, hB2, hK2⟩
      have HR := Hid.mk' hB2
      have HK2 := Hid.mk' (HK.out.trans hK2)
      clear hB2 hK2
      go_wp2
      go_ret
      exact ⟨ret_bool (by rw [HE.out]), by rw [HE.out]; exact HR.out, HK2.out⟩
    · have HE : Hid ((got s) = (_, false)) := if_neg (fun e => h1 e.2)
      have k1 : decide (0 < s.ow) = false := decide_eq_false h1
      have k2 : s.ow = 0 := by omega
      clear h8 hbl hW h7
      go_enter Tryd.func27, Tryd.ntmps27
      go_wp2_with fail
      rw [← HW.out]
      refine HST.out.mono ?_
      rintro e w1 ⟨rfl, hw1⟩
      obtain rfl : W = w1 := hw1.symm
      clear hw1
      go_wp2_with fail
      refine HOW.out.mono ?_
      rintro e w1 ⟨rfl, hw1⟩
      obtain rfl : W = w1 := hw1.symm
      clear hw1
      go_wp2_with fail
      refine (did_no _ _ _ _).mono ?_
      rintro e w2 ⟨rfl, hw2⟩
      obtain rfl : W = w2 := hw2.symm
      clear hw2
      go_wp2
      go_ret
      exact ⟨ret_bool (by rw [HE.out]), by rw [HE.out]; exact H8.out, HK.out⟩
  · have HE : Hid ((got s) = (_, false)) := if_neg (fun e => h0 e.1)
    have k0 : (s.st == 3) = false := by simpa using h0
    have HST := Hid.mk' (state_w h8)
    clear h0
    clear h8 hbl hW h7
    go_enter Tryd.func27, Tryd.ntmps27
    go_wp2_with fail
    rw [← HW.out]
    refine HST.out.mono ?_
    rintro e w1 ⟨rfl, hw1⟩
    obtain rfl : W = w1 := hw1.symm
    clear hw1
    go_wp2_with fail
    refine (did_no _ _ _ _).mono ?_
    rintro e w2 ⟨rfl, hw2⟩
    obtain rfl : W = w2 := hw2.symm
    clear hw2
    go_wp2
    go_ret
    exact ⟨ret_bool (by rw [HE.out]), by rw [HE.out]; exact H8.out, HK.out⟩

set_option maxHeartbeats 1000000 in
set_option maxRecDepth 100000 in
theorem fre_w (h7 : BAt w g h s) (a : Int):
    Calls Tryd.prog 26 #[.pointer (some ⟨g, 0, none⟩), .int .i64 a] w fun e w' => e = .returned (.bool (fre s a).2) ∧ BAt w' g h (fre s a).1 ∧ Keep (fun k => k ≠ g) w w' := by
  have hmf := mf_any Tryd.prog
  obtain ⟨W, hW⟩ : ∃ W, W = ((w.alloc (.cells #[.pointer (some ⟨g, 0, none⟩)] 24)).alloc (.cells #[.int .i64 a] 3)) := ⟨_, rfl⟩
  have hbl : Below w.heap.size w W := by rw [hW]; exact ((Below.refl _ w).alloc (Nat.le_refl _) _).alloc (by simp) _
  have hp : W.cell? ⟨w.heap.size, 0, none⟩ = some (.pointer (some ⟨g, 0, none⟩)) := by rw [hW]; simp [go_sem]
  have ha : W.cell? ⟨w.heap.size + 1, 0, none⟩ = some (.int .i64 a) := by rw [hW]; simp [go_sem]
  have hlt := h7.lt
  have h8 := h7.below hbl
  have HW := Hid.mk' hW
  have HK : Hid (Keep (fun k => k ≠ g) w W) := keep_below hbl
  have H8 := Hid.mk' h8
  by_cases h0 : s.st = 3
  · have HST := Hid.mk' (state_v h8 3 h0)
    have HOW := Hid.mk' (owes_w h8)
    by_cases h1 : s.ow = 0
    · have HE : Hid ((fre s a) = (_, true)) := if_pos ⟨h0, h1⟩
      have HC := Hid.mk' (did_fre _ W _ (cfre_any w.heap.size a hp ha h8))
      have k1 : (s.ow == 0) = true := by simpa using h1
      clear h8 hbl hW h7
      go_enter Tryd.func26, Tryd.ntmps26
      go_wp2_with fail
      rw [← HW.out]
      refine HST.out.mono ?_
      rintro e w1 ⟨rfl, hw1⟩
      obtain rfl : W = w1 := hw1.symm
      clear hw1
      go_wp2_with fail
      refine HOW.out.mono ?_
      rintro e w1 ⟨rfl, hw1⟩
      obtain rfl : W = w1 := hw1.symm
      clear hw1
      go_wp2_with fail
      refine HC.out.mono ?_
      rintro e w2 ⟨rfl, hB2, hK2⟩
      have HR := Hid.mk' hB2
      have HK2 := Hid.mk' (HK.out.trans hK2)
      clear hB2 hK2
      go_wp2
      go_ret
      exact ⟨ret_bool (by rw [HE.out]), by rw [HE.out]; exact HR.out, HK2.out⟩
    · have HE : Hid ((fre s a) = (_, false)) := if_neg (fun e => h1 e.2)
      have k1 : (s.ow == 0) = false := by simpa using h1
      clear h8 hbl hW h7
      go_enter Tryd.func26, Tryd.ntmps26
      go_wp2_with fail
      rw [← HW.out]
      refine HST.out.mono ?_
      rintro e w1 ⟨rfl, hw1⟩
      obtain rfl : W = w1 := hw1.symm
      clear hw1
      go_wp2_with fail
      refine HOW.out.mono ?_
      rintro e w1 ⟨rfl, hw1⟩
      obtain rfl : W = w1 := hw1.symm
      clear hw1
      go_wp2_with fail
      refine (did_no _ _ _ _).mono ?_
      rintro e w2 ⟨rfl, hw2⟩
      obtain rfl : W = w2 := hw2.symm
      clear hw2
      go_wp2
      go_ret
      exact ⟨ret_bool (by rw [HE.out]), by rw [HE.out]; exact H8.out, HK.out⟩
  · have HE : Hid ((fre s a) = (_, false)) := if_neg (fun e => h0 e.1)
    have k0 : (s.st == 3) = false := by simpa using h0
    have HST := Hid.mk' (state_w h8)
    clear h0
    clear h8 hbl hW h7
    go_enter Tryd.func26, Tryd.ntmps26
    go_wp2_with fail
    rw [← HW.out]
    refine HST.out.mono ?_
    rintro e w1 ⟨rfl, hw1⟩
    obtain rfl : W = w1 := hw1.symm
    clear hw1
    go_wp2_with fail
    refine (did_no _ _ _ _).mono ?_
    rintro e w2 ⟨rfl, hw2⟩
    obtain rfl : W = w2 := hw2.symm
    clear hw2
    go_wp2
    go_ret
    exact ⟨ret_bool (by rw [HE.out]), by rw [HE.out]; exact H8.out, HK.out⟩

set_option maxHeartbeats 1000000 in
set_option maxRecDepth 100000 in
theorem kil_w (h7 : BAt w g h s) :
    Calls Tryd.prog 36 #[.pointer (some ⟨g, 0, none⟩)] w fun e w' => e = .returned (.bool (kil s).2) ∧ BAt w' g h (kil s).1 ∧ Keep (fun k => k ≠ g) w w' := by
  have hmf := mf_any Tryd.prog
  obtain ⟨W, hW⟩ : ∃ W, W = (w.alloc (.cells #[.pointer (some ⟨g, 0, none⟩)] 24)) := ⟨_, rfl⟩
  have hbl : Below w.heap.size w W := by rw [hW]; exact (Below.refl _ w).alloc (Nat.le_refl _) _
  have hp : W.cell? ⟨w.heap.size, 0, none⟩ = some (.pointer (some ⟨g, 0, none⟩)) := by rw [hW]; simp [go_sem]
  have hlt := h7.lt
  have h8 := h7.below hbl
  have HW := Hid.mk' hW
  have HK : Hid (Keep (fun k => k ≠ g) w W) := keep_below hbl
  have H8 := Hid.mk' h8
  by_cases h0 : s.st = 4
  · have HE : Hid ((kil s) = (_, false)) := if_pos h0
    have HST := Hid.mk' (state_v h8 4 h0)
    clear h8 hbl hW h7
    go_enter Tryd.func36, Tryd.ntmps36
    go_wp2_with fail
    rw [← HW.out]
    refine HST.out.mono ?_
    rintro e w1 ⟨rfl, hw1⟩
    obtain rfl : W = w1 := hw1.symm
    clear hw1
    go_wp2_with fail
    refine (did_no _ _ _ _).mono ?_
    rintro e w2 ⟨rfl, hw2⟩
    obtain rfl : W = w2 := hw2.symm
    clear hw2
    go_wp2
    go_ret
    exact ⟨ret_bool (by rw [HE.out]), by rw [HE.out]; exact H8.out, HK.out⟩
  · have HE : Hid ((kil s) = (_, true)) := if_neg h0
    have k0 : (s.st == 4) = false := by simpa using h0
    have k1 : (s.st != 4) = true := by simpa using h0
    have HC := Hid.mk' (did_kil _ W _ (ckil_any w.heap.size hp h8))
    have HST := Hid.mk' (state_w h8)
    clear h0
    clear h8 hbl hW h7
    go_enter Tryd.func36, Tryd.ntmps36
    go_wp2_with fail
    rw [← HW.out]
    refine HST.out.mono ?_
    rintro e w1 ⟨rfl, hw1⟩
    obtain rfl : W = w1 := hw1.symm
    clear hw1
    go_wp2_with fail
    refine HC.out.mono ?_
    rintro e w2 ⟨rfl, hB2, hK2⟩
    have HR := Hid.mk' hB2
    have HK2 := Hid.mk' (HK.out.trans hK2)
    clear hB2 hK2
    go_wp2
    go_ret
    exact ⟨ret_bool (by rw [HE.out]), by rw [HE.out]; exact HR.out, HK2.out⟩

end Go.Proofs.YtnbpkjfaopfapaaDoor
