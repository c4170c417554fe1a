/-
  The walk of GuardFirsts: it returns true and turns nothing that was there. Conditions: the slices read as lists of ints.
-/
import Derived.Test.YtkppicocjipakaaNamed
namespace Go.Proofs.Ytkppicocjipakaa
open Go.ChangeShapes Go.WideShapes Go.ChangeAt Go.RowKit

set_option maxHeartbeats 2000000 in
set_option maxRecDepth 100000 in
theorem firsts_walk (a : Option Addr) (len cap : Nat) (zs : List Int) (a' : Option Addr) (len' cap' : Nat) (zs' : List Int) (y z : Int) (w : World) (hr : IntsAt w a len cap zs) (hr' : IntsAt w a' len' cap' zs') :
    Calls Try.prog 6 #[.slice a len cap, .slice a' len' cap', .agg #[.int .i64 y, .int .i64 z]] w fun e w' => e = .returned (.bool true) ∧ Below w.heap.size w w' := by
  have hle := hr.hle
  have hle' := hr'.hle
  obtain ⟨m, hm⟩ : ∃ m, min len 20 = m := ⟨_, rfl⟩
  obtain ⟨m', hm'⟩ : ∃ m', min len' 20 = m' := ⟨_, rfl⟩
  obtain ⟨A, hA⟩ : ∃ A, zs.take m = A := ⟨_, rfl⟩
  obtain ⟨B, hB⟩ : ∃ B, zs'.take m' = B := ⟨_, rfl⟩
  have HR : Hid (IntsAt w a m cap A) := by rw [← hA]; exact hr.take (by omega)
  have HR' : Hid (IntsAt w a' m' cap' B) := by rw [← hB]; exact hr'.take (by omega)
  have HM : Hid (len ≤ cap ∧ min len 20 = m ∧ len' ≤ cap' ∧ min len' 20 = m') := ⟨hle, hm, hle', hm'⟩
  obtain ⟨E, hE⟩ : ∃ E, near y = E := ⟨_, rfl⟩
  obtain ⟨G, hG⟩ : ∃ G, near z = G := ⟨_, rfl⟩
  have hm20 : m' ≤ 20 := by omega
  clear hr hr' hm hm' hA hB zs zs' hle
  go_enter Try.func6, Try.ntmps6
  go_wp2_with fail
  obtain ⟨w0, hw0⟩ : ∃ w0, w0 = w.alloc (.cells #[.int .i64 y, .int .i64 z] 33) := ⟨_, rfl⟩
  have hb0 : Below w.heap.size w w0 := by rw [hw0]; exact (Below.refl _ w).alloc (Nat.le_refl _) _
  have hs0 : w.heap.size < w0.heap.size := by rw [hw0]; simp
  have c1 : w0.cell? ⟨w.heap.size, 0, none⟩ = some (.int .i64 y) := by rw [hw0]; simp [go_sem]
  have c2 : w0.cell? ⟨w.heap.size, 1, none⟩ = some (.int .i64 z) := by rw [hw0]; simp [go_sem]
  rw [← hw0]
  clear hw0
  refine (lives_any w0).mono ?_
  rintro e w1 ⟨rfl, hb1⟩
  have d1 := (hb1.cell (p := ⟨w.heap.size, 0, none⟩) hs0).trans c1
  have d2 := (hb1.cell (p := ⟨w.heap.size, 1, none⟩) hs0).trans c2
  have hs1 : w.heap.size < w1.heap.size := Nat.lt_of_lt_of_le hs0 hb1.size
  have hbw : Below w.heap.size w w1 := hb0.trans (hb1.mono (by omega))
  have HB : Hid (Below w.heap.size w w1 ∧ w.heap.size < w1.heap.size) := ⟨hbw, hs1⟩
  have HR1 : Hid _ := HR.out.below hbw
  have HR1' : Hid _ := HR'.out.below hbw
  clear hb0 hb1 hs0 c1 c2 hs1 hbw HR HR'
  generalize hq : w.heap.size = q at d1 d2
  clear hq
  go_wp2_with (first
    | (go_at_call 9; refine (few_any a len cap m HM.out.1 HM.out.2.1 _).mono ?_; rintro e w' ⟨rfl, hw⟩; obtain rfl : w1 = w' := hw.symm; clear hw)
    | (go_at_call 9; refine (few_any a' len' cap' m' HM.out.2.2.1 HM.out.2.2.2 _).mono ?_; rintro e w' ⟨rfl, hw⟩; obtain rfl : w1 = w' := hw.symm; clear hw))
  go_quiet (first
    | (go_at_call 10; exact Calls.quiet_of_same (near_any _ _)))
  rw [hE, hG]
  have hbd : Below w1.heap.size w1 (w1.drewN nq) := ⟨rfl, rfl, rfl, Nat.le_refl _, fun _ _ => rfl⟩
  have HB2 : Hid (Below w.heap.size w (w1.drewN nq) ∧ w.heap.size < (w1.drewN nq).heap.size) := ⟨HB.out.1.trans (hbd.mono HB.out.1.size), HB.out.2⟩
  have HR2 : Hid (IntsAt (w1.drewN nq) a m cap A) := HR1.out.below hbd
  have HR2' : Hid (IntsAt (w1.drewN nq) a' m' cap' B) := HR1'.out.below hbd
  clear hE hG d1 d2 hbd HB HR1 HR1' HM
  generalize w1.drewN nq = w2 at *
  clear nq w1
  obtain ⟨K, hK⟩ : ∃ K, firstI A E G B = K := ⟨_, rfl⟩
  obtain ⟨k1, k2⟩ := K
  have HK : Hid _ := hK
  clear hK
  go_wp2_with fail
  refine (first_n a m cap A a' m' cap' B E G k1 k2 HK.out w2 HR2.out HR2'.out).mono ?_
  rintro e w3 ⟨rfl, hb3⟩
  have HR3 : Hid _ := HR2.out.below hb3
  have HR3' : Hid _ := HR2'.out.below hb3
  have HB3 : Hid (Below w.heap.size w w3 ∧ w.heap.size < w3.heap.size) := ⟨HB2.out.1.trans (hb3.mono HB2.out.1.size), Nat.lt_of_lt_of_le HB2.out.2 hb3.size⟩
  clear hb3 HR2 HR2' HB2
  have hl3 := HR3'.out.hlen
  have hle3 := HR3'.out.hle
  have hcap3 := HR3'.out.hcap
  unfold maxLen at hcap3
  have HK0 : Hid (firstI A E G (B.drop 0) = (k1, k2)) := HK.out
  clear HK
  go_wp2
  go_loopw [11] (fun v wr => ∃ k : Nat, k ≤ m' ∧ v = .int .i64 k ∧ Hid (firstI A E G (B.drop k) = (k1, k2)) ∧ Below w3.heap.size w3 wr) (fun v _ => m' - (intOf v).toNat)
  case atStart => exact ⟨0, Nat.zero_le _, rfl, HK0, Below.refl _ _⟩
  case round =>
    clear HK0
    obtain ⟨k, hk, rfl, hp, hbel⟩ := hrel
    by_cases hlt : k < m'
    · have hR := HR3'.out.below hbel
      obtain ⟨b, off, rfl, hbb, hcell⟩ := hR.at_ k hlt
      have hs := first_step A E G B k (by omega)
      rw [hp.out] at hs
      obtain ⟨x, hx⟩ : ∃ x, B.getD k 0 = x := ⟨_, rfl⟩
      rw [hx] at hcell hs
      cases hm : mayB A x E G with
      | true =>
        have ht := may_n a m cap A x E G true hm wr (HR3.out.below hbel)
        rw [hm] at hs
        simp at hs
        obtain ⟨rfl, rfl⟩ := hs
        clear hp hx hm hR
        go_wp2_with fail
        refine ht.mono ?_
        rintro e1 w4 ⟨rfl, hb4⟩
        have hcell2 := (hb4.cell (p := ⟨b, off + k, none⟩) hbb).trans hcell
        have HB4 : Hid _ := hbel.trans (hb4.mono hbel.size)
        clear hcell hb4 hbel ht
        go_wp2
        go_ret
        exact ⟨rfl, HB3.out.1.trans (HB4.out.mono HB3.out.1.size)⟩
      | false =>
        have ht := may_n a m cap A x E G false hm wr (HR3.out.below hbel)
        rw [hm] at hs
        have hs2 : firstI A E G (B.drop (k + 1)) = (k1, k2) := by simpa using hs.symm
        have HS : Hid _ := hs2
        clear hp hx hm hs hs2 hR
        go_wp2_with fail
        refine ht.mono ?_
        rintro e1 w4 ⟨rfl, hb4⟩
        have HB4 : Hid _ := hbel.trans (hb4.mono hbel.size)
        clear hcell hb4 hbel ht
        go_wp2
        go_roundw
        case rel => exact ⟨k + 1, by omega, by go_num, HS, HB4.out⟩
        case measure => simp [intOf]; omega
    · have e2 : B.drop k = [] := List.drop_eq_nil_of_le (by omega)
      have h2 := hp.out
      rw [e2] at h2
      simp [firstI] at h2
      obtain ⟨rfl, rfl⟩ := h2
      clear e2 hp
      go_wp2
      go_ret
      exact ⟨rfl, HB3.out.1.trans (hbel.mono HB3.out.1.size)⟩

end Go.Proofs.Ytkppicocjipakaa
