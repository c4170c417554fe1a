/-
  The walk of GuardNumbers: it returns true and turns nothing that was there. Conditions: the slices read as lists of ints.
-/
import Derived.Test.YtkppicocjipakaaNamed
import Derived.Deep.RegionHeld
import Derived.Deep.RegionWith
namespace Go.Proofs.Ytkppicocjipakaa
open Go.ChangeShapes Go.WideShapes Go.ChangeAt Go.RowKit

/-- What lasts through the last statement. -/
def LN (w : World) (q : Nat) (x : Int) (a : Option Addr) (m cap : Nat) (A : List Int) (w' : World) : Prop :=
  w'.cell? ⟨q, 0, none⟩ = some (.int .i64 x) ∧ q < w'.heap.size ∧ IntsAt w' a m cap A ∧ Below w.heap.size w w' ∧ w.heap.size ≤ w'.heap.size
section
variable {w w1 w2 : World} {q : Nat} {x : Int} {a : Option Addr} {m cap : Nat} {A : List Int}
theorem LN.step (h : LN w q x a m cap A w1) (hb : Below w1.heap.size w1 w2) : LN w q x a m cap A w2 :=
  ⟨(hb.cell (p := ⟨q, 0, none⟩) h.2.1).trans h.1, Nat.lt_of_lt_of_le h.2.1 hb.size, h.2.2.1.below hb, h.2.2.2.1.trans (hb.mono h.2.2.2.2), Nat.le_trans h.2.2.2.2 hb.size⟩
theorem ln_step (h : w1.cell? ⟨q, 0, none⟩ = some (.int .i64 x) ∧ LN w q x a m cap A w1) (hb : Below w1.heap.size w1 w2) : w2.cell? ⟨q, 0, none⟩ = some (.int .i64 x) ∧ LN w q x a m cap A w2 := ⟨(h.2.step hb).1, h.2.step hb⟩
theorem ln_ints (h : w1.cell? ⟨q, 0, none⟩ = some (.int .i64 x) ∧ LN w q x a m cap A w1) : IntsAt w1 a m cap A := h.2.2.2.1
end

set_option maxHeartbeats 2000000 in
set_option maxRecDepth 100000 in
theorem numbers_walk (a : Option Addr) (len cap : Nat) (zs : List Int) (a' : Option Addr) (len' cap' : Nat) (zs' : List Int) (x y z : Int) (w : World) (hr : IntsAt w a len cap zs) (hn : a = none → len = 0 ∧ cap = 0) (hr' : IntsAt w a' len' cap' zs') :
    Calls Try.prog 3 #[.slice a len cap, .slice a' len' cap', .agg #[.int .i64 x, .int .i64 y, .int .i64 z]] w fun e w' => e = .returned (.bool true) ∧ Below w.heap.size w w' := by
  have hle := hr.hle
  have hle' := hr'.hle
  obtain ⟨m, hm⟩ : ∃ m, min len 20 = m := ⟨_, rfl⟩
  obtain ⟨m', hm'⟩ : ∃ m', min len' 20 = m' := ⟨_, rfl⟩
  have h20 : m ≤ 20 := by omega
  obtain ⟨A, hA⟩ : ∃ A, zs.take m = A := ⟨_, rfl⟩
  obtain ⟨B, hB⟩ : ∃ B, zs'.take m' = B := ⟨_, rfl⟩
  have HR : Hid (IntsAt w a m cap A) := by rw [← hA]; exact hr.take (by omega)
  have HR' : Hid (IntsAt w a' m' cap' B) := by rw [← hB]; exact hr'.take (by omega)
  have HN : Hid (a = none → m = 0 ∧ cap = 0) := fun h => ⟨by have := hn h; omega, (hn h).2⟩
  have HM : Hid (len ≤ cap ∧ min len 20 = m ∧ len' ≤ cap' ∧ min len' 20 = m') := ⟨hle, hm, hle', hm'⟩
  obtain ⟨E, hE⟩ : ∃ E, near y = E := ⟨_, rfl⟩
  obtain ⟨G, hG⟩ : ∃ G, near z = G := ⟨_, rfl⟩
  have hE1 : E ≤ 1000 := by rw [← hE]; exact near_hi y
  have HE : Hid (E ≤ 1000) := hE1
  have H20 : Hid (m ≤ 20) := h20
  clear hr hr' hn hm hm' hA hB zs zs' hle hle' hE1 h20
  go_enter Try.func3, Try.ntmps3
  go_wp2_with fail
  obtain ⟨w0, hw0⟩ : ∃ w0, w0 = w.alloc (.cells #[.int .i64 x, .int .i64 y, .int .i64 z] 23) := ⟨_, rfl⟩
  have hb0 : Below w.heap.size w w0 := by rw [hw0]; exact (Below.refl _ w).alloc (Nat.le_refl _) _
  have hs0 : w.heap.size < w0.heap.size := by rw [hw0]; simp
  have c0 : w0.cell? ⟨w.heap.size, 0, none⟩ = some (.int .i64 x) := by rw [hw0]; simp [go_sem]
  have c1 : w0.cell? ⟨w.heap.size, 1, none⟩ = some (.int .i64 y) := by rw [hw0]; simp [go_sem]
  have c2 : w0.cell? ⟨w.heap.size, 2, none⟩ = some (.int .i64 z) := by rw [hw0]; simp [go_sem]
  rw [← hw0]
  clear hw0
  refine (lives_any w0).mono ?_
  rintro e w1 ⟨rfl, hb1⟩
  have d0 := (hb1.cell (p := ⟨w.heap.size, 0, none⟩) hs0).trans c0
  have d1 := (hb1.cell (p := ⟨w.heap.size, 1, none⟩) hs0).trans c1
  have d2 := (hb1.cell (p := ⟨w.heap.size, 2, none⟩) hs0).trans c2
  have hs1 : w.heap.size < w1.heap.size := Nat.lt_of_lt_of_le hs0 hb1.size
  have hbw : Below w.heap.size w w1 := hb0.trans (hb1.mono (by omega))
  have HB : Hid (Below w.heap.size w w1 ∧ w.heap.size < w1.heap.size) := ⟨hbw, hs1⟩
  have HR1 : Hid _ := HR.out.below hbw
  have HR1' : Hid _ := HR'.out.below hbw
  clear hb0 hb1 hs0 c0 c1 c2 hs1 hbw HR HR'
  generalize hq : w.heap.size = q at d0 d1 d2
  have HQ : Hid (w.heap.size = q) := hq
  clear hq
  go_wp2_with (first
    | (go_at_call 9; refine (few_any a len cap m HM.out.1 HM.out.2.1 _).mono ?_; rintro e w' ⟨rfl, hw⟩; obtain rfl : w1 = w' := hw.symm; clear hw)
    | (go_at_call 9; refine (few_any a' len' cap' m' HM.out.2.2.1 HM.out.2.2.2 _).mono ?_; rintro e w' ⟨rfl, hw⟩; obtain rfl : w1 = w' := hw.symm; clear hw))
  go_quiet (first
    | (go_at_call 10; exact Calls.quiet_of_same (near_any _ _)))
  rw [hE, hG]
  have hbd : Below w1.heap.size w1 (w1.drewN nq) := ⟨rfl, rfl, rfl, Nat.le_refl _, fun _ _ => rfl⟩
  have d0' : (w1.drewN nq).cell? ⟨q, 0, none⟩ = some (.int .i64 x) := d0
  have HB2 : Hid (Below w.heap.size w (w1.drewN nq) ∧ w.heap.size < (w1.drewN nq).heap.size) := ⟨HB.out.1.trans (hbd.mono HB.out.1.size), HB.out.2⟩
  have HR2 : Hid (IntsAt (w1.drewN nq) a m cap A) := HR1.out.below hbd
  have HR2' : Hid (IntsAt (w1.drewN nq) a' m' cap' B) := HR1'.out.below hbd
  clear hE hG d0 d1 d2 hbd HB HR1 HR1' HM
  generalize w1.drewN nq = w2 at *
  clear nq w1
  obtain ⟨K, hK⟩ : ∃ K, firstI A E G B = K := ⟨_, rfl⟩
  obtain ⟨k1, k2⟩ := K
  have HK : Hid _ := hK
  clear hK
  go_wp2_with fail
  refine (first_n a m cap A a' m' cap' B E G k1 k2 HK.out w2 HR2.out HR2'.out).mono ?_
  rintro e w3 ⟨rfl, hb3⟩
  have HR3 : Hid _ := HR2.out.below hb3
  have HR3' : Hid _ := HR2'.out.below hb3
  have d3 := (hb3.cell (p := ⟨q, 0, none⟩) (by have := HB2.out.2; have := HQ.out; show q < _; omega)).trans d0'
  have HB3 : Hid (Below w.heap.size w w3 ∧ w.heap.size < w3.heap.size) := ⟨HB2.out.1.trans (hb3.mono HB2.out.1.size), Nat.lt_of_lt_of_le HB2.out.2 hb3.size⟩
  clear hb3 d0' HR2 HR2' HB2
  go_wp2_with fail
  refine (rfirst_n a m cap A a' m' cap' B E G k1 k2 HE.out H20.out HK.out w3 HR3.out HR3'.out).mono ?_
  rintro e w4 ⟨rfl, hb4⟩
  have HR4 := HR3.out.below hb4
  have d4 := (hb4.cell (p := ⟨q, 0, none⟩) (by have := HB3.out.2; have := HQ.out; show q < _; omega)).trans d3
  have hB4 : Below w.heap.size w w4 := HB3.out.1.trans (hb4.mono HB3.out.1.size)
  have hs4 : w.heap.size < w4.heap.size := Nat.lt_of_lt_of_le HB3.out.2 hb4.size
  have hS : w4.drew.cell? ⟨q, 0, none⟩ = some (.int .i64 x) ∧ LN w q x a m cap A w4.drew := ⟨d4, d4, by have := HQ.out; show q < w4.heap.size; omega, HR4.drew, hB4.drew, hB4.size⟩
  clear hb4 d3 d4 HR3 HR3' HB3 HR4 hB4 hs4 HK
  obtain ⟨C, hC⟩ : ∃ C, capI (act A : Nat) E = C := ⟨_, rfl⟩
  obtain ⟨M, hM⟩ : ∃ M, mayB A x E G = M := ⟨_, rfl⟩
  obtain ⟨X, hX⟩ : ∃ X, withI A x E = X := ⟨_, rfl⟩
  obtain ⟨D, hD⟩ : ∃ D, (act A : Int) - (down (act A) E G : Nat) = D := ⟨_, rfl⟩
  have HC : Hid (capI (act A : Nat) E = C ∧ mayB A x E G = M ∧ withI A x E = X ∧ (act A : Int) - (down (act A) E G : Nat) = D) := ⟨hC, hM, hX, hD⟩
  clear hC hM hX hD
  go_wp2_with fail
  go_region_held (fun w' => w'.cell? ⟨q, 0, none⟩ = some (.int .i64 x) ∧ LN w q x a m cap A w')
    (first | assumption | exact ln_step (by assumption) hbx | go_keep)
    (first
      | (go_at_call 13; refine (cap_n a m cap A E C HC.out.1 _ ?_).mono ?_; (refine ln_ints (w := w) (q := q) (x := x) ?_; assumption); rintro e w' ⟨rfl, rfl⟩)
      | (go_at_call 14; refine (rcap_n a m cap A E C HE.out H20.out HC.out.1 _ ?_).mono ?_; (refine ln_ints (w := w) (q := q) (x := x) ?_; assumption); rintro e w' ⟨rfl, rfl⟩)
      | (go_at_call 15; refine (may_n a m cap A x E G M HC.out.2.1 _ ?_).mono ?_; (refine ln_ints (w := w) (q := q) (x := x) ?_; assumption); rintro e w' ⟨rfl, hbx⟩)
      | (go_at_call 16; refine (rmay_n a m cap A x E G M HE.out H20.out HC.out.2.1 _ ?_).mono ?_; (refine ln_ints (w := w) (q := q) (x := x) ?_; assumption); rintro e w' ⟨rfl, hbx⟩)
      | (go_at_call 17; refine (without_n a m cap A x E X HC.out.2.2.1 _ ?_).mono ?_; (refine ln_ints (w := w) (q := q) (x := x) ?_; assumption); rintro e w' ⟨rfl, rfl⟩)
      | (go_at_call 18; refine (rwithout_n a m cap A x E X HE.out H20.out HC.out.2.2.1 _ ?_).mono ?_; (refine ln_ints (w := w) (q := q) (x := x) ?_; assumption); rintro e w' ⟨rfl, hbx⟩)
      | (go_at_call 19; refine (spare_n a m cap A E G D HC.out.2.2.2 _ ?_).mono ?_; (refine ln_ints (w := w) (q := q) (x := x) ?_; assumption); rintro e w' ⟨rfl, rfl⟩)
      | (go_at_call 20; refine (rspare_n a m cap A E G D HE.out H20.out HC.out.2.2.2 _ ?_ HN.out).mono ?_; (refine ln_ints (w := w) (q := q) (x := x) ?_; assumption); rintro e w' ⟨rfl, hbx⟩))
  have LE : LN w q x a m cap A w' := (by assumption : w'.cell? ⟨q, 0, none⟩ = some (.int .i64 x) ∧ LN w q x a m cap A w').2
  go_wp2
  go_ret
  exact ⟨rfl, LE.2.2.2.1⟩

end Go.Proofs.Ytkppicocjipakaa
