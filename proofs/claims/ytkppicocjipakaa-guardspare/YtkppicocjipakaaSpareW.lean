/-
  The walk of GuardSpare: it returns true and turns nothing that was there. Conditions: the slice reads as a list of ints.
-/
import Derived.Test.YtkppicocjipakaaNamed
import Derived.Deep.RegionHeld
import Derived.Deep.RegionWith
namespace Go.Proofs.Ytkppicocjipakaa
open Go.ChangeShapes Go.WideShapes Go.ChangeAt Go.RowKit

theorem um_bd (m z : Int) (h0 : 0 < m) (h1 : m ≤ 1000) : 0 ≤ wrap64 ((IntKind.u64.wrap z).tmod m) ∧ wrap64 ((IntKind.u64.wrap z).tmod m) < m := by
  have e : IntKind.u64.wrap z = z % 18446744073709551616 := by simp [IntKind.wrap, IntKind.signed, IntKind.bits]
  have hnn : 0 ≤ z % 18446744073709551616 := Int.emod_nonneg _ (by decide)
  rw [e, Int.tmod_eq_emod_of_nonneg hnn]
  have a1 := Int.emod_nonneg (z % 18446744073709551616) (show m ≠ 0 by omega)
  have a2 := Int.emod_lt_of_pos (z % 18446744073709551616) h0
  generalize z % 18446744073709551616 % m = y at a1 a2
  have e2 : wrap64 y = y := by
    unfold wrap64
    omega
  rw [e2]
  exact ⟨a1, a2⟩

section
variable {n : Nat} {E g : Int}
theorem cap_lin (hn : n ≤ 20) (h1 : 1 ≤ E) (h8 : E ≤ 8) : capI (n : Int) E = (n : Int) * E := by
  rw [capI_small (by omega) (by omega) (by omega)]
  unfold pos
  rw [if_pos (by omega)]
theorem down_ge (hn : n ≤ 20) (h1 : 1 ≤ E) (h8 : E ≤ 8) (hg : g ≤ (n : Int) * E) : g ≤ (down n E g : Int) * E := by
  induction n with
  | zero => simpa [down] using hg
  | succ n ih =>
    by_cases h : g ≤ capI (n : Int) E
    · rw [down_step h]
      rw [cap_lin (by omega) h1 h8] at h
      exact ih (by omega) h
    · rw [down_stay h]
      exact hg
theorem down_lt (hn : n ≤ 20) (h1 : 1 ≤ E) (h8 : E ≤ 8) : down n E g = 0 ∨ ((down n E g : Int) - 1) * E < g := by
  induction n with
  | zero => exact .inl rfl
  | succ n ih =>
    by_cases h : g ≤ capI (n : Int) E
    · rw [down_step h]
      exact ih (by omega)
    · rw [down_stay h]
      rw [cap_lin (by omega) h1 h8] at h
      right
      have e : ((n + 1 : Nat) : Int) - 1 = (n : Int) := by omega
      rw [e]
      omega
theorem down_all (hn : n ≤ 20) (h1 : 1 ≤ E) (h8 : E ≤ 8) (hg : (n : Int) * E < g) : down n E g = n := by
  cases n with
  | zero => rfl
  | succ n =>
    refine down_stay ?_
    rw [cap_lin (by omega) h1 h8]
    have := mul_le (h := (n : Int)) (k := ((n + 1 : Nat) : Int)) (e := E) (by omega) (by omega)
    omega
end

/-- All that the law asks of the numbers. -/
theorem spare_facts (A : Nat) (E g : Int) (hA : A ≤ 20) (h1 : 1 ≤ E) (h8 : E ≤ 8) :
    ∃ C D P P1 : Int, capI (A : Int) E = C ∧ (A : Int) - (down A E g : Nat) = D ∧ D * E = P ∧ (D + 1) * E = P1 ∧ 0 ≤ D ∧ D ≤ 20 ∧ 0 ≤ P ∧ P ≤ C ∧ C ≤ 160 ∧ P1 = P + E ∧ C.tmod E = 0 ∧
      ((g ≤ C ∧ P = C ∧ g ≤ C - P) ∨ (g ≤ C ∧ P < C ∧ g ≤ C - P ∧ C - P1 < g) ∨ (C < g ∧ D = 0)) := by
  have hC := cap_lin hA h1 h8
  have hd := down_le A E g
  refine ⟨_, _, _, _, hC, rfl, rfl, rfl, by omega, by omega, Int.mul_nonneg (by omega) (by omega), ?_, ?_, ?_, ?_, ?_⟩
  · exact mul_le (by omega) (by omega)
  · have := mul_le (h := (A : Int)) (k := 20) (e := E) (by omega) (by omega)
    omega
  · rw [Int.add_mul, Int.one_mul]
  · rw [Int.tmod_eq_emod_of_nonneg (Int.mul_nonneg (by omega) (by omega))]
    exact Int.mul_emod_left _ _
  · have e1 : (A : Int) * E - ((A : Int) - (down A E g : Nat)) * E = (down A E g : Nat) * E := by rw [Int.sub_mul]; omega
    have e2 : (A : Int) * E - ((A : Int) - (down A E g : Nat) + 1) * E = ((down A E g : Int) - 1) * E := by rw [Int.add_mul, Int.sub_mul, Int.sub_mul]; omega
    by_cases hg : g ≤ (A : Int) * E
    · have f1 := down_ge hA h1 h8 hg
      rcases down_lt (g := g) hA h1 h8 with f2 | f2
      · left
        rw [f2] at e1 f1 ⊢
        simp at e1 f1 ⊢
        exact ⟨hg, f1⟩
      · by_cases f3 : down A E g = 0
        · left
          rw [f3] at f1 ⊢
          simp at f1 ⊢
          exact ⟨hg, f1⟩
        · right; left
          have f4 := mul_le (h := 1) (k := (down A E g : Int)) (e := E) (by omega) (by omega)
          exact ⟨hg, by omega, by omega, by omega⟩
    · right; right
      refine ⟨by omega, ?_⟩
      rw [down_all hA h1 h8 (by omega)]
      omega

set_option maxHeartbeats 2000000 in
set_option maxRecDepth 100000 in
theorem spare_walk (a : Option Addr) (len cap : Nat) (zs : List Int) (y z : Int) (w : World) (hr : IntsAt w a len cap zs) :
    Calls Try.prog 7 #[.slice a len cap, .agg #[.int .i64 y, .int .i64 z]] w fun e w' => e = .returned (.bool true) ∧ Below w.heap.size w w' := by
  have hle := hr.hle
  obtain ⟨m, hm⟩ : ∃ m, min len 20 = m := ⟨_, rfl⟩
  have h20 : m ≤ 20 := by omega
  obtain ⟨A, hA⟩ : ∃ A, zs.take m = A := ⟨_, rfl⟩
  have HR : Hid (IntsAt w a m cap A) := by rw [← hA]; exact hr.take (by omega)
  have hA20 : act A ≤ 20 := by have := act_le A; have := HR.out.hlen; omega
  have HM : Hid (len ≤ cap ∧ min len 20 = m) := ⟨hle, hm⟩
  obtain ⟨U, hU⟩ : ∃ U, wrap64 ((IntKind.u64.wrap y).tmod 8) = U := ⟨_, rfl⟩
  have hUb := um_bd 8 y (by decide) (by decide)
  rw [hU] at hUb
  obtain ⟨hU0, hU1⟩ := hUb
  obtain ⟨G, hG⟩ : ∃ G, near z = G := ⟨_, rfl⟩
  have hG0 : -1000 ≤ G := by rw [← hG]; exact near_lo z
  have hG1 : G ≤ 1000 := by rw [← hG]; exact near_hi z
  clear hr hm hA zs hle
  go_enter Try.func7, Try.ntmps7
  go_wp2_with fail
  obtain ⟨w0, hw0⟩ : ∃ w0, w0 = w.alloc (.cells #[.int .i64 y, .int .i64 z] 33) := ⟨_, rfl⟩
  have hb0 : Below w.heap.size w w0 := by rw [hw0]; exact (Below.refl _ w).alloc (Nat.le_refl _) _
  have hs0 : w.heap.size < w0.heap.size := by rw [hw0]; simp
  have c1 : w0.cell? ⟨w.heap.size, 0, none⟩ = some (.int .i64 y) := by rw [hw0]; simp [go_sem]
  have c2 : w0.cell? ⟨w.heap.size, 1, none⟩ = some (.int .i64 z) := by rw [hw0]; simp [go_sem]
  rw [← hw0]
  clear hw0
  refine (lives_any w0).mono ?_
  rintro e w1 ⟨rfl, hb1⟩
  have d1 := (hb1.cell (p := ⟨w.heap.size, 0, none⟩) hs0).trans c1
  have d2 := (hb1.cell (p := ⟨w.heap.size, 1, none⟩) hs0).trans c2
  have hbw : Below w.heap.size w w1 := hb0.trans (hb1.mono (by omega))
  have HB : Hid (Below w.heap.size w w1) := hbw
  have HR1 : Hid _ := HR.out.below hbw
  clear hb0 hb1 hs0 c1 c2 hbw HR
  generalize hq : w.heap.size = q at d1 d2
  clear hq
  go_wp2_with fail
  refine (few_any a len cap m HM.out.1 HM.out.2 _).mono ?_
  rintro e w' ⟨rfl, hw⟩
  obtain rfl : w1 = w' := hw.symm
  clear hw HM
  go_wp2_with fail
  go_quiet (first
    | (go_at_call 10; exact Calls.quiet_of_same (near_any _ _)))
  rw [hG]
  obtain ⟨E, hE⟩ : ∃ E, 1 + U = E := ⟨_, rfl⟩
  have hE1 : 1 ≤ E := by omega
  have hE8 : E ≤ 8 := by omega
  rw [hE]
  have hbd : Below w1.heap.size w1 (w1.drewN nq) := ⟨rfl, rfl, rfl, Nat.le_refl _, fun _ _ => rfl⟩
  have HB2 : Hid (Below w.heap.size w (w1.drewN nq)) := HB.out.trans (hbd.mono HB.out.size)
  have HR2 : Hid (IntsAt (w1.drewN nq) a m cap A) := HR1.out.below hbd
  clear hE hG hU hU0 hU1 d1 d2 hbd HB HR1
  generalize w1.drewN nq = w2 at *
  clear nq w1
  obtain ⟨C, D, P, P1, hC, hD, hP, hP1, f1, f2, f3, f4, f5, f6, f7, f8⟩ := spare_facts (act A) E G hA20 hE1 hE8
  have HC : Hid (capI (act A : Nat) E = C ∧ (act A : Int) - (down (act A) E G : Nat) = D) := ⟨hC, hD⟩
  clear hC hD
  rcases f8 with ⟨g1, g2, g3⟩ | ⟨g1, g2, g3, g4⟩ | ⟨g1, rfl⟩
  all_goals
    go_wp2_with fail
    refine (cap_n a m cap A E C HC.out.1 w2 HR2.out).mono ?_
    rintro e w3 ⟨rfl, hw3⟩
    obtain rfl : w2 = w3 := hw3.symm
    clear hw3
    go_wp2_with fail
    refine (spare_n a m cap A E G _ HC.out.2 w2 HR2.out).mono ?_
    rintro e w3 ⟨rfl, hw3⟩
    obtain rfl : w2 = w3 := hw3.symm
    clear hw3
    go_wp2
    go_ret
    exact ⟨rfl, HB2.out⟩

end Go.Proofs.Ytkppicocjipakaa
