/-
  BackAges's walk: what is Old, or Stale, stays so. Conditions: the steps lie where they are said to lie.
-/
import Derived.Test.YtnbpkjfaopfapaaStrs
namespace Go.Proofs.Ytnbpkjfaopfapaa
open Go.ChangeShapes Go.WideShapes Go.ChangeAt Go.RowKit

/-- What the law asks of what is told at lo and at hi: oL, oH (Old), sL, sH (Stale), of the state x. -/
def Told (x : Int) (oL oH sL sH : Bool) : Prop :=
  (oL = false ∨ (oL = true ∧ oH = true)) ∧ (sL = false ∨ (sL = true ∧ sH = true)) ∧ (x = 2 ∨ ((x != 2) = true ∧ sH = false ∧ (x == 0) = false ∧ (x == 4) = false) ∨ (x = 0 ∧ oH = false ∧ sH = false) ∨ (x = 4 ∧ oH = false ∧ sH = false))

theorem told_of (s : Bk) {lo hi : Int} (h : lo ≤ hi) (idle : Int) : Told s.st (oldB s lo) (oldB s hi) (staB s lo idle) (staB s hi idle) := by
  have ns : s.st ≠ 2 → staB s hi idle = false := by
    intro e
    have : (s.st == 2) = false := by simpa using e
    unfold staB
    rw [this]
    rfl
  refine ⟨?_, ?_, ?_⟩
  · cases ho : oldB s lo with
    | false => exact .inl rfl
    | true =>
      right
      refine ⟨rfl, ?_⟩
      unfold oldB at *
      simp only [Bool.and_eq_true] at *
      exact ⟨ho.1, ho.2.1, past_mono h ho.2.2⟩
  · cases ho : staB s lo idle with
    | false => exact .inl rfl
    | true =>
      right
      refine ⟨rfl, ?_⟩
      unfold staB at *
      simp only [Bool.and_eq_true] at *
      exact ⟨ho.1, past_mono h ho.2⟩
  · by_cases e : s.st = 2
    · exact .inl e
    · right
      by_cases e0 : s.st = 0
      · exact .inr (.inl ⟨e0, by unfold oldB; rw [e0]; rfl, ns e⟩)
      · by_cases e4 : s.st = 4
        · exact .inr (.inr ⟨e4, by unfold oldB; rw [e4]; rfl, ns e⟩)
        · exact .inl ⟨by simpa using e, ns e, by simpa using e0, by simpa using e4⟩

set_option maxHeartbeats 8000000 in
set_option maxRecDepth 100000 in
theorem ages_walk (a : Option Addr) (len cap : Nat) (ss : List Stp) (x y idle : Int) (w : World) (hs : StepsAt w a len cap ss) :
    Calls Try.prog 6 #[.slice a len cap, .agg #[.int .i64 x, .int .i64 y], .int .i64 idle] w fun e w' => e = .returned (.bool true) ∧ Below w.heap.size w w' := by
  have l1 := hs.hle
  have c1 := hs.hcap
  obtain ⟨n, hn⟩ : ∃ n, min len 100 = n := ⟨_, rfl⟩
  have hea := early_any a len cap n l1 c1 hn
  have hn3 : n ≤ 100 := by omega
  have hn4 : n ≤ len := by omega
  have hnc : n ≤ cap := by omega
  unfold maxLen at c1
  obtain ⟨lo, hlo⟩ : ∃ m, (if y < x then y else x) = m := ⟨_, rfl⟩
  obtain ⟨hi, hhi⟩ : ∃ m, (if x < y then y else x) = m := ⟨_, rfl⟩
  have HLE : Hid (lo ≤ hi) := by show lo ≤ hi; split at hlo <;> split at hhi <;> omega
  have HBX : Hid (Below w.heap.size w (w.alloc (.cells #[.int .i64 x, .int .i64 y] 36))) := (Below.refl _ w).alloc (Nat.le_refl _) _
  clear hn
  go_enter Try.func6, Try.ntmps6
  go_wp2_with fail
  obtain ⟨k0, k1⟩ : (w.alloc (.cells #[.int .i64 x, .int .i64 y] 36)).cell? ⟨w.heap.size, 0, none⟩ = some (.int .i64 x) ∧ (w.alloc (.cells #[.int .i64 x, .int .i64 y] 36)).cell? ⟨w.heap.size, 1, none⟩ = some (.int .i64 y) := ⟨by simp [go_sem], by simp [go_sem]⟩
  have kl : w.heap.size < (w.alloc (.cells #[.int .i64 x, .int .i64 y] 36)).heap.size := by simp
  generalize w.alloc (.cells #[.int .i64 x, .int .i64 y] 36) = w0 at *
  generalize hpb : w.heap.size = pb at *
  have HPB := Hid.mk' hpb
  clear hpb
  refine (lives_any _).mono ?_
  rintro e w1 ⟨rfl, hb1⟩
  have k0 := (hb1.cell (p := ⟨pb, 0, none⟩) kl).trans k0
  have k1 := (hb1.cell (p := ⟨pb, 1, none⟩) kl).trans k1
  have HB : Hid (Below pb w w1) := HBX.out.trans (hb1.mono (by omega))
  have HS : Hid (StepsAt w1 a len cap ss) := by
    have h0 : StepsAt w0 a len cap ss := hs.below (by rw [HPB.out]; exact HBX.out)
    exact h0.below hb1
  have kl := Nat.lt_of_lt_of_le kl hb1.size
  clear hs hb1 HBX
  go_wp2_with fail
  refine (new_any _ w1).mono ?_
  rintro e w2 ⟨rfl, hB2, hb2, -⟩
  have k0 := (hb2.cell (p := ⟨pb, 0, none⟩) kl).trans k0
  have k1 := (hb2.cell (p := ⟨pb, 1, none⟩) kl).trans k1
  have HB2 := Hid.mk' hB2
  have HK2 : Hid (Keep (fun k => k < w1.heap.size) w1 w2) := keep_below hb2
  clear hb2 hB2 kl
  go_wp2_with fail
  refine (hea _).mono ?_
  rintro e w4 ⟨rfl, hw4⟩
  obtain rfl : w2 = w4 := hw4.symm
  clear hea hw4
  generalize hg : w1.heap.size = g at *
  have HG : Hid (w1.heap.size = g) := hg
  clear hg
  go_wp2_with fail
  go_region
  clear k0 k1
  go_wp2
  go_loopw [10] (fun vi wr => ∃ (i : Nat) (s : Bk), vi = .int .i64 i ∧ i ≤ n ∧ Hid (Inv s i) ∧ Hid (BAt wr g ⟨#[104]⟩ s) ∧ Hid (Keep (fun k => k < g) w1 wr)) (fun vi _ => n - (intOf vi).toNat)
  case atStart => exact ⟨0, b0, rfl, Nat.zero_le _, inv0, HB2, HK2.out.drew⟩
  case round =>
    clear HB2 HK2 hlo hhi
    obtain ⟨i, s, rfl, hi1, HI, HBT, HK⟩ := hrel
    by_cases hc : i < n
    · obtain ⟨bq, off, rfl, hlt, x0, x1, x2⟩ := HS.out.rd i (by omega)
      obtain ⟨⟨kd, sa, sb⟩, hst⟩ : ∃ q, ss.getD i s0 = q := ⟨_, rfl⟩
      rw [hst] at x0 x1 x2
      dsimp only at x0 x1 x2
      clear hst
      rw [HG.out] at hlt
      have x0 := HK.out.cell x0 hlt
      have x1 := HK.out.cell x1 hlt
      have x2 := HK.out.cell x2 hlt
      obtain ⟨⟨t, d⟩, hq⟩ : ∃ q, stp (kindI kd) sa sb s = q := ⟨_, rfl⟩
      have HI2 : Hid (Inv t ((i + 1 : Nat) : Int)) := by
        have := inv_stp HI.out (by omega) (kindI kd) sa sb
        rw [hq] at this
        exact this
      have HP := Hid.mk' (told_of t HLE.out idle)
      have HSP := Hid.mk' (step_v HBT.out HI.out.o0 (by have := HI.out.on; omega) kd sa sb t d hq)
      clear hq HBT HI
      go_wp2_with fail
      refine HSP.out.mono ?_
      rintro e w5 ⟨rfl, hB5, hK5⟩
      have HB5 := Hid.mk' hB5
      have HK5 : Hid (Keep (fun k => k < g) w1 w5) := HK.out.trans (hK5.mono fun k _ h => by omega)
      have HT := Hid.mk' (state_w hB5)
      have HOLD : Hid (∀ (m : Int) (v : Bool), oldB t m = v → Calls Try.prog 19 #[.pointer (some ⟨g, 0, none⟩), .int .i64 m] w5 fun e w' => e = .returned (.bool v) ∧ w' = w5) := fun m v hv => by subst hv; exact old_w hB5 m
      have HSTA : Hid (∀ (m k : Int) (v : Bool), staB t m k = v → Calls Try.prog 20 #[.pointer (some ⟨g, 0, none⟩), .int .i64 m, .int .i64 k] w5 fun e w' => e = .returned (.bool v) ∧ w' = w5) := fun m k v hv => by subst hv; exact stale_w hB5 m k
      clear hB5 hK5 HSP HK x0 x1 x2
      obtain ⟨oL, hoL⟩ : ∃ v, oldB t lo = v := ⟨_, rfl⟩
      obtain ⟨oH, hoH⟩ : ∃ v, oldB t hi = v := ⟨_, rfl⟩
      obtain ⟨sL, hsL⟩ : ∃ v, staB t lo idle = v := ⟨_, rfl⟩
      obtain ⟨sH, hsH⟩ : ∃ v, staB t hi idle = v := ⟨_, rfl⟩
      rw [hoL, hoH, hsL, hsH] at HP
      generalize t.st = sy at *
      go_wp2_with fail
      refine HT.out.mono ?_
      rintro e w' ⟨rfl, hw'⟩
      obtain rfl : w5 = w' := hw'.symm
      clear hw' HT
      obtain ⟨p1, p2, p3⟩ := HP.out
      clear HP
      rcases p3 with rfl | ⟨q1, rfl, q2, q3⟩ | ⟨rfl, rfl, rfl⟩ | ⟨rfl, rfl, rfl⟩ <;> rcases p1 with rfl | ⟨rfl, h1⟩ <;> (try cases h1) <;> rcases p2 with rfl | ⟨rfl, h2⟩ <;> (try cases h2)
      all_goals
        go_wp2_with (first
          | (go_at_call 19; refine (HOLD.out _ _ (by assumption)).mono ?_; rintro e w' ⟨rfl, rfl⟩)
          | (go_at_call 20; refine (HSTA.out _ _ _ (by assumption)).mono ?_; rintro e w' ⟨rfl, rfl⟩))
        go_roundw
        case rel => exact ⟨i + 1, t, by go_num, by omega, HI2, HB5, HK5⟩
        case measure => simp [intOf]; omega
    · obtain rfl : n = i := by omega
      have HEND : Hid (Below w.heap.size w wr) := by
        have h1 : Below pb w wr := HB.out.trans (HK.out.below (by rw [← HPB.out]; exact HB.out.size) (fun k hk => by have := HB.out.size; have := HG.out; have := HPB.out; omega))
        show Below w.heap.size w wr
        rw [HPB.out]
        exact h1
      clear hc
      go_wp2
      go_ret
      exact ⟨rfl, by have := HEND.out; rwa [HPB.out] at this⟩

end Go.Proofs.Ytnbpkjfaopfapaa
