/-
  The document's example answers true; nothing that was there is turned. BackoffNil's and BackoffWaits's walks: they return true. Conditions: the fails are an int.
-/
import Derived.Test.YtcofkaackpecjaaMeth
namespace Go.Proofs.Ytcofkaackpecjaa
open Go.ChangeShapes Go.WideShapes Go.ChangeAt Go.RowKit

/-- Fail, its answer and what it then has by name. -/
theorem fail_n {w : World} {g : Nat} {base f u : Int} (h : BAt w g base f u) (h0 : 0 ≤ f) (h1 : f ≤ 1000) (now d : Int) (hd : In d) (F U : Int) (hF : f + 1 = F) (hU : nextU base F now d = U) :
    Calls Try.prog 14 #[.pointer (some ⟨g, 0, none⟩), .int .i64 now, .int .i64 d] w fun e w' => e = .returned (.int .i64 U) ∧ BAt w' g base F U ∧ Keep (fun k => k ≠ g) w w' := by
  subst hF hU
  exact fail_w h h0 h1 now d hd
/-- May, its answer by name. -/
theorem may_n {w : World} {g : Nat} {base f u : Int} (h : BAt w g base f u) (now : Int) (b : Bool) (hb : past now u = b) :
    Calls Try.prog 18 #[.pointer (some ⟨g, 0, none⟩), .int .i64 now] w fun e w' => e = .returned (.bool b) ∧ w' = w := by
  subst hb
  exact may_w h now
theorem wait_n (base f n : Int) (hf : f ≤ 9223372036854775807) (hn : waitI base f = n) (w : World) :
    Calls Try.prog 20 #[.int .i64 base, .int .i64 f] w fun e w' => e = .returned (.int .i64 n) ∧ w' = w := by
  subst hn
  exact wait_any base f hf w

set_option maxHeartbeats 1000000 in
set_option maxRecDepth 100000 in
theorem lives_any (w : World) :
    Calls Try.prog 8 #[] w fun e w' => e = .returned (.bool true) ∧ Below w.heap.size w w' := by
  go_enter Try.func8, Try.ntmps8
  go_wp2_with fail
  refine (new_any 8 w).mono ?_
  rintro e w1 ⟨rfl, hB, hb, -⟩
  have hk : Keep (fun k => k < w.heap.size) w w1 := keep_below hb
  clear hb
  go_wp2_with fail
  refine (fail_n hB (by decide) (by decide) 100 0 (by unfold In; decide) 1 106 (by decide) (by decide)).mono ?_
  rintro e w2 ⟨rfl, hB2, hk2⟩
  have hk : Keep (fun k => k < w.heap.size) w w2 := hk.trans (hk2.mono fun k _ h => by omega)
  clear hB hk2
  have hm1 := may_n hB2 105 false (by decide)
  have hm2 := may_n hB2 106 true (by decide)
  have hfl := fails_w hB2
  have hw1 := wait_n 8 1 8 (by decide) (by decide) w2
  have hw3 := wait_n 8 3 32 (by decide) (by decide) w2
  clear hB2
  go_wp2_with fail
  refine hw1.mono ?_
  rintro e w' ⟨rfl, hw'⟩
  obtain rfl : w2 = w' := hw'.symm
  clear hw' hw1
  go_wp2_with fail
  refine hw3.mono ?_
  rintro e w' ⟨rfl, hw'⟩
  obtain rfl : w2 = w' := hw'.symm
  clear hw' hw3
  go_wp2_with fail
  refine hfl.mono ?_
  rintro e w' ⟨rfl, hw'⟩
  obtain rfl : w2 = w' := hw'.symm
  clear hw' hfl
  go_wp2_with fail
  refine hm1.mono ?_
  rintro e w' ⟨rfl, hw'⟩
  obtain rfl : w2 = w' := hw'.symm
  clear hw' hm1
  go_wp2_with fail
  refine hm2.mono ?_
  rintro e w' ⟨rfl, hw'⟩
  obtain rfl : w2 = w' := hw'.symm
  clear hw' hm2
  go_wp2
  go_ret
  exact ⟨rfl, hk.below (Nat.le_refl _) (fun _ h => h)⟩

set_option maxRecDepth 100000 in
theorem nil_walk (now d : Int) (w : World) :
    Calls Try.prog 6 #[.int .i64 now, .int .i64 d] w fun e w' => e = .returned (.bool true) ∧ Below w.heap.size w w' := by
  have c0 := cut_lo now
  go_enter Try.func6, Try.ntmps6
  go_wp2_with fail
  refine (lives_any w).mono ?_
  rintro e w1 ⟨rfl, hb1⟩
  go_wp2_with (first
    | (go_at_call 15; refine (ok_nil _).mono ?_; rintro e w' ⟨rfl, rfl⟩)
    | (go_at_call 14; refine (fail_nil _ _ _).mono ?_; rintro e w' ⟨rfl, rfl⟩)
    | (go_at_call 18; refine (may_nil _ _).mono ?_; rintro e w' ⟨rfl, rfl⟩)
    | (go_at_call 17; refine (until_nil _).mono ?_; rintro e w' ⟨rfl, rfl⟩)
    | (go_at_call 16; refine (fails_nil _).mono ?_; rintro e w' ⟨rfl, rfl⟩)
    | (go_at_call 22; refine (rcut_any _ _).mono ?_; rintro e w' ⟨rfl, rfl⟩))
  go_ret
  exact ⟨rfl, hb1⟩

/-- What the law asks of two waits. -/
theorem waits_pure (base f F : Int) (hF : (if (1099511627776 : Int) < f then (1099511627776 : Int) else f) = F) :
    waitI base F = waitI base f ∧ waitI base f ≤ waitI base (F + 1) ∧ (F < 1 ∨ (1 ≤ F ∧ waitI base (F + 1) ≤ 2 * waitI base f ∧ 1 ≤ waitI base f)) := by
  by_cases h : 1099511627776 < f
  · rw [if_pos h] at hF
    subst hF
    rw [wait_far (base := base) (f := f) (by omega), wait_far (base := base) (f := 1099511627776) (by omega), wait_far (base := base) (f := 1099511627776 + 1) (by omega)]
    omega
  · rw [if_neg h] at hF
    subst hF
    refine ⟨rfl, ?_⟩
    by_cases h1 : f < 1
    · rw [wait_none h1]
      exact ⟨(wait_bd _ _).1, .inl h1⟩
    · obtain ⟨k, rfl, e⟩ := wait_nth (base := base) (show 1 ≤ f by omega)
      have e2 := wait_some (base := base) (k + 1)
      push_cast at e2
      have h3 := dbl_up (span_lo base) (span_hi base) k
      have h4 := dbl_bd (span_lo base) (span_hi base) k
      rw [e, e2]
      exact ⟨h3.1, .inr ⟨by omega, h3.2, h4.1⟩⟩

set_option maxHeartbeats 2000000 in
set_option maxRecDepth 100000 in
theorem waits_walk (base f : Int) (hf : In f) (w : World) :
    Calls Try.prog 4 #[.int .i64 base, .int .i64 f] w fun e w' => e = .returned (.bool true) ∧ Below w.heap.size w w' := by
  obtain ⟨F, hF⟩ : ∃ F, (if (1099511627776 : Int) < f then (1099511627776 : Int) else f) = F := ⟨_, rfl⟩
  obtain ⟨p1, p2, p3⟩ := waits_pure base f F hF
  obtain ⟨f1, f2⟩ := hf
  have hF1 : F ≤ 1099511627776 := by split at hF <;> omega
  have hF2 : -9223372036854775808 ≤ F := by split at hF <;> omega
  obtain ⟨n, hn⟩ : ∃ n, waitI base f = n := ⟨_, rfl⟩
  obtain ⟨m, hm⟩ : ∃ m, waitI base (F + 1) = m := ⟨_, rfl⟩
  have q1 := wait_bd base f
  have q2 := wait_bd base (F + 1)
  rw [hn, hm] at p2 p3
  rw [hn] at q1 p1
  rw [hm] at q2
  obtain ⟨q11, q12⟩ := q1
  obtain ⟨q21, q22⟩ := q2
  have hw1 := wait_n base f n f2 hn
  have hw2 := wait_n base (F + 1) m (by omega) hm
  have hw3 := rwait_any base F (by omega)
  rw [p1] at hw3
  clear p1 hn hm
  have hx : (f < 1 ∧ F = f) ∨ (1 ≤ F ∧ m ≤ 2 * n ∧ 1 ≤ n) := by
    rcases p3 with p3 | p3
    · left; split at hF <;> omega
    · exact .inr p3
  clear p3
  rcases hx with ⟨p3, p4⟩ | ⟨p3, p4, p5⟩
  · subst p4
    clear hF
    go_enter Try.func4, Try.ntmps4
    go_wp2_with fail
    refine (lives_any w).mono ?_
    rintro e w1 ⟨rfl, hb1⟩
    go_wp2_with fail
    refine (hw1 w1).mono ?_
    rintro e w' ⟨rfl, hw'⟩
    obtain rfl : w1 = w' := hw'.symm
    clear hw'
    go_wp2_with fail
    refine (hw2 w1).mono ?_
    rintro e w' ⟨rfl, hw'⟩
    obtain rfl : w1 = w' := hw'.symm
    clear hw'
    go_wp2_with fail
    refine (hw3 w1).mono ?_
    rintro e w2 ⟨rfl, hb2⟩
    have HB : Hid (Below w.heap.size w w2) := hb1.trans (hb2.mono hb1.size)
    clear hb1 hb2 hw1 hw2 hw3
    go_wp2
    go_ret
    exact ⟨rfl, HB.out⟩
  · (
    go_enter Try.func4, Try.ntmps4
    go_wp2_with fail
    refine (lives_any w).mono ?_
    rintro e w1 ⟨rfl, hb1⟩
    go_wp2_with fail
    refine (hw1 w1).mono ?_
    rintro e w' ⟨rfl, hw'⟩
    obtain rfl : w1 = w' := hw'.symm
    clear hw'
    go_wp2_with fail
    refine (hw2 w1).mono ?_
    rintro e w' ⟨rfl, hw'⟩
    obtain rfl : w1 = w' := hw'.symm
    clear hw'
    go_wp2_with fail
    refine (hw3 w1).mono ?_
    rintro e w2 ⟨rfl, hb2⟩
    have HB : Hid (Below w.heap.size w w2) := hb1.trans (hb2.mono hb1.size)
    clear hb1 hb2 hw1 hw2 hw3
    go_wp2
    go_ret
    exact ⟨rfl, HB.out⟩)

end Go.Proofs.Ytcofkaackpecjaa
