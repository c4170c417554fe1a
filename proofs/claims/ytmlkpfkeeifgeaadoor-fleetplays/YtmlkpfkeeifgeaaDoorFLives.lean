/-
  The document's example, as a contract: it comes out as told. Condition: the table of states lies where it is said to lie.
-/
import Derived.Test.YtmlkpfkeeifgeaaDoorFRes
import Derived.Test.YtmlkpfkeeifgeaaDoorFOps2
namespace Go.Proofs.YtmlkpfkeeifgeaaDoor
open Go.ChangeShapes Go.WideShapes Go.ChangeAt Go.RowKit

theorem below_trans {w w1 w2 : World} (h1 : Below w.heap.size w w1) (h2 : Below w1.heap.size w1 w2) : Below w.heap.size w w2 := h1.trans (h2.mono h1.size)
def bA : ByteArray := ⟨#[97]⟩
def bB : ByteArray := ⟨#[98]⟩
theorem lit2 (w : World) (x y : ByteArray) : StrsAt (w.alloc (.cells #[.string x, .string y] 9)) (some ⟨w.heap.size, 0, none⟩) 2 2 [x, y] := by
  refine ⟨rfl, Nat.le_refl _, by unfold maxLen; omega, fun j hj => ⟨_, _, rfl, by simp, ?_⟩⟩
  match j, hj with
  | 0, _ => simp [go_sem]
  | 1, _ => simp [go_sem]
def sL0 : Fl := ⟨[], [], []⟩
def sL1 : Fl := ⟨[⟨bA, 0, false⟩, ⟨bB, 0, false⟩], [], []⟩
def sL2 : Fl := ⟨[⟨bA, 0, false⟩, ⟨bB, 0, false⟩], [(bA, 0)], []⟩
def sL3 : Fl := ⟨[⟨bA, 0, false⟩, ⟨bB, 0, false⟩], [(bA, 0), (bB, 0)], []⟩
def sL4 : Fl := ⟨[⟨bA, 1, false⟩, ⟨bB, 0, false⟩], [(bB, 0)], [(bA, 10)]⟩
theorem l_re : reE [bA, bB] = 0 ∧ reC [bA, bB] 0 sL0 = [bA, bB] ∧ reN [bA, bB] sL0 = [] ∧ reS [bA, bB] 0 sL0 = sL1 := by
  refine ⟨by kernel_rfl, by kernel_rfl, by kernel_rfl, by kernel_rfl⟩
theorem l_d1 : drE bA sL1 = 0 ∧ drS bA sL1 = sL2 := ⟨by kernel_rfl, by kernel_rfl⟩
theorem l_d2 : drE bB sL2 = 0 ∧ drS bB sL2 = sL3 := ⟨by kernel_rfl, by kernel_rfl⟩
theorem l_ad : adm 2 2 10 sL3.H sL3.L sL3.M = (sL4, [bA]) := by kernel_rfl
theorem l_cap : capF sL4.H 2 = 2 ∧ plc bB (nms sL4.L) = 0 := ⟨by kernel_rfl, by kernel_rfl⟩

theorem V1 : Inv sL1.L sL1.M := Inv.nil
theorem V3 : Inv sL3.L sL3.M := by
  have h := (Inv.nil.asked bA).asked bB
  have e : askL bB (askL bA [] []) [] = sL3.L := by kernel_rfl
  rw [e] at h
  exact h

set_option maxHeartbeats 1000000 in
set_option maxRecDepth 100000 in
theorem lives_any (w : World) (ht : St.Tabs w) : Calls Tryd.prog 11 #[] w fun r w' => r = .returned (.bool true) ∧ Below w.heap.size w w' := by
  have hsz : ∀ x ∈ [bA, bB], x.size ≤ maxLen := by
    intro x hx
    simp at hx
    rcases hx with rfl | rfl <;> decide +kernel
  have P1 : Hid (∀ (w1 : World) (A : Nat → Prop) (f : Nat), FIn w1 A f 2 2 [] [] [] → Calls Tryd.prog 21 #[.pointer (some ⟨f, 0, none⟩), .slice (some ⟨w1.heap.size, 0, none⟩) 2 2, .int .i64 0] (w1.alloc (.cells #[.string ⟨#[97]⟩, .string ⟨#[98]⟩] 9)) fun r w' => ∃ a c a' c', r = .returned (.tuple #[.slice a 2 c, .slice a' 0 c', .int .i64 0]) ∧ FIn w' A f 2 2 sL1.H sL1.L sL1.M ∧ Keep A w1 w') := fun w1 A f h => by
    have hb : Below w1.heap.size w1 (w1.alloc (.cells #[.string ⟨#[97]⟩, .string ⟨#[98]⟩] 9)) := (Below.refl _ w1).alloc (Nat.le_refl _) _
    have hr := fresolve_w (s := sL0) (h.belowN hb) Inv.nil _ _ _ (lit2 w1 bA bB) (fun x hx => by cases hx; exact .inr ⟨Nat.le_refl _, by simp⟩) hsz 0 (by show 0 ≤ _; omega) (by show 0 + 0 ≤ _; omega) (fun i hi => absurd hi (Nat.not_lt_zero _))
    obtain ⟨e1, e2, e3, e4⟩ := l_re
    rw [e1, e2, e3, e4] at hr
    refine hr.mono ?_
    rintro r w' ⟨va, vb, rfl, o1, o2, hf, hk⟩
    obtain ⟨a, c, rfl, -, -⟩ := owns_strs o1
    obtain ⟨a', c', rfl, -, -⟩ := owns_strs o2
    exact ⟨a, c, a', c', rfl, hf.fewer (fun k hk => .inl (.inl (.inl hk))) h.a0, (keep_below hb).trans (hk.mono fun k _ hA => .inl hA)⟩
  have P2 : Hid (∀ (w1 : World) (A : Nat → Prop) (f : Nat), FIn w1 A f 2 2 sL1.H sL1.L sL1.M → Calls Tryd.prog 23 #[.pointer (some ⟨f, 0, none⟩), .string ⟨#[97]⟩] w1 fun r w' => r = .returned (.int .i64 0) ∧ FIn w' A f 2 2 sL2.H sL2.L sL2.M ∧ Keep A w1 w') := fun w1 A f h => by
    have := fdrain_w (s := sL1) h bA (by decide +kernel)
    rw [l_d1.1, l_d1.2] at this
    exact this
  have P3 : Hid (∀ (w1 : World) (A : Nat → Prop) (f : Nat), FIn w1 A f 2 2 sL2.H sL2.L sL2.M → Calls Tryd.prog 23 #[.pointer (some ⟨f, 0, none⟩), .string ⟨#[98]⟩] w1 fun r w' => r = .returned (.int .i64 0) ∧ FIn w' A f 2 2 sL3.H sL3.L sL3.M ∧ Keep A w1 w') := fun w1 A f h => by
    have := fdrain_w (s := sL2) h bB (by decide +kernel)
    rw [l_d2.1, l_d2.2] at this
    exact this
  have P4 : Hid (∀ (w1 : World) (A : Nat → Prop) (f : Nat), FIn w1 A f 2 2 sL3.H sL3.L sL3.M → Calls Tryd.prog 22 #[.pointer (some ⟨f, 0, none⟩), .int .i64 10] w1 fun r w' => ∃ a c, r = .returned (.slice a 1 c) ∧ StrsAt w' a 1 c [bA] ∧ FIn w' A f 2 2 sL4.H sL4.L sL4.M ∧ Keep A w1 w') := fun w1 A f h => by
    refine (fadmit_w h V3 10 (by decide) (by decide) (by
      intro x hx
      simp [sL3, nms] at hx
      rcases hx with rfl | rfl <;> decide +kernel) sL4 [bA] l_ad).mono ?_
    rintro r w' ⟨v, rfl, o1, hf, hk⟩
    obtain ⟨a, c, rfl, hs, -⟩ := owns_strs o1
    exact ⟨a, c, rfl, hs, hf.fewer (fun k hk => .inl hk) h.a0, hk⟩
  have P5 : Hid (∀ (w1 : World) (A : Nat → Prop) (f : Nat), FIn w1 A f 2 2 sL4.H sL4.L sL4.M → Calls Tryd.prog 24 #[.pointer (some ⟨f, 0, none⟩), .string ⟨#[98]⟩] w1 fun r w' => r = .returned (.int .i64 0) ∧ Below w1.heap.size w1 w') := fun w1 A f h => by
    have := fahead_w h bB
    rw [l_cap.2] at this
    exact this
  have P6 : Hid (∀ (w1 : World) (A : Nat → Prop) (f : Nat), FIn w1 A f 2 2 sL4.H sL4.L sL4.M → Calls Tryd.prog 18 #[.pointer (some ⟨f, 0, none⟩)] w1 fun r w' => r = .returned (.int .i64 2) ∧ Below w1.heap.size w1 w') := fun w1 A f h => by
    have := fcap_w h (by decide)
    rw [l_cap.1] at this
    exact this
  have hn := fnew_w 2 2 w ht
  clear hsz ht
  go_enter Tryd.func11, Tryd.ntmps11
  go_wp2_with (first
    | (go_at_call 12; refine hn.mono ?_; rintro r w1 ⟨f, rfl, hwf, hq1, hb1⟩; clear hn; have hp1 := P1.out w1 _ _ hq1)
    | (refine hp1.mono ?_; rintro e w2 ⟨a2, c2, a3, c3, rfl, hq2, hk2⟩; clear hp1; have hp2 := P2.out w2 _ _ hq2)
    | (refine hp2.mono ?_; rintro e w3 ⟨rfl, hq3, hk3⟩; clear hp2; have hp3 := P3.out w3 _ _ hq3)
    | (refine hp3.mono ?_; rintro e w4 ⟨rfl, hq4, hk4⟩; clear hp3; have hp4 := P4.out w4 _ _ hq4)
    | (refine hp4.mono ?_; rintro e w5 ⟨a5, c5, rfl, hs5, hq5, hk5⟩; clear hp4; have hp5 := P5.out w5 _ _ hq5; obtain ⟨b5, o5, rfl, hlt5, x5⟩ := hs5.at_ 0 (by omega); rw [Nat.add_zero] at x5; have x6 : w5.cell? ⟨b5, o5, none⟩ = some (.string ⟨#[97]⟩) := x5; have h15 := hs5.hle; clear x5)
    | (refine hp5.mono ?_; rintro e w6 ⟨rfl, hb6⟩; clear hp5; have hp6 := P6.out w6 _ _ (hq5.below hb6))
    | (refine hp6.mono ?_; rintro e w7 ⟨rfl, hb7⟩))
  go_ret
  refine ⟨rfl, ?_⟩
  have h2 : Keep (fun k => k < w.heap.size) w1 w7 := (((((hk2.trans hk3).trans hk4).trans hk5).trans (keep_below hb6))).trans (keep_below hb7)
  exact hb1.trans (h2.below hb1.size (fun k hk => hk))

end Go.Proofs.YtmlkpfkeeifgeaaDoor
