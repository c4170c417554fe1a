/-
  What the document's example does: it holds, and nothing that was there is written. And drains that aren't there. Condition: a name is no longer than the greatest length.
-/
import Derived.Test.YthobihlnjcphaaaFirst
import Derived.Test.YthobihlnjcphaaaBeg
import Derived.Test.YthobihlnjcphaaaDue
namespace Go.Proofs.Ythobihlnjcphaaa
open Go.ChangeShapes Go.WideShapes Go.ChangeAt Go.RowKit

theorem below_trans {w w1 w2 : World} (h1 : Below w.heap.size w w1) (h2 : Below w1.heap.size w1 w2) : Below w.heap.size w w2 :=
  h1.trans ⟨h2.os, h2.tape, h2.output, h2.size, fun k hk => h2.block k (Nat.lt_of_lt_of_le hk h1.size)⟩

/-- Those that are due, as texts. -/
theorem due_s (w : World) (A : Nat → Prop) (g : Nat) (L M : List Dr) (now : Int) (h : DIn w A g 0 L M) (hl : M.length ≤ 900) :
    Calls Try.prog 26 #[.pointer (some ⟨g, 0, none⟩), .int .i64 now] w fun e w' => ∃ a c, e = .returned (.slice a (dueL now M).length c) ∧ StrsAt w' a (dueL now M).length c (dueL now M) ∧ Below w.heap.size w w' := by
  refine (due_w w A g L M now h hl).mono fun e w' ⟨v, he, ho, hb⟩ => ?_
  obtain ⟨a, c, rfl, hs, -⟩ := owns_strs ho
  exact ⟨a, c, he, hs, hb⟩
theorem due_n (w : World) (A : Nat → Prop) (g : Nat) (L M : List Dr) (now : Int) (h : DIn w A g 0 L M) (hl : M.length ≤ 900) (D : List ByteArray) (n : Nat) (hD : dueL now M = D) (hn : D.length = n) :
    Calls Try.prog 26 #[.pointer (some ⟨g, 0, none⟩), .int .i64 now] w fun e w' => ∃ a c, e = .returned (.slice a n c) ∧ StrsAt w' a n c D ∧ Below w.heap.size w w' := by
  subst hn hD
  exact due_s w A g L M now h hl

def bA : ByteArray := ⟨#[97]⟩
def bB : ByteArray := ⟨#[98]⟩

set_option maxHeartbeats 2000000 in
set_option maxRecDepth 100000 in
theorem lives_any (w : World) : Calls Try.prog 8 #[] w fun e w' => e = .returned (.bool true) ∧ Below w.heap.size w w' := by
  have hs1 : bA.size ≤ maxLen := by decide +kernel
  have hs2 : bB.size ≤ maxLen := by decide +kernel
  have e1 : askE bA [] [] = 0 := by decide +kernel
  have l1 : askL bA [] [] = [(bA, 0)] := by decide +kernel
  have e2 : askE bB [(bA, 0)] [] = 0 := by decide +kernel
  have l2 : askL bB [(bA, 0)] [] = [(bA, 0), (bB, 0)] := by decide +kernel
  have e3 : begE bA [] = 0 := by decide +kernel
  have l3 : begL bA [(bA, 0), (bB, 0)] [] = [(bB, 0)] := by decide +kernel
  have m3 : begM bA 20 [] = [(bA, 20)] := by decide +kernel
  have d4 : dueL 19 [(bA, 20)] = [] := by decide +kernel
  have d5 : dueL 20 [(bA, 20)] = [bA] := by decide +kernel
  have V1 : Inv (askL bA [] []) [] := Inv.nil.asked bA
  rw [l1] at V1
  have V2 : Inv (askL bB [(bA, 0)] []) [] := V1.asked bB
  rw [l2] at V2
  have P1 : Hid (∀ (w : World) (A : Nat → Prop) (g : Nat), DIn w A g 0 [] [] → Calls Try.prog 13 #[.pointer (some ⟨g, 0, none⟩), .string ⟨#[97]⟩] w fun e w' => e = .returned (.int .i64 0) ∧ DIn w' A g 0 [(bA, 0)] [] ∧ Keep A w w') := fun w A g h => by
    have := ask_w w A g [] [] bA h hs1
    rw [e1, l1] at this
    exact this
  have P2 : Hid (∀ (w : World) (A : Nat → Prop) (g : Nat), DIn w A g 0 [(bA, 0)] [] → Calls Try.prog 13 #[.pointer (some ⟨g, 0, none⟩), .string ⟨#[98]⟩] w fun e w' => e = .returned (.int .i64 0) ∧ DIn w' A g 0 [(bA, 0), (bB, 0)] [] ∧ Keep A w w') := fun w A g h => by
    have := ask_w w A g [(bA, 0)] [] bB h hs2
    rw [e2, l2] at this
    exact this
  have P3 : Hid (∀ (w : World) (A : Nat → Prop) (g : Nat), DIn w A g 0 [(bA, 0), (bB, 0)] [] → Calls Try.prog 15 #[.pointer (some ⟨g, 0, none⟩), .string ⟨#[97]⟩, .int .i64 20] w fun e w' => e = .returned (.int .i64 0) ∧ DIn w' A g 0 [(bB, 0)] [(bA, 20)] ∧ Keep A w w') := fun w A g h => by
    have := beg_w w A g [(bA, 0), (bB, 0)] [] bA 20 h V2 hs1 (by simp)
    rw [e3, l3, m3] at this
    exact this
  have P4 : Hid (∀ (w : World) (A : Nat → Prop) (g : Nat), DIn w A g 0 [(bB, 0)] [(bA, 20)] → Calls Try.prog 26 #[.pointer (some ⟨g, 0, none⟩), .int .i64 19] w fun e w' => ∃ a c, e = .returned (.slice a 0 c) ∧ StrsAt w' a 0 c [] ∧ Below w.heap.size w w') := fun w A g h => due_n w A g _ _ 19 h (by simp) [] 0 d4 rfl
  have P5 : Hid (∀ (w : World) (A : Nat → Prop) (g : Nat), DIn w A g 0 [(bB, 0)] [(bA, 20)] → Calls Try.prog 26 #[.pointer (some ⟨g, 0, none⟩), .int .i64 20] w fun e w' => ∃ a c, e = .returned (.slice a 1 c) ∧ StrsAt w' a 1 c [bA] ∧ Below w.heap.size w w') := fun w A g h => due_n w A g _ _ 20 h (by simp) [bA] 1 d5 rfl
  have P6 : Hid (∀ (w : World) (A : Nat → Prop) (g : Nat), DIn w A g 0 [(bB, 0)] [(bA, 20)] → Calls Try.prog 24 #[.pointer (some ⟨g, 0, none⟩)] w fun e w' => e = .returned (.slice (some ⟨w.heap.size, 0, none⟩) 1 1) ∧ Below w.heap.size w w') := fun w A g h => (waits_w w A g _ _ h (by simp)).mono fun e w' ⟨he, _, hb⟩ => ⟨he, hb⟩
  have hn := new_any w
  clear hs1 hs2 e1 l1 e2 l2 e3 l3 m3 d4 d5 V1 V2
  go_enter Try.func8, Try.ntmps8
  go_wp2_with (first
    | (go_at_call 9; refine hn.mono ?_; rintro e w1 ⟨rfl, hq1, hb1⟩; have hp1 := P1.out w1 _ _ hq1))
  obtain ⟨g, hg⟩ : ∃ g, w.heap.size = g := ⟨_, rfl⟩
  have HG := Hid.mk' hg
  rw [hg] at hq1 hb1 hp1
  clear hg hn
  rw [HG.out]
  go_wp2_with (first
    | (refine hp1.mono ?_; rintro e w2 ⟨rfl, hq2, hk2⟩; clear hp1; have hp2 := P2.out w2 _ _ hq2)
    | (refine hp2.mono ?_; rintro e w3 ⟨rfl, hq3, hk3⟩; clear hp2; have hp3 := P3.out w3 _ _ hq3)
    | (refine hp3.mono ?_; rintro e w4 ⟨rfl, hq4, hk4⟩; clear hp3; have hp4 := P4.out w4 _ _ hq4)
    | (refine hp4.mono ?_; rintro e w5 ⟨a5, c5, rfl, -, hb5⟩; clear hp4; have hq5 := hq4.same hb5; have hp5 := P5.out w5 _ _ hq5)
    | (refine hp5.mono ?_; rintro e w6 ⟨a6, c6, rfl, hs6, hb6⟩; clear hp5; have hq6 := hq5.same hb6; have hp6 := P6.out w6 _ _ hq6; obtain ⟨b6, o6, rfl, hlt6, x6⟩ := hs6.at_ 0 (by omega); rw [Nat.add_zero] at x6; have x7 : w6.cell? ⟨b6, o6, none⟩ = some (.string ⟨#[97]⟩) := x6; have h16 := hs6.hle; clear x6)
    | (refine hp6.mono ?_; rintro e w7 ⟨rfl, hb7⟩))
  go_ret
  refine ⟨rfl, ?_⟩
  have h2 : Keep (fun k => k < g) w1 w7 := ((((hk2.trans hk3).trans hk4).trans (keep_below hb5)).trans (keep_below hb6)).trans (keep_below hb7)
  have h3 := h2.below (B := g) (by have := hb1.size; have := HG.out; omega) (fun k hk => hk)
  rw [HG.out]
  exact hb1.trans h3

theorem nil_any (x : ByteArray) (n : Int) (w : World) : Calls Try.prog 6 #[.string x, .int .i64 n] w fun e w' => e = .returned (.bool true) ∧ Below w.heap.size w w' := by
  go_enter Try.func6, Try.ntmps6
  go_wp2_with (first
    | (go_at_call 8; refine (lives_any w).mono ?_; rintro e w1 ⟨rfl, hb1⟩)
    | (go_at_call 20; refine (of_any _ _ _ _).mono ?_; rintro e w' ⟨rfl, hw'⟩; subst w'; unfold ofv)
    | (go_at_call 19; refine (first_nil _ _ _ _).mono ?_; rintro e w' ⟨rfl, hw'⟩; subst w')
    | (go_at_call 22; refine (dead_nil _ _).mono ?_; rintro e w' ⟨rfl, hw'⟩; subst w')
    | (go_at_call 13; refine (ask_nil _ _).mono ?_; rintro e w' ⟨rfl, hw'⟩; subst w')
    | (go_at_call 15; refine (beg_nil _ _ _).mono ?_; rintro e w' ⟨rfl, hw'⟩; subst w')
    | (go_at_call 17; refine (end_nil _ _).mono ?_; rintro e w' ⟨rfl, hw'⟩; subst w')
    | (go_at_call 26; refine (due_nil _ _).mono ?_; rintro e w' ⟨rfl, hw'⟩; subst w')
    | (go_at_call 24; refine (waits_nil _).mono ?_; rintro e w' ⟨rfl, hw'⟩; subst w')
    | (go_at_call 25; refine (under_nil _).mono ?_; rintro e w' ⟨rfl, hw'⟩; subst w')
    | (go_at_call 28; refine (ahead_nil _ _).mono ?_; rintro e w' ⟨rfl, hw'⟩; subst w'))
  go_ret
  exact ⟨rfl, (hb1.alloc hb1.size _).alloc (by have := hb1.size; simp; omega) _⟩

end Go.Proofs.Ythobihlnjcphaaa
