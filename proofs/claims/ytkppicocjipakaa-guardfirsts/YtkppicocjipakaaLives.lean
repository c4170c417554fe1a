/-
  The document's example answers true; the laws' own near and few. No conditions.
-/
import Derived.Test.YtkppicocjipakaaRMay
namespace Go.Proofs.Ytkppicocjipakaa
open Go.ChangeShapes Go.WideShapes Go.ChangeAt Go.RowKit

theorem three_at (w : World) (x y z : Int) : IntsAt (w.alloc (.cells #[.int .i64 x, .int .i64 y, .int .i64 z] 3)) (some ⟨w.heap.size, 0, none⟩) 3 3 [x, y, z] := by
  refine ⟨rfl, Nat.le_refl _, by unfold maxLen; omega, fun j hj => ⟨_, _, rfl, by simp, ?_⟩⟩
  match j, hj with
  | 0, _ => simp [go_sem]
  | 1, _ => simp [go_sem]
  | 2, _ => simp [go_sem]
theorem may_n (a : Option Addr) (len cap : Nat) (zs : List Int) (i e g : Int) (b : Bool) (h : mayB zs i e g = b) (w : World) (hr : IntsAt w a len cap zs) :
    Calls Try.prog 15 #[.slice a len cap, .int .i64 i, .int .i64 e, .int .i64 g] w fun r w' => r = .returned (.bool b) ∧ Below w.heap.size w w' := by
  subst h
  exact may_any a len cap zs i e g w hr
theorem cap_n (a : Option Addr) (len cap : Nat) (zs : List Int) (e c : Int) (h : capI (act zs : Nat) e = c) (w : World) (hr : IntsAt w a len cap zs) :
    Calls Try.prog 13 #[.slice a len cap, .int .i64 e] w fun r w' => r = .returned (.int .i64 c) ∧ w' = w := by
  subst h
  exact cap_any a len cap zs e w hr
theorem spare_n (a : Option Addr) (len cap : Nat) (zs : List Int) (e g c : Int) (h : (act zs : Int) - (down (act zs) e g : Nat) = c) (w : World) (hr : IntsAt w a len cap zs) :
    Calls Try.prog 19 #[.slice a len cap, .int .i64 e, .int .i64 g] w fun r w' => r = .returned (.int .i64 c) ∧ w' = w := by
  subst h
  exact spare_any a len cap zs e g w hr

theorem new3 {w w1 : World} (h : Below w.heap.size w w1) (x y z : Int) : Below w.heap.size w (w1.alloc (.cells #[.int .i64 x, .int .i64 y, .int .i64 z] 3)) := h.alloc h.size _

set_option maxHeartbeats 1000000 in
set_option maxRecDepth 100000 in
theorem lives_any (w : World) :
    Calls Try.prog 8 #[] w fun e w' => e = .returned (.bool true) ∧ Below w.heap.size w w' := by
  go_enter Try.func8, Try.ntmps8
  go_wp2_with fail
  refine (cap_n _ _ _ [0, 0, 0] _ 6 (by decide) _ (three_at _ _ _ _)).mono ?_
  rintro e w1 ⟨rfl, hw1⟩
  have hb1 : Below w.heap.size w w1 := by rw [hw1]; exact new3 (Below.refl _ _) _ _ _
  clear hw1
  go_wp2_with fail
  refine (may_n _ _ _ [0, 0, 0] _ _ _ true (by decide) _ (three_at _ _ _ _)).mono ?_
  rintro e w2 ⟨rfl, hb⟩
  have hb2 := (new3 hb1 0 0 0).trans (hb.mono (new3 hb1 0 0 0).size)
  clear hb hb1
  go_wp2_with fail
  refine (may_n _ _ _ [0, 1, 0] _ _ _ false (by decide) _ (three_at _ _ _ _)).mono ?_
  rintro e w3 ⟨rfl, hb⟩
  have hb3 := (new3 hb2 0 1 0).trans (hb.mono (new3 hb2 0 1 0).size)
  clear hb hb2
  go_wp2_with fail
  refine (spare_n _ _ _ [0, 0, 0] _ _ 1 (by decide) _ (three_at _ _ _ _)).mono ?_
  rintro e w4 ⟨rfl, hw4⟩
  have hb4 : Below w.heap.size w w4 := by rw [hw4]; exact new3 hb3 _ _ _
  clear hw4 hb3
  go_wp2_with fail
  refine (may_n _ _ _ [0, 1, 0] _ _ _ true (by decide) _ (three_at _ _ _ _)).mono ?_
  rintro e w5 ⟨rfl, hb⟩
  have hb5 := (new3 hb4 0 1 0).trans (hb.mono (new3 hb4 0 1 0).size)
  clear hb hb4
  go_wp2
  go_ret
  exact ⟨rfl, hb5⟩

/-- A number within 1000. -/
def near (n : Int) : Int := if 1000 < (if n < -1000 then -1000 else n) then 1000 else (if n < -1000 then -1000 else n)
theorem near_lo (n : Int) : -1000 ≤ near n := by unfold near; split <;> split <;> omega
theorem near_hi (n : Int) : near n ≤ 1000 := by unfold near; split <;> (try split) <;> omega

theorem near_any (n : Int) (w : World) :
    Calls Try.prog 10 #[.int .i64 n] w fun e w' => e = .returned (.int .i64 (near n)) ∧ w' = w := by
  obtain ⟨m, hm⟩ : ∃ m, (if n < -1000 then -1000 else n) = m := ⟨_, rfl⟩
  obtain ⟨r, hr⟩ : ∃ r, (if 1000 < m then 1000 else m) = r := ⟨_, rfl⟩
  have HR : Hid (near n = r) := by
    show near n = r
    unfold near
    rw [hm, hr]
  go_enter Try.func10, Try.ntmps10
  go_wp2
  go_ret
  exact ⟨ret_int HR.out.symm, rfl⟩

theorem few_any (a : Option Addr) (len cap m : Nat) (hle : len ≤ cap) (hm : min len 20 = m) (w : World) :
    Calls Try.prog 9 #[.slice a len cap] w fun e w' => e = .returned (.slice a m cap) ∧ w' = w := by
  have hm2 : (if (20 : Int) < (len : Int) then (20 : Int) else (len : Int)) = (m : Int) := by split <;> omega
  have hmc : m ≤ cap := by omega
  clear hm
  go_enter Try.func9, Try.ntmps9
  go_wp2
  go_ret
  exact ⟨rfl, rfl⟩

end Go.Proofs.Ytkppicocjipakaa
