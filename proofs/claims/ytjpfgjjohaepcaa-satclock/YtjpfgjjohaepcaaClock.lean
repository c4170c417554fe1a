/-
  The walk of SatClock: it returns true and turns nothing that was there. Conditions: the slice's cells read as the listed ints; its length is at most its capacity, and that at most the greatest length.
-/
import Derived.Test.YtjpfgjjohaepcaaMany
import Derived.Deep.QuietTactic
import Derived.BigQuiet
namespace Go.Proofs.Ytjpfgjjohaepcaa
open Go.ChangeShapes Go.WideShapes Go.ChangeAt Go.RowKit

theorem go_some (p : Addr) (n x : Int) (w : World) (hp : w.cell? p = some (.int .i64 x)) (hf : w.frozen? p = false) :
    Calls Try.prog 23 #[.pointer (some p), .int .i64 n] w fun e w' => e = .returned (.int .i64 (add x n)) ∧ w' = w.setCell p (.int .i64 (add x n)) := by
  have hs := World.cell?_setCell_same w p (.int .i64 (add x n)) hp
  go_enter Try.func23, Try.ntmps23
  go_wp2_with (go_at_call 12; refine (add_any _ _ _).mono ?_; rintro e w' ⟨rfl, rfl⟩)
  go_ret
  exact ⟨rfl, rfl⟩

theorem sumL_lo (s : Int) (l : List Int) (h0 : 0 ≤ s) (h1 : s ≤ 1099511627776) : 0 ≤ sumL s l ∧ sumL s l ≤ 1099511627776 := by
  have := tot_lo l
  rw [sumL_eq l s h0 h1]
  omega

theorem add_ge (s x : Int) (h0 : 0 ≤ s) (h1 : s ≤ 1099511627776) : s ≤ add s x ∧ add s x ≤ 1099511627776 := by
  have c := cut_mid h0 h1
  have l1 := cut_lo x
  have k := cut_cases (cut s + cut x)
  have f : add s x = cut (cut s + cut x) := rfl
  omega

theorem clock_end (at_ : Int) (l : List Int) : sumL (cut at_) l = add at_ (sumL 0 l) := by
  have a1 := cut_lo at_
  have a2 := cut_hi at_
  have t := tot_lo l
  have s := sumL_eq l 0 (by omega) (by omega)
  have b := sumL_lo 0 l (by omega) (by omega)
  have c := cut_mid b.1 b.2
  have f : add at_ (sumL 0 l) = cut (cut at_ + cut (sumL 0 l)) := rfl
  have k := cut_cases (cut at_ + cut (sumL 0 l))
  rw [sumL_eq l _ a1 a2]
  omega

set_option linter.unusedVariables false in
set_option maxHeartbeats 400000 in
theorem clock_short (t : Int) (a : Option Addr) (len cap : Nat) (zs : List Int) (w : World) (h40 : len ≤ 40) (hlc : len ≤ cap) (hcap : cap ≤ maxLen) (hr : Reads w a len zs) (ha : 0 < len → ∀ p, a = some p → p.block < w.heap.size) :
    Calls Try.prog 5 #[.int .i64 t, .slice a len cap] w fun e w' => e = .returned (.bool true) ∧ Below w.heap.size w w' := by
  unfold maxLen at hcap
  have hrn := hr.take (n := len) (by omega)
  clear hr
  generalize zs.take len = ys at hrn
  clear zs
  have RN : Hid (Reads w a len ys) := hrn
  have HA : Hid (0 < len → ∀ p, a = some p → p.block < w.heap.size) := ha
  have hyl := hrn.1
  clear hrn ha
  go_enter Try.func5, Try.ntmps5
  go_wp2_with (first
  | (go_at_call 9; refine (lives_any _).mono ?_; rintro e w' ⟨rfl, rfl⟩)
  | (go_at_call 21; refine (new_any _ _).mono ?_; rintro e w' ⟨rfl, rfl⟩))
  go_loopw [6] (fun i wr => ∃ k : Nat, k ≤ len ∧ i = .int .i64 k ∧ wr.cell? ⟨w.heap.size + 1, 0, none⟩ = some (.int .i64 (sumL (cut t) (ys.take k))) ∧ wr.frozen? ⟨w.heap.size + 1, 0, none⟩ = false ∧ Below w.heap.size w wr)
    (fun i _ => len - (intOf i).toNat)
  case atStart => exact ⟨0, Nat.zero_le _, rfl, World.cell?_alloc_at _ _ _ _ (by simp), World.frozen?_alloc_at _ _ _ _ (by simp), ((Below.refl _ _).alloc (Nat.le_refl _) _).alloc (by simp) _⟩
  case round =>
    obtain ⟨k, hk, rfl, hp, hf, hnx⟩ := hrel
    have hS := sumL_lo (cut t) (ys.take k) (cut_lo t) (cut_hi t)
    by_cases hlt : k < len
    · obtain ⟨b, off, rfl, hcell0⟩ := RN.out.2 k hlt
      have hblt : b < w.heap.size := HA.out (by omega) _ rfl
      have hcell := (hnx.cell (p := ⟨b, off + k, none⟩) hblt).trans hcell0
      clear hcell0
      obtain ⟨x, hx⟩ : ∃ x, x = ys.getD k 0 := ⟨_, rfl⟩
      have hstep := sumL_take (cut t) ys k (by omega)
      rw [← hx] at hcell hstep
      obtain ⟨S, hSe⟩ : ∃ S, S = sumL (cut t) (ys.take k) := ⟨_, rfl⟩
      rw [← hSe] at hp hS hstep
      have HS : Hid (sumL (cut t) (ys.take (k + 1)) = add S x) := hstep
      have hge := add_ge S x hS.1 hS.2
      have hp1 := World.cell?_setCell_same wr ⟨w.heap.size + 1, 0, none⟩ (.int .i64 (add S x)) hp
      have hc1 : (wr.setCell ⟨w.heap.size + 1, 0, none⟩ (.int .i64 (add S x))).cell? ⟨b, off + k, none⟩ = some (.int .i64 x) :=
        (World.cell?_setCell_other _ _ _ _ (by simp)).trans hcell
      have hf1 : (wr.setCell ⟨w.heap.size + 1, 0, none⟩ (.int .i64 (add S x))).frozen? ⟨w.heap.size + 1, 0, none⟩ = false := (World.frozen?_setCell _ _ _ _).trans hf
      have hnx1 : Below w.heap.size w (wr.setCell ⟨w.heap.size + 1, 0, none⟩ (.int .i64 (add S x))) := hnx.setCell (Nat.le_succ _) _
      have G1 := hge.1
      have G2 := hge.2
      clear hx hstep hSe hge hS
      go_wp2_with (first
      | (go_at_call 22; refine (now_some _ _ _ (by assumption)).mono ?_; rintro e w' ⟨rfl, rfl⟩)
      | (go_at_call 23; refine (go_some _ _ _ _ (by assumption) (by assumption)).mono ?_; rintro e w' ⟨rfl, rfl⟩)
      | (go_at_call 12; refine (add_any _ _ _).mono ?_; rintro e w' ⟨rfl, rfl⟩))
      go_roundw
      case rel => exact ⟨k + 1, by omega, by go_num, by rw [HS.out]; exact hp1, hf1, hnx1⟩
      case measure => simp [intOf]; omega
    · have hkn : k = len := by omega
      subst hkn
      have hr' : Reads wr a k ys := RN.out.below hnx (fun _ => HA.out (by omega))
      have hr2 : ∀ n, Reads (wr.drewN n) a k ys := fun n => ⟨hr'.1, hr'.2⟩
      have hp2 : ∀ n, (wr.drewN n).cell? ⟨w.heap.size + 1, 0, none⟩ = some (.int .i64 (sumL (cut t) (ys.take k))) := fun n => hp
      have hend : sumL (cut t) (ys.take k) = add t (sumL 0 ys) := by rw [List.take_of_length_le (by omega)]; exact clock_end t ys
      have HE : Hid (sumL (cut t) (ys.take k) = add t (sumL 0 ys)) := hend
      clear hend hS
      go_wp2
      go_quiet (first
      | (go_at_call 22; exact Calls.quiet_of_same (now_some _ _ _ (hp2 _)))
      | (go_at_call 19; exact Calls.quiet_of_same (sum_any _ _ _ _ _ (by unfold maxLen; omega) (hr2 _)))
      | (go_at_call 12; exact Calls.quiet_of_same (add_any _ _ _)))
      go_wp2
      go_ret
      exact ⟨ret_bool (by rw [HE.out]; simp), hnx.os, hnx.tape, hnx.output, hnx.size, hnx.block⟩

set_option linter.unusedVariables false in
set_option maxHeartbeats 400000 in
theorem clock_long (t : Int) (a : Option Addr) (len cap : Nat) (zs : List Int) (w : World) (h40 : 40 < len) (hlc : len ≤ cap) (hcap : cap ≤ maxLen) (hr : Reads w a len zs) (ha : 0 < len → ∀ p, a = some p → p.block < w.heap.size) :
    Calls Try.prog 5 #[.int .i64 t, .slice a len cap] w fun e w' => e = .returned (.bool true) ∧ Below w.heap.size w w' := by
  unfold maxLen at hcap
  have hrn := hr.take (n := 40) (by omega)
  clear hr
  generalize zs.take 40 = ys at hrn
  clear zs
  have RN : Hid (Reads w a 40 ys) := hrn
  have HA : Hid (0 < len → ∀ p, a = some p → p.block < w.heap.size) := ha
  have hyl := hrn.1
  clear hrn ha
  go_enter Try.func5, Try.ntmps5
  go_wp2_with (first
  | (go_at_call 9; refine (lives_any _).mono ?_; rintro e w' ⟨rfl, rfl⟩)
  | (go_at_call 21; refine (new_any _ _).mono ?_; rintro e w' ⟨rfl, rfl⟩))
  go_loopw [6] (fun i wr => ∃ k : Nat, k ≤ 40 ∧ i = .int .i64 k ∧ wr.cell? ⟨w.heap.size + 1, 0, none⟩ = some (.int .i64 (sumL (cut t) (ys.take k))) ∧ wr.frozen? ⟨w.heap.size + 1, 0, none⟩ = false ∧ Below w.heap.size w wr)
    (fun i _ => 40 - (intOf i).toNat)
  case atStart => exact ⟨0, Nat.zero_le _, rfl, World.cell?_alloc_at _ _ _ _ (by simp), World.frozen?_alloc_at _ _ _ _ (by simp), ((Below.refl _ _).alloc (Nat.le_refl _) _).alloc (by simp) _⟩
  case round =>
    obtain ⟨k, hk, rfl, hp, hf, hnx⟩ := hrel
    have hS := sumL_lo (cut t) (ys.take k) (cut_lo t) (cut_hi t)
    by_cases hlt : k < 40
    · obtain ⟨b, off, rfl, hcell0⟩ := RN.out.2 k hlt
      have hblt : b < w.heap.size := HA.out (by omega) _ rfl
      have hcell := (hnx.cell (p := ⟨b, off + k, none⟩) hblt).trans hcell0
      clear hcell0
      obtain ⟨x, hx⟩ : ∃ x, x = ys.getD k 0 := ⟨_, rfl⟩
      have hstep := sumL_take (cut t) ys k (by omega)
      rw [← hx] at hcell hstep
      obtain ⟨S, hSe⟩ : ∃ S, S = sumL (cut t) (ys.take k) := ⟨_, rfl⟩
      rw [← hSe] at hp hS hstep
      have HS : Hid (sumL (cut t) (ys.take (k + 1)) = add S x) := hstep
      have hge := add_ge S x hS.1 hS.2
      have hp1 := World.cell?_setCell_same wr ⟨w.heap.size + 1, 0, none⟩ (.int .i64 (add S x)) hp
      have hc1 : (wr.setCell ⟨w.heap.size + 1, 0, none⟩ (.int .i64 (add S x))).cell? ⟨b, off + k, none⟩ = some (.int .i64 x) :=
        (World.cell?_setCell_other _ _ _ _ (by simp)).trans hcell
      have hf1 : (wr.setCell ⟨w.heap.size + 1, 0, none⟩ (.int .i64 (add S x))).frozen? ⟨w.heap.size + 1, 0, none⟩ = false := (World.frozen?_setCell _ _ _ _).trans hf
      have hnx1 : Below w.heap.size w (wr.setCell ⟨w.heap.size + 1, 0, none⟩ (.int .i64 (add S x))) := hnx.setCell (Nat.le_succ _) _
      have G1 := hge.1
      have G2 := hge.2
      clear hx hstep hSe hge hS
      go_wp2_with (first
      | (go_at_call 22; refine (now_some _ _ _ (by assumption)).mono ?_; rintro e w' ⟨rfl, rfl⟩)
      | (go_at_call 23; refine (go_some _ _ _ _ (by assumption) (by assumption)).mono ?_; rintro e w' ⟨rfl, rfl⟩)
      | (go_at_call 12; refine (add_any _ _ _).mono ?_; rintro e w' ⟨rfl, rfl⟩))
      go_roundw
      case rel => exact ⟨k + 1, by omega, by go_num, by rw [HS.out]; exact hp1, hf1, hnx1⟩
      case measure => simp [intOf]; omega
    · have hkn : k = 40 := by omega
      subst hkn
      have hr' : Reads wr a 40 ys := RN.out.below hnx (fun _ => HA.out (by omega))
      have hr2 : ∀ n, Reads (wr.drewN n) a 40 ys := fun n => ⟨hr'.1, hr'.2⟩
      have hp2 : ∀ n, (wr.drewN n).cell? ⟨w.heap.size + 1, 0, none⟩ = some (.int .i64 (sumL (cut t) (ys.take 40))) := fun n => hp
      have hend : sumL (cut t) (ys.take 40) = add t (sumL 0 ys) := by rw [List.take_of_length_le (by omega)]; exact clock_end t ys
      have HE : Hid (sumL (cut t) (ys.take 40) = add t (sumL 0 ys)) := hend
      clear hend hS
      go_wp2
      go_quiet (first
      | (go_at_call 22; exact Calls.quiet_of_same (now_some _ _ _ (hp2 _)))
      | (go_at_call 19; exact Calls.quiet_of_same (sum_any _ _ _ _ _ (by unfold maxLen; omega) (hr2 _)))
      | (go_at_call 12; exact Calls.quiet_of_same (add_any _ _ _)))
      go_wp2
      go_ret
      exact ⟨ret_bool (by rw [HE.out]; simp), hnx.os, hnx.tape, hnx.output, hnx.size, hnx.block⟩

theorem clock_any (t : Int) (a : Option Addr) (len cap : Nat) (zs : List Int) (w : World) (hlc : len ≤ cap) (hcap : cap ≤ maxLen) (hr : Reads w a len zs) (ha : 0 < len → ∀ p, a = some p → p.block < w.heap.size) :
    Calls Try.prog 5 #[.int .i64 t, .slice a len cap] w fun e w' => e = .returned (.bool true) ∧ Below w.heap.size w w' := by
  by_cases h : len ≤ 40
  · exact clock_short t a len cap zs w h hlc hcap hr ha
  · exact clock_long t a len cap zs w (by omega) hlc hcap hr ha

end Go.Proofs.Ytjpfgjjohaepcaa
