/-
  The walk of SatMany: it returns true and turns nothing that was there. Conditions: the slice's cells read as the listed ints; its length is at most its capacity, and that at most the greatest length.
-/
import Derived.Test.YtjpfgjjohaepcaaSums
namespace Go.Proofs.Ytjpfgjjohaepcaa
open Go.ChangeShapes Go.WideShapes Go.ChangeAt Go.RowKit

theorem Reads.take {w : World} {a : Option Addr} {len : Nat} {zs : List Int} (h : Reads w a len zs) {n : Nat} (hn : n ≤ len) : Reads w a n (zs.take n) := by
  obtain ⟨hz, hc⟩ := h
  refine ⟨by rw [List.length_take]; omega, fun j hj => ?_⟩
  obtain ⟨b, off, ha, hcell⟩ := hc j (by omega)
  refine ⟨b, off, ha, ?_⟩
  rw [hcell]
  simp [hj]

theorem Reads.below {w w' : World} {a : Option Addr} {len : Nat} {zs : List Int} {B : Nat} (h : Reads w a len zs) (hb : Below B w w') (ha : 0 < len → ∀ p, a = some p → p.block < B) : Reads w' a len zs := by
  refine ⟨h.1, fun j hj => ?_⟩
  obtain ⟨b, off, e, hcell⟩ := h.2 j hj
  have hlt : b < B := ha (by omega) _ e
  exact ⟨b, off, e, (hb.cell (p := ⟨b, off + j, none⟩) hlt).trans hcell⟩

theorem Reads.none (w : World) : Reads w none 0 [] := ⟨rfl, fun j hj => absurd hj (Nat.not_lt_zero j)⟩

theorem owns_reads {w : World} {B n : Nat} {v : Value} {ys : List Int} (h : w.ownsRow B 3 1 v n (ys.map (Value.int .i64))) :
    ∃ a cap, v = .slice a n cap ∧ n ≤ maxLen ∧ Reads w a n ys := by
  have h0 := h
  obtain ⟨hl, hcase⟩ := h
  rw [List.length_map, Nat.mul_one] at hl
  rcases hcase with ⟨rfl, rfl⟩ | ⟨g, cap, cur, rfl, _, _, hn, hcap, _, _⟩
  · exact ⟨_, _, rfl, Nat.zero_le _, hl, fun j hj => absurd hj (Nat.not_lt_zero j)⟩
  · refine ⟨_, _, rfl, Nat.le_trans hn hcap, hl, fun j hj => ⟨g, 0, rfl, ?_⟩⟩
    rw [Nat.zero_add, h0.cellAt j (by omega)]
    simp [hl, hj]

theorem back_step {w : World} {B n j nn : Nat} {v : Value} {ys : List Int} {xs : List Value} {x : Int} (h : w.ownsRow B 3 1 v nn xs) (hl : ys.length = n) (hj : j + 1 ≤ n) (hx : x = ys.getD j 0)
    (hn : nn = n - j) (hxs : xs = (ys.drop (j + 1)).reverse.map (Value.int .i64) ++ [.int .i64 x]) :
    w.ownsRow B 3 1 v (n - j) ((ys.drop j).reverse.map (Value.int .i64)) := by
  have e2 : ys.drop j = x :: ys.drop (j + 1) := by
    rw [List.drop_eq_getElem_cons (by omega), hx]
    simp [List.getD, List.getElem?_eq_getElem (show j < ys.length by omega)]
  subst hn hxs
  rw [e2]
  simpa using h

theorem Try.info3 : (Try.prog.info? 3).map (fun i => (i.zero, i.size, i.bytes)) = some (some (.int .i64 0), 1, 8) := by kernel_rfl

set_option maxHeartbeats 400000 in
theorem many_any (a : Option Addr) (len cap : Nat) (zs : List Int) (w : World) (hlc : len ≤ cap) (hcap : cap ≤ maxLen) (hr : Reads w a len zs) (ha : 0 < len → ∀ p, a = some p → p.block < w.heap.size) :
    Calls Try.prog 4 #[.slice a len cap] w fun e w' => e = .returned (.bool true) ∧ Below w.heap.size w w' := by
  unfold maxLen at hcap
  obtain ⟨i0, hi, hz0, hz1, hz2⟩ := info_parts Try.info3
  by_cases h40 : len ≤ 40
  · have hrn := hr.take (n := len) (by omega)
    clear hr
    generalize zs.take len = ys at hrn
    clear zs
    have RN : Hid (Reads w a len ys) := hrn
    have HA : Hid (0 < len → ∀ p, a = some p → p.block < w.heap.size) := ha
    have hyl := hrn.1
    clear hrn ha
    go_enter Try.func4, Try.ntmps4
    go_wp2_with (first
    | (go_at_call 9; refine (lives_any _).mono ?_; rintro e w' ⟨rfl, rfl⟩))
    go_loopw [3, 4] (fun v i wr => ∃ m : Nat, m ≤ len ∧ i = .int .i64 ((m : Int) - 1) ∧ wr.ownsRow w.heap.size 3 1 v (len - m) ((ys.drop m).reverse.map (Value.int .i64)) ∧ Below w.heap.size w wr)
      (fun _ i _ => (intOf i + 1).toNat)
    case atStart => exact ⟨len, Nat.le_refl _, rfl, by rw [List.drop_of_length_le (by omega), Nat.sub_self]; exact World.ownsRow_nil _ _ _ _, (Below.refl _ _).alloc (Nat.le_refl _) _⟩
    case round =>
      obtain ⟨m, hm, rfl, hown, hnx⟩ := hrel
      cases m with
      | zero =>
        obtain ⟨a', cap', rfl, hbl, hb⟩ := owns_reads hown
        have hb' : Reads wr a' len ys.reverse := hb
        have hr' : Reads wr a len ys := RN.out.below hnx (fun _ => HA.out (by omega))
        have h0 : Reads wr none 0 [] := Reads.none wr
        have hrev := sumL_reverse ys
        clear hb hown
        have e0 : ((0 : Nat) : Int) - 1 = -1 := rfl
        rw [e0]
        have z0 : sumL 0 [] = 0 := rfl
        go_wp2_with (first
        | (go_at_call 20; refine (rsum_any _ _ _ _ _ (by unfold maxLen; omega) (by assumption)).mono ?_; rintro e w' ⟨rfl, rfl⟩)
        | (go_at_call 19; refine (sum_any _ _ _ _ _ (by unfold maxLen; omega) (by assumption)).mono ?_; rintro e w' ⟨rfl, rfl⟩))
        go_ret
        exact ⟨rfl, hnx⟩
      | succ j =>
        have ej : ((j + 1 : Nat) : Int) - 1 = j := by omega
        rw [ej]
        obtain ⟨b, off, rfl, hcell0⟩ := RN.out.2 j (by omega)
        have hblt : b < w.heap.size := HA.out (by omega) _ rfl
        have hcell := (hnx.cell (p := ⟨b, off + j, none⟩) hblt).trans hcell0
        clear hcell0
        obtain ⟨x, hx⟩ : ∃ x, x = ys.getD j 0 := ⟨_, rfl⟩
        rw [← hx] at hcell
        have HX : Hid (x = ys.getD j 0) := hx
        clear hx
        go_wp2_with (first
        | (at_builtin; refine wpList_append_own _ rfl _ _ 26 rfl w.heap.size 3 i0 (.int .i64 0) 1 8 Try.underlying26 hi hz0 hz1 hz2 rfl (by decide) _ _ _ rfl (hown.alloc _) ⟨wr.heap.size, 0, none⟩ 1 1 [.int .i64 x] rfl rfl ?c1 ?c2 ?c3 ?c4 ?c5 ?_))
        case c1 =>
          intro j u hj
          match j, hj with
          | 0, hj => simp at hj; subst hj; simp [Addr.add]
        case c2 => intro u hu; simp at hu; subst hu; rfl
        case c3 => unfold maxLen; omega
        case c4 => omega
        case c5 => have := hnx.size; simp; omega
        intro v' w1 hown' hgrow _
        have hown2 := back_step hown' hyl hm HX.out (by omega) (by simp)
        have hnx2 : Below w.heap.size w w1 := (hnx.alloc hnx.size _).grown hgrow (by have := hnx.size; simp; omega) (fun k hk => (hown.lt k hk).1)
        clear hown' hgrow hown hnx hcell
        go_wp2
        go_roundw
        case rel => exact ⟨j, by omega, by go_num, hown2, hnx2⟩
        case measure => simp [intOf]
  · have hrn := hr.take (n := 40) (by omega)
    clear hr
    generalize zs.take 40 = ys at hrn
    clear zs
    have RN : Hid (Reads w a 40 ys) := hrn
    have HA : Hid (0 < len → ∀ p, a = some p → p.block < w.heap.size) := ha
    have hyl := hrn.1
    clear hrn ha
    go_enter Try.func4, Try.ntmps4
    go_wp2_with (first
    | (go_at_call 9; refine (lives_any _).mono ?_; rintro e w' ⟨rfl, rfl⟩))
    go_loopw [3, 4] (fun v i wr => ∃ m : Nat, m ≤ 40 ∧ i = .int .i64 ((m : Int) - 1) ∧ wr.ownsRow w.heap.size 3 1 v (40 - m) ((ys.drop m).reverse.map (Value.int .i64)) ∧ Below w.heap.size w wr)
      (fun _ i _ => (intOf i + 1).toNat)
    case atStart => exact ⟨40, Nat.le_refl _, rfl, by rw [List.drop_of_length_le (by omega), Nat.sub_self]; exact World.ownsRow_nil _ _ _ _, (Below.refl _ _).alloc (Nat.le_refl _) _⟩
    case round =>
      obtain ⟨m, hm, rfl, hown, hnx⟩ := hrel
      cases m with
      | zero =>
        obtain ⟨a', cap', rfl, hbl, hb⟩ := owns_reads hown
        have hb' : Reads wr a' 40 ys.reverse := hb
        have hr' : Reads wr a 40 ys := RN.out.below hnx (fun _ => HA.out (by omega))
        have h0 : Reads wr none 0 [] := Reads.none wr
        have hrev := sumL_reverse ys
        clear hb hown
        have e0 : ((0 : Nat) : Int) - 1 = -1 := rfl
        rw [e0]
        have z0 : sumL 0 [] = 0 := rfl
        go_wp2_with (first
        | (go_at_call 20; refine (rsum_any _ _ _ _ _ (by unfold maxLen; omega) (by assumption)).mono ?_; rintro e w' ⟨rfl, rfl⟩)
        | (go_at_call 19; refine (sum_any _ _ _ _ _ (by unfold maxLen; omega) (by assumption)).mono ?_; rintro e w' ⟨rfl, rfl⟩))
        go_ret
        exact ⟨rfl, hnx⟩
      | succ j =>
        have ej : ((j + 1 : Nat) : Int) - 1 = j := by omega
        rw [ej]
        obtain ⟨b, off, rfl, hcell0⟩ := RN.out.2 j (by omega)
        have hblt : b < w.heap.size := HA.out (by omega) _ rfl
        have hcell := (hnx.cell (p := ⟨b, off + j, none⟩) hblt).trans hcell0
        clear hcell0
        obtain ⟨x, hx⟩ : ∃ x, x = ys.getD j 0 := ⟨_, rfl⟩
        rw [← hx] at hcell
        have HX : Hid (x = ys.getD j 0) := hx
        clear hx
        go_wp2_with (first
        | (at_builtin; refine wpList_append_own _ rfl _ _ 26 rfl w.heap.size 3 i0 (.int .i64 0) 1 8 Try.underlying26 hi hz0 hz1 hz2 rfl (by decide) _ _ _ rfl (hown.alloc _) ⟨wr.heap.size, 0, none⟩ 1 1 [.int .i64 x] rfl rfl ?c1 ?c2 ?c3 ?c4 ?c5 ?_))
        case c1 =>
          intro j u hj
          match j, hj with
          | 0, hj => simp at hj; subst hj; simp [Addr.add]
        case c2 => intro u hu; simp at hu; subst hu; rfl
        case c3 => unfold maxLen; omega
        case c4 => omega
        case c5 => have := hnx.size; simp; omega
        intro v' w1 hown' hgrow _
        have hown2 := back_step hown' hyl hm HX.out (by omega) (by simp)
        have hnx2 : Below w.heap.size w w1 := (hnx.alloc hnx.size _).grown hgrow (by have := hnx.size; simp; omega) (fun k hk => (hown.lt k hk).1)
        clear hown' hgrow hown hnx hcell
        go_wp2
        go_roundw
        case rel => exact ⟨j, by omega, by go_num, hown2, hnx2⟩
        case measure => simp [intOf]

end Go.Proofs.Ytjpfgjjohaepcaa
