/-
  The document's own answers, each as a contract: Capacity, Without, May, Spare, First. Conditions: a slice reads as the listed ints, at most 20; the connections of a host lie within 1000.
-/
import Derived.Test.YtkppicocjipakaaApp
namespace Go.Proofs.Ytkppicocjipakaa
open Go.ChangeShapes Go.WideShapes Go.ChangeAt Go.RowKit

theorem pos_lo (e : Int) : 0 ≤ pos e := by unfold pos; split <;> omega
theorem pos_hi {e : Int} (h : e ≤ 1000) : pos e ≤ 1000 := by unfold pos; split <;> omega
theorem pos_pos {e : Int} (h : 0 < e) : pos e = e := by unfold pos; rw [if_pos h]
theorem pos_not {e : Int} (h : ¬ 0 < e) : pos e = 0 := by unfold pos; rw [if_neg h]
theorem mul_bd {n : Nat} {p : Int} (hn : n ≤ 20) (h0 : 0 ≤ p) (h1 : p ≤ 1000) : 0 ≤ (n : Int) * p ∧ (n : Int) * p ≤ 20000 := by
  refine ⟨Int.mul_nonneg (by omega) h0, ?_⟩
  have h2 := mul_le (h := (n : Int)) (k := 20) (e := p) (by omega) h0
  omega

set_option maxHeartbeats 1000000 in
theorem rcap_any (a : Option Addr) (len cap : Nat) (zs : List Int) (e : Int) (he : e ≤ 1000) (h20 : len ≤ 20) (w : World) (hr : IntsAt w a len cap zs) :
    Calls Try.prog 14 #[.slice a len cap, .int .i64 e] w fun r w' => r = .returned (.int .i64 ((act zs : Nat) * pos e)) ∧ w' = w := by
  obtain ⟨hz, hle, hcap, hc⟩ := hr
  unfold maxLen at hcap
  go_enter Try.func14, Try.ntmps14
  go_wp2
  go_loop [5, 6] (fun c i => ∃ k : Nat, k ≤ len ∧ i = .int .i64 k ∧ c = .int .i64 ((act (zs.take k) : Nat) * pos e)) (fun _ i => len - (intOf i).toNat)
  case atStart => exact ⟨0, Nat.zero_le _, rfl, by simp [act]⟩
  case round =>
    obtain ⟨k, hk, rfl, rfl⟩ := hrel
    have hnk : act (zs.take k) ≤ 20 := by have := act_le (zs.take k); rw [List.length_take] at this; omega
    by_cases hlt : k < len
    · obtain ⟨b, off, rfl, _, hcell⟩ := hc k hlt
      have hs := take_snoc zs k (by omega)
      obtain ⟨x, hx⟩ : ∃ x, zs.getD k 0 = x := ⟨_, rfl⟩
      rw [hx] at hcell hs
      obtain ⟨q0, q1⟩ := mul_bd hnk (pos_lo e) (pos_hi he)
      obtain ⟨M, hM⟩ : ∃ M, (act (zs.take k) : Int) * pos e = M := ⟨_, rfl⟩
      rw [hM] at q0 q1
      by_cases h0 : x = 0
      · by_cases h1 : 0 < e
        · have HS : Hid ((act (zs.take (k + 1)) : Int) * pos e = M + e) := by
            show (act (zs.take (k + 1)) : Int) * pos e = M + e
            rw [hs, act_yes _ h0, ← hM, pos_pos h1, Int.natCast_add, Int.add_mul]
            simp
          subst h0
          rw [hM]
          clear hc hx hs hM
          go_wp2
          go_round
          case rel => exact ⟨k + 1, by omega, by go_num, by rw [HS.out]⟩
          case measure => simp [intOf]; omega
        · have HS : Hid ((act (zs.take (k + 1)) : Int) * pos e = M) := by
            show (act (zs.take (k + 1)) : Int) * pos e = M
            rw [← hM, pos_not h1]
            simp
          subst h0
          rw [hM]
          clear hc hx hs hM
          go_wp2
          go_round
          case rel => exact ⟨k + 1, by omega, by go_num, by rw [HS.out]⟩
          case measure => simp [intOf]; omega
      · have HS : Hid ((act (zs.take (k + 1)) : Int) * pos e = M) := by
          show (act (zs.take (k + 1)) : Int) * pos e = M
          rw [hs, act_no _ h0, hM]
        rw [hM]
        clear hc hx hs hM
        go_wp2
        go_round
        case rel => exact ⟨k + 1, by omega, by go_num, by rw [HS.out]⟩
        case measure => simp [intOf]; omega
    · have e : zs.take k = zs := List.take_of_length_le (by omega)
      rw [e]
      clear e hc hnk
      go_wp2
      go_ret
      exact ⟨rfl, rfl⟩

set_option maxHeartbeats 1000000 in
set_option maxRecDepth 100000 in
theorem rwithout_any (a : Option Addr) (len cap : Nat) (zs : List Int) (i e : Int) (he : e ≤ 1000) (h20 : len ≤ 20) (w : World) (hr : IntsAt w a len cap zs) :
    Calls Try.prog 18 #[.slice a len cap, .int .i64 i, .int .i64 e] w fun r w' => r = .returned (.int .i64 ((act (rm zs i) : Nat) * pos e)) ∧ Below w.heap.size w w' := by
  have hz := hr.hlen
  have hle := hr.hle
  have hcap := hr.hcap
  unfold maxLen at hcap
  have HR : Hid _ := hr
  have HE : Hid _ := he
  clear hr he
  go_enter Try.func18, Try.ntmps18
  go_wp2
  go_loopw [7, 8] (fun v c wr => ∃ (k : Nat) (l : List Int) (n : Nat), k ≤ len ∧ c = .int .i64 k ∧ n ≤ k ∧ Hid (rm (zs.take k) i = l ∧ l.length = n) ∧ wr.ownsRow w.heap.size 3 1 v n (ic l) ∧ Below w.heap.size w wr) (fun _ i _ => len - (intOf i).toNat)
  case atStart => exact ⟨0, [], 0, Nat.zero_le _, rfl, Nat.le_refl _, ⟨rfl, rfl⟩, World.ownsRow_nil _ _ _ _, Below.refl _ _⟩
  case round =>
    obtain ⟨k, l, n, hk, rfl, hlk, hcut, hown, hbel⟩ := hrel
    by_cases hlt : k < len
    · obtain ⟨b, off, rfl, _, hcell⟩ := (HR.out.below hbel).at_ k hlt
      have hs := take_snoc zs k (by omega)
      obtain ⟨x, hx⟩ : ∃ x, zs.getD k 0 = x := ⟨_, rfl⟩
      rw [hx] at hcell hs
      have hr1 := rm_snoc (zs.take k) x i
      rw [← hs, hcut.out.1, List.length_take, Nat.min_eq_left (by omega)] at hr1
      by_cases hi : (k : Int) = i
      · rw [if_pos hi] at hr1
        have HS : Hid (rm (zs.take (k + 1)) i = l ∧ l.length = n) := ⟨hr1, hcut.out.2⟩
        clear hs hx hr1 hcut
        go_wp2
        go_roundw
        case rel => exact ⟨k + 1, l, n, by omega, by go_num, by omega, HS, hown, hbel⟩
        case measure => simp [intOf]; omega
      · rw [if_neg hi] at hr1
        have HS : Hid (rm (zs.take (k + 1)) i = l ++ [x] ∧ (l ++ [x]).length = n + 1) := ⟨hr1, by simp [hcut.out.2]⟩
        clear hs hx hr1 hcut
        have HB : Hid _ := hbel
        go_wp2_with (at_builtin; refine wpList_ints _ rfl _ _ rfl w.heap.size _ n l [x] (l ++ [x]) rfl (hown.alloc _) _ 1 1 rfl (one_at wr x) (fun h => by cases h) (by omega) (by have := HB.out.size; simp; omega) rfl (n + 1) rfl ?_)
        intro v5 w5 hown5 hgr5
        have hb5 : Below w.heap.size w w5 := (HB.out.alloc HB.out.size _).grown hgr5 (by have := HB.out.size; simp; omega) (fun j hj => (hown.lt j hj).1)
        clear hgr5 hown hbel HB
        go_wp2
        go_roundw
        case rel => exact ⟨k + 1, l ++ [x], n + 1, by omega, by go_num, by omega, HS, hown5, hb5⟩
        case measure => simp [intOf]; omega
    · have e2 : zs.take k = zs := List.take_of_length_le (by omega)
      have h2 := hcut.out
      rw [e2] at h2
      obtain ⟨rfl, h3⟩ := h2
      obtain ⟨a5, cap5, rfl, hD5, -⟩ := owns_ints hown
      clear hcut hown e2 h3
      go_wp2_with fail
      refine (rcap_any _ _ _ _ _ HE.out (by omega) _ hD5).mono ?_
      rintro e1 w1 ⟨rfl, hw⟩
      obtain rfl : wr = w1 := hw.symm
      go_wp2
      go_ret
      exact ⟨rfl, hbel⟩

end Go.Proofs.Ytkppicocjipakaa
