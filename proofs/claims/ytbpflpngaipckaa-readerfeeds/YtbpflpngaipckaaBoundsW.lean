/-
  The walk of ReaderBounds: it returns true and turns nothing that was there. Conditions: the slice reads as texts, each no longer than the greatest length.
-/
import Derived.Test.YtbpflpngaipckaaLives
import Derived.Test.YtbpflpngaipckaaFew
import Derived.Test.YtbpflpngaipckaaGoodR
namespace Go.Proofs.Ytbpflpngaipckaa
open Go.ChangeShapes Go.WideShapes Go.ChangeAt Go.RowKit

theorem mod_k (x : Int) : ∃ K : Nat, K ≤ 59 ∧ wrap64 ((IntKind.u64.wrap x).tmod 60) = K := by
  have h0 : 0 ≤ IntKind.u64.wrap x := by rw [IntKind.wrap_u64]; omega
  refine ⟨((IntKind.u64.wrap x) % 60).toNat, by omega, ?_⟩
  rw [Int.tmod_eq_emod_of_nonneg h0]
  unfold wrap64
  omega

/-- few, its texts by a name. -/
theorem few_named (a : Option Addr) (len cap : Nat) (ss : List ByteArray) (w : World) (h : StrsAt w a len cap ss) (hsz : ∀ s ∈ ss, s.size ≤ maxLen) :
    Calls Try.prog 12 #[.slice a len cap] w fun e w' => ∃ a' n c' l, e = .returned (.slice a' n c') ∧ n ≤ 30 ∧ (∀ j, (l.getD j ⟨#[]⟩).size ≤ 60) ∧ StrsAt w' a' n c' l ∧ (∀ x, a' = some x → w.heap.size ≤ x.block) ∧ Below w.heap.size w w' := by
  refine (few_any a len cap ss w h hsz).mono ?_
  rintro e w' ⟨v, n, l, rfl, hn, hl, h60, ho, hb⟩
  obtain ⟨a', c', rfl, hS, hx⟩ := owns_strs ho
  refine ⟨a', n, c', l, rfl, hn, fun j => ?_, hS, fun x e => (hx x e).1, hb⟩
  by_cases hj : j < l.length
  · have e : l.getD j ⟨#[]⟩ = l[j] := by simp [List.getD, hj]
    rw [e]
    exact h60 _ (List.getElem_mem hj)
  · have e : l.getD j ⟨#[]⟩ = ⟨#[]⟩ := by simp [List.getD, hj]
    rw [e]
    exact Nat.zero_le _

set_option maxHeartbeats 4000000 in
set_option maxRecDepth 100000 in
theorem bounds_any (x : Int) (a : Option Addr) (len cap : Nat) (ss : List ByteArray) (w : World) (h : StrsAt w a len cap ss) (hsz : ∀ s ∈ ss, s.size ≤ maxLen) :
    Calls Try.prog 6 #[.int .i64 x, .slice a len cap] w fun e w' => e = .returned (.bool true) ∧ Below w.heap.size w w' := by
  obtain ⟨K, hK, hmod⟩ := mod_k x
  have HS : Hid (∀ s ∈ ss, s.size ≤ maxLen) := hsz
  clear hsz
  go_enter Try.func6, Try.ntmps6
  go_wp2_with fail
  refine (lives_any w).mono ?_
  rintro e w1 ⟨rfl, hb1⟩
  go_wp2_with fail
  refine (new_any _ w1).mono ?_
  rintro e w2 ⟨rfl, hr2, hb2, hz2⟩
  have B2 : Below w.heap.size w w2 := hb1.trans (hb2.mono hb1.size)
  go_wp2_with fail
  refine (few_named a len cap ss w2 (h.below B2) HS.out).mono ?_
  rintro e w3 ⟨a3, n, c3, l, rfl, hn, h60, hS3, hx3, hb3⟩
  have hr3 := hr2.below hb3
  have B3 : Below w.heap.size w w3 := B2.trans (hb3.mono B2.size)
  have hg : w.heap.size ≤ w1.heap.size := hb1.size
  have hxg : ∀ x, a3 = some x → w1.heap.size < x.block := fun x e => by have := hx3 x e; omega
  generalize w1.heap.size = g at hr3 hg hxg
  have HX : Hid (∀ x, a3 = some x → g < x.block) := hxg
  have H60 : Hid (∀ j, (l.getD j ⟨#[]⟩).size ≤ 60) := h60
  have hc3 := hS3.hcap
  have hl3 := hS3.hle
  unfold maxLen at hc3
  have hcd : capd (K : Int) = K := capd_mid (by omega) (by omega)
  have HCD : Hid (capd (K : Int) = K) := hcd
  clear hcd hxg h60 hb3 hb2 hb1 hz2 B2 hr2 hx3 h HS hmod
  clear w1 w2
  go_wp2
  go_loopw [6] (fun i wr => ∃ (k : Nat) (r : Rd), k ≤ n ∧ i = .int .i64 k ∧ RAt wr g K r ∧ GoodR K r ∧ StrsAt wr a3 n c3 l ∧ Below w.heap.size w wr)
    (fun i _ => n - (intOf i).toNat)
  case atStart => exact ⟨0, ⟨[], 0⟩, Nat.zero_le _, rfl, hr3, good_new _, hS3, B3⟩
  case round =>
    obtain ⟨k, r, hk, rfl, hr, hG, hS, hbel⟩ := hrel
    clear hr3 hS3 B3
    by_cases hlt : k < n
    · obtain ⟨b, off, rfl, hb, hc⟩ := hS.at_ k hlt
      have hgb : g < b := HX.out _ rfl
      have h60 := H60.out k
      have hkn : (k : Int) < (n : Int) := by omega
      generalize l.getD k ⟨#[]⟩ = f at hc h60
      have hL := good_left hG
      rw [HCD.out] at hL
      have hL0 : r.h.length ≤ 61 := by omega
      go_wp2_with fail
      refine (want_any g K r wr hr (by omega)).mono ?_
      rintro e w4 ⟨rfl, hb4⟩
      have hr4 := hr.below hb4
      have hS4 := hS.below hb4
      have hc4 := (hb4.cell (p := ⟨b, off + k, none⟩) hb).trans hc
      have B4 : Below w.heap.size w w4 := hbel.trans (hb4.mono hbel.size)
      clear hr hS hc hbel hL
      go_wp2_with fail
      refine (err_at g K r w4 hr4).mono ?_
      rintro e _ ⟨rfl, rfl⟩
      go_wp2_with fail
      refine (feed_any g K r f w4 hr4 (by omega)).mono ?_
      rintro e w5 ⟨v5, rfl, ho5, hr5, hg5⟩
      have hG5 := good_feed hG f.data.toList
      have hS5 := hS4.kept hg5 (fun x e => by cases e; show some b ≠ some g; intro e; cases e; omega)
      have hc5 : w5.cell? ⟨b, off + k, none⟩ = some (.string f) := hg5.cell hc4 (by show some b ≠ some g; intro e; cases e; omega)
      have B5 : Below w.heap.size w w5 := B4.grown hg5 B4.size (fun j hj => by cases hj; exact hg)
      have hL5 := good_left hG5
      rw [HCD.out] at hL5
      have hfl : f.data.toList.length = f.size := data_len f
      clear hr4 hS4 hc4 B4 hg5 hb4 hb
      by_cases he : r.e = 0
      · have hno : (f.size : Int) < wantB K r → (feedB K r f.data.toList).2.length = 0 := fun h => by rw [want_none hG he (by rw [hfl]; exact h)]; rfl
        generalize hN : wantB K r = N at hno
        obtain ⟨a5, c5, rfl, _⟩ := owns_frames ho5
        generalize (feedB K r f.data.toList).2.length = m at hno
        generalize (feedB K r f.data.toList).1 = r5 at hr5 hG5 hL5
        rw [he]
        clear ho5 hN hfl he hG
        have hd5 : decide ((K : Int) + 2 < (r5.h.length : Int)) = false := by simp; omega
        have hlen5 : r5.h.length ≤ 2000 := by omega
        have hcase : ((f.size : Int) < N ∧ m = 0) ∨ decide ((f.size : Int) < N) = false := by
          by_cases h : (f.size : Int) < N
          · exact .inl ⟨h, hno h⟩
          · exact .inr (by simpa using h)
        clear hno
        by_cases he5 : r5.e = 0
        · have hw6 := good_want hG5 he5
          generalize hN6 : wantB K r5 = N6 at hw6
          have HN6 : Hid (wantB K r5 = N6) := hN6
          have HG5 : Hid (GoodR K r5) := hG5
          clear hN6 hG5
          rcases hcase with ⟨hlt6, rfl⟩ | hlt6
          all_goals
            rw [he5]
            go_wp2_with fail
            refine (left_at g K r5 w5 hr5).mono ?_
            rintro e _ ⟨rfl, rfl⟩
            go_wp2_with fail
            refine (err_at g K r5 w5 hr5).mono ?_
            rintro e _ ⟨rfl, rfl⟩
            rw [he5]
            go_wp2_with fail
            refine (want_any g K r5 w5 hr5 hlen5).mono ?_
            rintro e w6 ⟨rfl, hb6⟩
            rw [HN6.out]
            have hr6 := hr5.below hb6
            have hS6 := hS5.below hb6
            have B6 : Below w.heap.size w w6 := B5.trans (hb6.mono B5.size)
            clear hr5 hS5 B5 hb6
            go_wp2_with fail
            refine (err_at g K r5 w6 hr6).mono ?_
            rintro e _ ⟨rfl, rfl⟩
            rw [he5]
            go_wp2_with fail
            refine (err_at g K r5 w6 hr6).mono ?_
            rintro e _ ⟨rfl, rfl⟩
            rw [he5]
            go_wp2
            go_roundw
            case rel => exact ⟨k + 1, r5, by omega, by go_num, hr6, HG5.out, hS6, B6⟩
            case measure => simp [intOf]; omega
        · have hne5 : (r5.e != 0) = true := by simpa using he5
          have hne6 : (r5.e == 0) = false := by simpa using he5
          have HN6 : Hid (wantB K r5 = 0) := want_zero he5
          have HG5 : Hid (GoodR K r5) := hG5
          have HE5 : Hid (r5.h = []) := good_empty hG5 he5
          clear hG5 he5
          rcases hcase with ⟨hlt6, rfl⟩ | hlt6
          all_goals
            go_wp2_with fail
            refine (left_at g K r5 w5 hr5).mono ?_
            rintro e _ ⟨rfl, rfl⟩
            go_wp2_with fail
            refine (err_at g K r5 w5 hr5).mono ?_
            rintro e _ ⟨rfl, rfl⟩
            go_wp2_with fail
            refine (want_any g K r5 w5 hr5 hlen5).mono ?_
            rintro e w6 ⟨rfl, hb6⟩
            rw [HN6.out]
            have hr6 := hr5.below hb6
            have hS6 := hS5.below hb6
            have B6 : Below w.heap.size w w6 := B5.trans (hb6.mono B5.size)
            clear hr5 hS5 B5 hb6
            go_wp2_with fail
            refine (err_at g K r5 w6 hr6).mono ?_
            rintro e _ ⟨rfl, rfl⟩
            go_wp2_with fail
            refine (left_at g K r5 w6 hr6).mono ?_
            rintro e _ ⟨rfl, rfl⟩
            rw [HE5.out]
            go_wp2_with fail
            refine (err_at g K r5 w6 hr6).mono ?_
            rintro e _ ⟨rfl, rfl⟩
            go_wp2
            go_roundw
            case rel => exact ⟨k + 1, r5, by omega, by go_num, hr6, HG5.out, hS6, B6⟩
            case measure => simp [intOf]; omega
      · rw [feedB_err he] at ho5 hr5 hG5 hL5 ⊢
        obtain ⟨a5, c5, rfl, _⟩ := owns_frames ho5
        have hd5 : decide ((K : Int) + 2 < (r.h.length : Int)) = false := by simp; omega
        have hne5 : (r.e != 0) = true := by simpa using he
        have hne6 : (r.e == 0) = false := by simpa using he
        have HN6 : Hid (wantB K r = 0) := want_zero he
        have HG5 : Hid (GoodR K r) := hG5
        have HE5 : Hid (r.h = []) := good_empty hG5 he
        clear hG5 he hG ho5 hL5 hfl
        go_wp2_with fail
        refine (left_at g K r w5 hr5).mono ?_
        rintro e _ ⟨rfl, rfl⟩
        go_wp2_with fail
        refine (err_at g K r w5 hr5).mono ?_
        rintro e _ ⟨rfl, rfl⟩
        go_wp2_with fail
        refine (want_any g K r w5 hr5 (by omega)).mono ?_
        rintro e w6 ⟨rfl, hb6⟩
        rw [HN6.out]
        have hr6 := hr5.below hb6
        have hS6 := hS5.below hb6
        have B6 : Below w.heap.size w w6 := B5.trans (hb6.mono B5.size)
        clear hr5 hS5 B5 hb6
        go_wp2_with fail
        refine (err_at g K r w6 hr6).mono ?_
        rintro e _ ⟨rfl, rfl⟩
        go_wp2_with fail
        refine (left_at g K r w6 hr6).mono ?_
        rintro e _ ⟨rfl, rfl⟩
        rw [HE5.out]
        go_wp2_with fail
        refine (err_at g K r w6 hr6).mono ?_
        rintro e _ ⟨rfl, rfl⟩
        go_wp2
        go_roundw
        case rel => exact ⟨k + 1, r, by omega, by go_num, hr6, HG5.out, hS6, B6⟩
        case measure => simp [intOf]; omega
    · go_wp2
      go_ret
      exact ⟨rfl, hbel⟩

end Go.Proofs.Ytbpflpngaipckaa
