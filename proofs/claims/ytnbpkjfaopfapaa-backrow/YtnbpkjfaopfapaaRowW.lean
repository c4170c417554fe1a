/-
  BackRow's walk: its states come in their row. Conditions: the steps lie where they are said to lie.
-/
import Derived.Test.YtnbpkjfaopfapaaStrs
namespace Go.Proofs.Ytnbpkjfaopfapaa
open Go.ChangeShapes Go.WideShapes Go.ChangeAt Go.RowKit

/-- What a step of kind k may do to the state: x ahead, y behind, d whether it did. -/
def Moves (k x y : Int) (d : Bool) : Prop :=
  (x = y ∧ d = false ∧ x = 4) ∨ (x = y ∧ (x == 4) = false) ∨ (x = 0 ∧ y = 1 ∧ k = 0 ∧ d = true) ∨ (x = 1 ∧ y = 2 ∧ k = 1 ∧ d = true) ∨ (x = 2 ∧ y = 3 ∧ k = 2 ∧ d = true) ∨ (x = 3 ∧ y = 2 ∧ k = 5 ∧ d = true) ∨ ((x = 0 ∨ x = 1 ∨ x = 2 ∨ x = 3) ∧ y = 4 ∧ k = 6 ∧ d = true)

theorem moves_of {s t : Bk} {n : Int} {k a b : Int} {d : Bool} (h : Inv s n) (hk : k = 0 ∨ k = 1 ∨ k = 2 ∨ k = 3 ∨ k = 4 ∨ k = 5 ∨ k = 6) (hq : stp k a b s = (t, d)) : Moves k s.st t.st d := by
  have h1 := h.s0
  have h2 := h.s4
  have no : ∀ {x : Int}, 0 ≤ x → x ≤ 4 → Moves k x x false := by
    intro x _ _
    by_cases h4 : x = 4
    · exact .inl ⟨rfl, rfl, h4⟩
    · exact .inr (.inl ⟨rfl, by simpa using h4⟩)
  rcases hk with rfl | rfl | rfl | rfl | rfl | rfl | rfl
  · have hq : thr s a b = (t, d) := hq
    unfold thr at hq
    split at hq <;> cases hq
    · rename_i e; exact .inr (.inr (.inl ⟨e, rfl, rfl, rfl⟩))
    · exact no h1 h2
  · have hq : gre s a = (t, d) := hq
    unfold gre at hq
    split at hq <;> cases hq
    · rename_i e; exact .inr (.inr (.inr (.inl ⟨e, rfl, rfl, rfl⟩)))
    · exact no h1 h2
  · have hq : bin s a = (t, d) := hq
    unfold bin at hq
    split at hq <;> cases hq
    · rename_i e; exact .inr (.inr (.inr (.inr (.inl ⟨e.1, rfl, rfl, rfl⟩))))
    · exact no h1 h2
  · have hq : sen s = (t, d) := hq
    unfold sen at hq
    split at hq <;> cases hq
    · rename_i e; exact .inr (.inl ⟨rfl, by rw [e]; rfl⟩)
    · exact no h1 h2
  · have hq : got s = (t, d) := hq
    unfold got at hq
    split at hq <;> cases hq
    · rename_i e; exact .inr (.inl ⟨rfl, by rw [e.1]; rfl⟩)
    · exact no h1 h2
  · have hq : fre s a = (t, d) := hq
    unfold fre at hq
    split at hq <;> cases hq
    · rename_i e; exact .inr (.inr (.inr (.inr (.inr (.inl ⟨e.1, rfl, rfl, rfl⟩)))))
    · exact no h1 h2
  · have hq : kil s = (t, d) := hq
    unfold kil at hq
    split at hq <;> cases hq
    · exact no h1 h2
    · rename_i e; exact .inr (.inr (.inr (.inr (.inr (.inr ⟨by omega, rfl, rfl, rfl⟩)))))

set_option maxHeartbeats 4000000 in
set_option maxRecDepth 100000 in
theorem row_walk (a : Option Addr) (len cap : Nat) (ss : List Stp) (w : World) (hs : StepsAt w a len cap ss) :
    Calls Try.prog 4 #[.slice a len cap] w fun e w' => e = .returned (.bool true) ∧ Below w.heap.size w w' := by
  have l1 := hs.hle
  have c1 := hs.hcap
  obtain ⟨n, hn⟩ : ∃ n, min len 100 = n := ⟨_, rfl⟩
  have hea := early_any a len cap n l1 c1 hn
  have hn3 : n ≤ 100 := by omega
  have hn4 : n ≤ len := by omega
  have hnc : n ≤ cap := by omega
  unfold maxLen at c1
  clear hn
  go_enter Try.func4, Try.ntmps4
  go_wp2_with fail
  refine (lives_any _).mono ?_
  rintro e w1 ⟨rfl, hb1⟩
  go_wp2_with fail
  refine (new_any _ w1).mono ?_
  rintro e w2 ⟨rfl, hB2, hb2, -⟩
  go_wp2_with fail
  refine (hea _).mono ?_
  rintro e w4 ⟨rfl, hw4⟩
  obtain rfl : w2 = w4 := hw4.symm
  have HS : Hid (StepsAt w1 a len cap ss) := hs.below hb1
  have HB : Hid (Below w.heap.size w w1) := hb1
  have HB2 := Hid.mk' hB2
  have HK2 : Hid (Keep (fun k => k < w1.heap.size) w1 w2) := keep_below hb2
  clear hea hs hb1 hb2 hB2 hw4
  generalize hg : w1.heap.size = g at *
  have HG : Hid (w1.heap.size = g) := hg
  clear hg
  go_wp2
  go_loopw [4] (fun vi wr => ∃ (i : Nat) (s : Bk), vi = .int .i64 i ∧ i ≤ n ∧ Hid (Inv s i) ∧ Hid (BAt wr g ⟨#[104]⟩ s) ∧ Hid (Keep (fun k => k < g) w1 wr)) (fun vi _ => n - (intOf vi).toNat)
  case atStart => exact ⟨0, b0, rfl, Nat.zero_le _, inv0, HB2, HK2⟩
  case round =>
    clear HB2 HK2
    obtain ⟨i, s, rfl, hi1, HI, HBT, HK⟩ := hrel
    by_cases hc : i < n
    · obtain ⟨bq, off, rfl, hlt, x0, x1, x2⟩ := HS.out.rd i (by omega)
      obtain ⟨⟨kd, sa, sb⟩, hst⟩ : ∃ q, ss.getD i s0 = q := ⟨_, rfl⟩
      rw [hst] at x0 x1 x2
      dsimp only at x0 x1 x2
      clear hst
      rw [HG.out] at hlt
      have x0 := HK.out.cell x0 hlt
      have x1 := HK.out.cell x1 hlt
      have x2 := HK.out.cell x2 hlt
      obtain ⟨⟨t, d⟩, hq⟩ : ∃ q, stp (kindI kd) sa sb s = q := ⟨_, rfl⟩
      have HP := Hid.mk' (moves_of HI.out (kindI_of kd) hq)
      have HI2 : Hid (Inv t ((i + 1 : Nat) : Int)) := by
        have := inv_stp HI.out (by omega) (kindI kd) sa sb
        rw [hq] at this
        exact this
      have HST := Hid.mk' (state_w HBT.out)
      have HSP := Hid.mk' (step_v HBT.out HI.out.o0 (by have := HI.out.on; omega) kd sa sb t d hq)
      have HKD := Hid.mk' (kind_any kd sa sb)
      generalize kindI kd = kk at *
      generalize s.st = sx at *
      clear hq HBT HI
      go_wp2_with fail
      refine HST.out.mono ?_
      rintro e w' ⟨rfl, hw'⟩
      obtain rfl : wr = w' := hw'.symm
      clear hw' HST
      go_wp2_with fail
      refine HSP.out.mono ?_
      rintro e w5 ⟨rfl, hB5, hK5⟩
      have HB5 := Hid.mk' hB5
      have HK5 : Hid (Keep (fun k => k < g) w1 w5) := HK.out.trans (hK5.mono fun k _ h => by omega)
      have hne : bq ≠ g := by omega
      have x0 := hK5.cell x0 hne
      have x1 := hK5.cell x1 hne
      have x2 := hK5.cell x2 hne
      have HT := Hid.mk' (state_w hB5)
      clear hB5 hK5 HSP HK hne
      generalize t.st = sy at *
      go_wp2_with fail
      refine HT.out.mono ?_
      rintro e w' ⟨rfl, hw'⟩
      obtain rfl : w5 = w' := hw'.symm
      clear hw' HT
      go_wp2_with fail
      refine (HKD.out w5).mono ?_
      rintro e w6 ⟨rfl, hb6⟩
      have HB6 := Hid.mk' (HB5.out.below hb6)
      have HK6 : Hid (Keep (fun k => k < g) w1 w6) := HK5.out.trans (keep_below hb6)
      clear hb6 HB5 HK5 HKD x0 x1 x2
      rcases HP.out with ⟨rfl, rfl, rfl⟩ | ⟨rfl, h4⟩ | ⟨rfl, rfl, rfl, rfl⟩ | ⟨rfl, rfl, rfl, rfl⟩ | ⟨rfl, rfl, rfl, rfl⟩ | ⟨rfl, rfl, rfl, rfl⟩ | ⟨hx, rfl, rfl, rfl⟩
      case inr.inl =>
        clear HP
        cases d <;>
        · go_wp2
          go_roundw
          case rel => exact ⟨i + 1, t, by go_num, by omega, HI2, HB6, HK6⟩
          case measure => simp [intOf]; omega
      case inr.inr.inr.inr.inr.inr =>
        clear HP
        rcases hx with rfl | rfl | rfl | rfl <;>
        · go_wp2
          go_roundw
          case rel => exact ⟨i + 1, t, by go_num, by omega, HI2, HB6, HK6⟩
          case measure => simp [intOf]; omega
      all_goals
        clear HP
        go_wp2
        go_roundw
        case rel => exact ⟨i + 1, t, by go_num, by omega, HI2, HB6, HK6⟩
        case measure => simp [intOf]; omega
    · obtain rfl : n = i := by omega
      have HEND : Hid (Below w.heap.size w wr) := HB.out.trans (HK.out.below HB.out.size (fun k hk => by have := HB.out.size; have := HG.out; omega))
      clear hc
      go_wp2
      go_ret
      exact ⟨rfl, HEND.out⟩

end Go.Proofs.Ytnbpkjfaopfapaa
