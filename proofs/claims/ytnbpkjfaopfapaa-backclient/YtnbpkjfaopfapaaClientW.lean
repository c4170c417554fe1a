/-
  BackClient's walk: it has a client just while it is Busy. Conditions: the steps lie where they are said to lie.
-/
import Derived.Test.YtnbpkjfaopfapaaStrs
namespace Go.Proofs.Ytnbpkjfaopfapaa
open Go.ChangeShapes Go.WideShapes Go.ChangeAt Go.RowKit

/-- What a step makes of the client and the replies to come, ahead sc and so, behind tc and to; sx is the state ahead. -/
def Goes (k a sx sc so tc to : Int) (d : Bool) : Prop :=
  ((k = 0 ∨ k = 1) ∧ tc = sc ∧ to = so) ∨ (k = 2 ∧ d = true ∧ tc = a ∧ to = 0) ∨ (k = 3 ∧ d = true ∧ tc = sc ∧ to = so + 1) ∨ (k = 4 ∧ d = true ∧ tc = sc ∧ to = so - 1) ∨ (k = 5 ∧ d = true ∧ so = 0 ∧ tc = 0 ∧ to = 0)
  ∨ (k = 6 ∧ d = true ∧ (sx != 4) = true ∧ tc = 0 ∧ to = 0) ∨ (k = 6 ∧ d = false ∧ sx = 4 ∧ tc = 0 ∧ to = 0) ∨ ((k = 2 ∨ k = 3 ∨ k = 4 ∨ k = 5) ∧ d = false ∧ tc = sc ∧ to = so)

theorem goes_of {s t : Bk} {n : Int} {k a b : Int} {d : Bool} (h : Inv s n) (hk : k = 0 ∨ k = 1 ∨ k = 2 ∨ k = 3 ∨ k = 4 ∨ k = 5 ∨ k = 6) (hq : stp k a b s = (t, d)) : Goes k a s.st s.cl s.ow t.cl t.ow d := by
  obtain ⟨h1, h2, h3, h4, h5, h6, h7⟩ := h
  rcases hk with rfl | rfl | rfl | rfl | rfl | rfl | rfl
  · have hq : thr s a b = (t, d) := hq
    unfold thr at hq
    left
    split at hq <;> cases hq
    · rename_i e
      obtain ⟨e1, e2⟩ := h6 (by omega)
      exact ⟨.inl rfl, e1.symm, e2.symm⟩
    · exact ⟨.inl rfl, rfl, rfl⟩
  · have hq : gre s a = (t, d) := hq
    unfold gre at hq
    left
    split at hq <;> cases hq
    · rename_i e
      obtain ⟨e1, e2⟩ := h6 (by omega)
      exact ⟨.inr rfl, e1.symm, e2.symm⟩
    · exact ⟨.inr rfl, rfl, rfl⟩
  · have hq : bin s a = (t, d) := hq
    unfold bin at hq
    split at hq <;> cases hq
    · exact .inr (.inl ⟨rfl, rfl, rfl, rfl⟩)
    · exact .inr (.inr (.inr (.inr (.inr (.inr (.inr ⟨by omega, rfl, rfl, rfl⟩))))))
  · have hq : sen s = (t, d) := hq
    unfold sen at hq
    split at hq <;> cases hq
    · exact .inr (.inr (.inl ⟨rfl, rfl, rfl, rfl⟩))
    · exact .inr (.inr (.inr (.inr (.inr (.inr (.inr ⟨by omega, rfl, rfl, rfl⟩))))))
  · have hq : got s = (t, d) := hq
    unfold got at hq
    split at hq <;> cases hq
    · exact .inr (.inr (.inr (.inl ⟨rfl, rfl, rfl, rfl⟩)))
    · exact .inr (.inr (.inr (.inr (.inr (.inr (.inr ⟨by omega, rfl, rfl, rfl⟩))))))
  · have hq : fre s a = (t, d) := hq
    unfold fre at hq
    split at hq <;> cases hq
    · rename_i e
      exact .inr (.inr (.inr (.inr (.inl ⟨rfl, rfl, e.2, rfl, rfl⟩))))
    · exact .inr (.inr (.inr (.inr (.inr (.inr (.inr ⟨by omega, rfl, rfl, rfl⟩))))))
  · have hq : kil s = (t, d) := hq
    unfold kil at hq
    split at hq <;> cases hq
    · rename_i e
      obtain ⟨e1, e2⟩ := h6 (by omega)
      exact .inr (.inr (.inr (.inr (.inr (.inr (.inl ⟨rfl, rfl, e, e1, e2⟩))))))
    · rename_i e
      exact .inr (.inr (.inr (.inr (.inr (.inl ⟨rfl, rfl, by simpa using e, rfl, rfl⟩)))))

/-- What the law asks at a step's end. -/
theorem ends_of {t : Bk} {n : Int} (h : Inv t n) : 0 ≤ t.ow ∧ t.ow ≤ n ∧ ((t.st = 3 ∧ 0 < t.cl) ∨ ((t.st == 3) = false ∧ t.cl = 0 ∧ t.ow = 0)) := by
  obtain ⟨h1, h2, h3, h4, h5, h6, h7⟩ := h
  refine ⟨h3, h4, ?_⟩
  by_cases e : t.st = 3
  · exact .inl ⟨e, by have := h5 e; omega⟩
  · exact .inr ⟨by simpa using e, (h6 e).1, (h6 e).2⟩

set_option maxHeartbeats 8000000 in
set_option maxRecDepth 100000 in
theorem client_walk (a : Option Addr) (len cap : Nat) (ss : List Stp) (w : World) (hs : StepsAt w a len cap ss) :
    Calls Try.prog 3 #[.slice a len cap] w fun e w' => e = .returned (.bool true) ∧ Below w.heap.size w w' := by
  have l1 := hs.hle
  have c1 := hs.hcap
  obtain ⟨n, hn⟩ : ∃ n, min len 100 = n := ⟨_, rfl⟩
  have hea := early_any a len cap n l1 c1 hn
  have hn3 : n ≤ 100 := by omega
  have hn4 : n ≤ len := by omega
  have hnc : n ≤ cap := by omega
  unfold maxLen at c1
  clear hn
  go_enter Try.func3, Try.ntmps3
  go_wp2_with fail
  refine (lives_any _).mono ?_
  rintro e w1 ⟨rfl, hb1⟩
  go_wp2_with fail
  refine (new_any _ w1).mono ?_
  rintro e w2 ⟨rfl, hB2, hb2, -⟩
  go_wp2_with fail
  refine (hea _).mono ?_
  rintro e w4 ⟨rfl, hw4⟩
  obtain rfl : w2 = w4 := hw4.symm
  have HS : Hid (StepsAt w1 a len cap ss) := hs.below hb1
  have HB : Hid (Below w.heap.size w w1) := hb1
  have HB2 := Hid.mk' hB2
  have HK2 : Hid (Keep (fun k => k < w1.heap.size) w1 w2) := keep_below hb2
  clear hea hs hb1 hb2 hB2 hw4
  generalize hg : w1.heap.size = g at *
  have HG : Hid (w1.heap.size = g) := hg
  clear hg
  go_wp2
  go_loopw [4, 5, 6] (fun vo vc vi wr => ∃ (i : Nat) (s : Bk), vi = .int .i64 i ∧ i ≤ n ∧ vo = .int .i64 s.ow ∧ vc = .int .i64 s.cl ∧ Hid (Inv s i) ∧ Hid (BAt wr g ⟨#[104]⟩ s) ∧ Hid (Keep (fun k => k < g) w1 wr)) (fun _ _ vi _ => n - (intOf vi).toNat)
  case atStart => exact ⟨0, b0, rfl, Nat.zero_le _, rfl, rfl, inv0, HB2, HK2⟩
  case round =>
    clear HB2 HK2
    obtain ⟨i, s, rfl, hi1, rfl, rfl, HI, HBT, HK⟩ := hrel
    by_cases hc : i < n
    · obtain ⟨bq, off, rfl, hlt, x0, x1, x2⟩ := HS.out.rd i (by omega)
      obtain ⟨⟨kd, sa, sb⟩, hst⟩ : ∃ q, ss.getD i s0 = q := ⟨_, rfl⟩
      rw [hst] at x0 x1 x2
      dsimp only at x0 x1 x2
      clear hst
      rw [HG.out] at hlt
      have x0 := HK.out.cell x0 hlt
      have x1 := HK.out.cell x1 hlt
      have x2 := HK.out.cell x2 hlt
      obtain ⟨⟨t, d⟩, hq⟩ : ∃ q, stp (kindI kd) sa sb s = q := ⟨_, rfl⟩
      have HP := Hid.mk' (goes_of HI.out (kindI_of kd) hq)
      have HI2 : Hid (Inv t ((i + 1 : Nat) : Int)) := by
        have := inv_stp HI.out (by omega) (kindI kd) sa sb
        rw [hq] at this
        exact this
      have so0 := HI.out.o0
      have so1 : s.ow ≤ 100 := by have := HI.out.on; omega
      obtain ⟨hb6, z0, z1, z2, hl6⟩ := step_box wr kd sa sb
      have HST := Hid.mk' (state_w (HBT.out.below hb6))
      have HSP := Hid.mk' (step_v (HBT.out.below hb6) so0 (by omega) kd sa sb t d hq)
      have HKD := Hid.mk' (kind_any kd sa sb)
      have HB6 := Hid.mk' hb6
      have hgb : g < wr.heap.size := HBT.out.lt
      generalize kindI kd = kk at *
      generalize s.st = sx at *
      generalize s.cl = sc at *
      generalize s.ow = so at *
      clear hq HBT HI hb6
      go_wp2_with fail
      generalize wr.alloc (.cells #[.int .i64 kd, .int .i64 sa, .int .i64 sb] 28) = W at *
      have HKW : Hid (Keep (fun k => k < g) w1 W) := HK.out.trans (keep_below HB6.out)
      generalize wr.heap.size = b6 at *
      clear HB6 HK x0 x1 x2
      refine HST.out.mono ?_
      rintro e w' ⟨rfl, hw'⟩
      obtain rfl : W = w' := hw'.symm
      clear hw' HST
      go_wp2_with fail
      refine HSP.out.mono ?_
      rintro e w5 ⟨rfl, hB5, hK5⟩
      have hne : b6 ≠ g := by omega
      have z0 := hK5.cell z0 hne
      have z1 := hK5.cell z1 hne
      have z2 := hK5.cell z2 hne
      have hl5 := Nat.lt_of_lt_of_le hl6 hK5.size
      have HB5 := Hid.mk' hB5
      have HK5 : Hid (Keep (fun k => k < g) w1 w5) := HKW.out.trans (hK5.mono fun k _ h => by omega)
      clear hB5 hK5 HSP HKW hne hl6 hgb
      go_wp2_with fail
      refine (HKD.out w5).mono ?_
      rintro e w6 ⟨rfl, hb6⟩
      have HB6 := Hid.mk' (HB5.out.below hb6)
      have HK6 : Hid (Keep (fun k => k < g) w1 w6) := HK5.out.trans (keep_below hb6)
      have z1 := (hb6.cell (p := ⟨b6, 1, none⟩) hl5).trans z1
      have HT := Hid.mk' (state_w HB6.out)
      have HC := Hid.mk' (client_w HB6.out)
      have HO := Hid.mk' (owes_w HB6.out)
      obtain ⟨to0, to1, hend⟩ := ends_of HI2.out
      have HTO : Hid (∃ x, x = t.ow) := ⟨_, rfl⟩
      obtain ⟨to_, hto⟩ := HTO.out
      obtain ⟨tc, htc⟩ : ∃ x, x = t.cl := ⟨_, rfl⟩
      obtain ⟨ty, hty⟩ : ∃ x, x = t.st := ⟨_, rfl⟩
      rw [← hto] at to0 to1 hend HP HO
      rw [← htc] at hend HP HC
      rw [← hty] at hend HT
      have HTO2 := Hid.mk' hto
      have HTC2 := Hid.mk' htc
      clear hto htc hty hb6 HB5 HK5 HKD z0 z2 hl5 HTO
      have HEND := Hid.mk' hend
      clear hend to1
      rcases HP.out with ⟨hk, rfl, rfl⟩ | ⟨rfl, rfl, rfl, rfl⟩ | ⟨rfl, rfl, rfl, rfl⟩ | ⟨rfl, rfl, rfl, rfl⟩ | ⟨rfl, rfl, rfl, rfl, rfl⟩ | ⟨rfl, rfl, hx, rfl, rfl⟩ | ⟨rfl, rfl, rfl, rfl, rfl⟩ | ⟨hk, rfl, rfl, rfl⟩
      case inl =>
        clear HP
        rcases hk with rfl | rfl <;> rcases HEND.out with ⟨rfl, hcl⟩ | ⟨hst, rfl, rfl⟩ <;>
        · clear HEND
          go_wp2_with (first
            | (go_at_call 10; refine HT.out.mono ?_; rintro e w' ⟨rfl, rfl⟩)
            | (go_at_call 13; refine HC.out.mono ?_; rintro e w' ⟨rfl, rfl⟩)
            | (go_at_call 14; refine HO.out.mono ?_; rintro e w' ⟨rfl, rfl⟩))
          go_roundw
          case rel => exact ⟨i + 1, t, by go_num, by omega, by rw [← HTO2.out]; first | done | rw [h9], by rw [← HTC2.out], HI2, HB6, HK6⟩
          case measure => simp [intOf]; omega
      case inr.inr.inr.inr.inr.inr.inr =>
        clear HP
        rcases hk with rfl | rfl | rfl | rfl <;> rcases HEND.out with ⟨rfl, hcl⟩ | ⟨hst, rfl, rfl⟩ <;>
        · clear HEND
          go_wp2_with (first
            | (go_at_call 10; refine HT.out.mono ?_; rintro e w' ⟨rfl, rfl⟩)
            | (go_at_call 13; refine HC.out.mono ?_; rintro e w' ⟨rfl, rfl⟩)
            | (go_at_call 14; refine HO.out.mono ?_; rintro e w' ⟨rfl, rfl⟩))
          go_roundw
          case rel => exact ⟨i + 1, t, by go_num, by omega, by rw [← HTO2.out]; first | done | rw [h9], by rw [← HTC2.out], HI2, HB6, HK6⟩
          case measure => simp [intOf]; omega
      case inr.inl =>
        clear HP
        rcases HEND.out with ⟨rfl, hcl⟩ | ⟨hst, rfl, h9⟩ <;>
        · clear HEND
          go_wp2_with (first
            | (go_at_call 10; refine HT.out.mono ?_; rintro e w' ⟨rfl, rfl⟩)
            | (go_at_call 13; refine HC.out.mono ?_; rintro e w' ⟨rfl, rfl⟩)
            | (go_at_call 14; refine HO.out.mono ?_; rintro e w' ⟨rfl, rfl⟩))
          go_roundw
          case rel => exact ⟨i + 1, t, by go_num, by omega, by rw [← HTO2.out]; first | done | rw [h9], by rw [← HTC2.out], HI2, HB6, HK6⟩
          case measure => simp [intOf]; omega
      case inr.inr.inl =>
        clear HP
        rcases HEND.out with ⟨rfl, hcl⟩ | ⟨hst, rfl, h9⟩
        · clear HEND
          go_wp2_with (first
            | (go_at_call 10; refine HT.out.mono ?_; rintro e w' ⟨rfl, rfl⟩)
            | (go_at_call 13; refine HC.out.mono ?_; rintro e w' ⟨rfl, rfl⟩)
            | (go_at_call 14; refine HO.out.mono ?_; rintro e w' ⟨rfl, rfl⟩))
          go_roundw
          case rel => exact ⟨i + 1, t, by go_num, by omega, by rw [← HTO2.out]; first | done | rw [h9], by rw [← HTC2.out], HI2, HB6, HK6⟩
          case measure => simp [intOf]; omega
        · omega
      case inr.inr.inr.inl =>
        clear HP
        rcases HEND.out with ⟨rfl, hcl⟩ | ⟨hst, rfl, h9⟩ <;>
        · clear HEND
          go_wp2_with (first
            | (go_at_call 10; refine HT.out.mono ?_; rintro e w' ⟨rfl, rfl⟩)
            | (go_at_call 13; refine HC.out.mono ?_; rintro e w' ⟨rfl, rfl⟩)
            | (go_at_call 14; refine HO.out.mono ?_; rintro e w' ⟨rfl, rfl⟩))
          go_roundw
          case rel => exact ⟨i + 1, t, by go_num, by omega, by rw [← HTO2.out]; first | done | rw [h9], by rw [← HTC2.out], HI2, HB6, HK6⟩
          case measure => simp [intOf]; omega
      case inr.inr.inr.inr.inl =>
        clear HP
        rcases HEND.out with ⟨rfl, hcl⟩ | ⟨hst, h8, h9⟩
        · omega
        · clear HEND
          go_wp2_with (first
            | (go_at_call 10; refine HT.out.mono ?_; rintro e w' ⟨rfl, rfl⟩)
            | (go_at_call 13; refine HC.out.mono ?_; rintro e w' ⟨rfl, rfl⟩)
            | (go_at_call 14; refine HO.out.mono ?_; rintro e w' ⟨rfl, rfl⟩))
          go_roundw
          case rel => exact ⟨i + 1, t, by go_num, by omega, by rw [← HTO2.out]; first | done | rw [h9], by rw [← HTC2.out], HI2, HB6, HK6⟩
          case measure => simp [intOf]; omega
      all_goals
        clear HP
        rcases HEND.out with ⟨rfl, hcl⟩ | ⟨hst, h8, h9⟩
        · omega
        · clear HEND
          go_wp2_with (first
            | (go_at_call 10; refine HT.out.mono ?_; rintro e w' ⟨rfl, rfl⟩)
            | (go_at_call 13; refine HC.out.mono ?_; rintro e w' ⟨rfl, rfl⟩)
            | (go_at_call 14; refine HO.out.mono ?_; rintro e w' ⟨rfl, rfl⟩))
          go_roundw
          case rel => exact ⟨i + 1, t, by go_num, by omega, by rw [← HTO2.out]; first | done | rw [h9], by rw [← HTC2.out], HI2, HB6, HK6⟩
          case measure => simp [intOf]; omega
    · obtain rfl : n = i := by omega
      have HEND : Hid (Below w.heap.size w wr) := HB.out.trans (HK.out.below HB.out.size (fun k hk => by have := HB.out.size; have := HG.out; omega))
      clear hc
      go_wp2
      go_ret
      exact ⟨rfl, HEND.out⟩

end Go.Proofs.Ytnbpkjfaopfapaa
