/-
  WheelNext's walk: ahead of the least deadline nothing is due, and at it something is; what is due leaves all others, by their deadlines. Conditions: the slice lies where it is said to lie.
-/
import Derived.Test.YtahdeliopmkpmaaNextP
import Derived.Deep.RegionHeld3
import Derived.Deep.CutRange
namespace Go.Proofs.Ytahdeliopmkpmaa
open Go.ChangeShapes Go.WideShapes Go.ChangeAt Go.RowKit Go.Maps

theorem WAt.congr {w w' : World} {A : Nat → Prop} {g : Nat} {R : List (Int × Int)} (h : WAt w A g R) (hh : w'.heap = w.heap) : WAt w' A g R := by
  obtain ⟨h1, mv, ov, L, h2, h3⟩ := h
  exact ⟨h1, mv, ov, L, ⟨h2.blk.of_block (by rw [hh]), h2.gout, h2.ord.congr hh, h2.map.of_block (fun _ _ => by rw [hh]), h2.wf, h2.apart, by rw [hh]; exact h2.guard, h2.heap, h2.few⟩, h3⟩

theorem wf_nat {i : Nat} (h : i ≤ 1000) : Wf (i : Int) := by
  unfold Wf
  simp [Lit.wf, IntKind.min, IntKind.max, IntKind.signed, IntKind.bits]
  omega

/-- What holds all through the last look. -/
structure LN (Rr : List (Int × Int)) (g : Nat) (a5 a3 a3d : Option Addr) (D n c5 c3 c3d : Nat) (K : List Int) (w0 w' : World) : Prop where
  wat : WAt w' (fun k => k < g) g Rr
  l : IntsAt w' a5 D c5 (K.take D)
  k1 : IntsAt w' a3 D c3 (K.take D)
  k2 : IntsAt w' a3d n c3d (keysR Rr)
  bel : Below w0.heap.size w0 w'

theorem LN.step {Rr : List (Int × Int)} {g : Nat} {a5 a3 a3d : Option Addr} {D n c5 c3 c3d : Nat} {K : List Int} {w0 w' w'' : World} (h : LN Rr g a5 a3 a3d D n c5 c3 c3d K w0 w') (hb : Below w'.heap.size w' w'') : LN Rr g a5 a3 a3d D n c5 c3 c3d K w0 w'' :=
  ⟨(h.wat.below hb).fewer (fun _ h => .inl h), h.l.below hb, h.k1.below hb, h.k2.below hb, h.bel.trans (hb.mono h.bel.size)⟩
theorem LN.drew {Rr : List (Int × Int)} {g : Nat} {a5 a3 a3d : Option Addr} {D n c5 c3 c3d : Nat} {K : List Int} {w0 w' : World} (h : LN Rr g a5 a3 a3d D n c5 c3 c3d K w0 w') : LN Rr g a5 a3 a3d D n c5 c3 c3d K w0 w'.drew := h.step (Below.refl _ _).drew

theorem same_b (a b : Option Addr) (len cap cap' : Nat) (zs : List Int) (w : World) (h : IntsAt w a len cap zs) (h' : IntsAt w b len cap' zs) :
    Calls Try.prog 18 #[.slice a len cap, .slice b len cap'] w fun e w' => e = .returned (.bool true) ∧ Below w.heap.size w w' :=
  (same_any a b len cap cap' zs w h h').mono fun _ _ ⟨h1, q, h2⟩ => ⟨h1, by rw [h2]; exact ⟨rfl, rfl, rfl, Nat.le_refl _, fun _ _ => rfl⟩⟩

theorem keys_b (w : World) (A : Nat → Prop) (g : Nat) (R : List (Int × Int)) (n : Nat) (hn : R.length = n) (h : WAt w A g R) :
    Calls Try.prog 25 #[.pointer (some ⟨g, 0, none⟩)] w fun e w' => ∃ a c, e = .returned (.slice a n c) ∧ IntsAt w' a n c (keysR R) ∧ Below w.heap.size w w' := by
  subst hn
  refine (keys_w w A g R h).mono ?_
  rintro e w' ⟨v, rfl, ho, hb⟩
  obtain ⟨a, c, rfl, hi, _⟩ := owns_ints ho
  exact ⟨a, c, rfl, hi, hb⟩

theorem wrap_small {n : Nat} (h : n ≤ 1000) : IntKind.i64.wrap (n : Int) = (n : Int) := by
  simp [IntKind.wrap, IntKind.signed, IntKind.bits]
  omega

theorem len_z (w : World) (A : Nat → Prop) (g : Nat) (R : List (Int × Int)) (hn : R.length = 0) (h : WAt w A g R) :
    Calls Try.prog 24 #[.pointer (some ⟨g, 0, none⟩)] w fun e w' => e = .returned (.int .i64 0) ∧ w' = w := by
  have := len_w w A g R h
  rw [hn] at this
  exact this

theorem len_e (w : World) (A : Nat → Prop) (g : Nat) (R : List (Int × Int)) (n : Nat) (hn : R.length = n) (h : WAt w A g R) :
    Calls Try.prog 24 #[.pointer (some ⟨g, 0, none⟩)] w fun e w' => e = .returned (.int .i64 n) ∧ w' = w := by
  subst hn
  exact len_w w A g R h

set_option maxHeartbeats 4000000 in
set_option maxRecDepth 100000 in
theorem next_walk (a : Option Addr) (len cap : Nat) (zs : List Int) (w : World) (hz : IntsAt w a len cap zs) :
    Calls Try.prog 8 #[.slice a len cap] w fun e w' => e = .returned (.bool true) ∧ Below w.heap.size w w' := by
  have hlenle := hz.hle
  have hcaple := hz.hcap
  unfold maxLen at hcaple
  go_enter Try.func8, Try.ntmps8
  go_wp2_with fail
  refine (lives_any _).mono ?_
  rintro e w1 ⟨rfl, hb1⟩
  go_wp2_with fail
  refine (new_w w1).mono ?_
  rintro e w2 ⟨rfl, hW2, hb2, hz2⟩
  have hk12 : Keep (fun k => k < w1.heap.size) w1 w2 := keep_below hb2
  have HZ : Hid (IntsAt w1 a len cap zs) := hz.below hb1
  have HB : Hid (Below w.heap.size w w1) := hb1
  clear hz hb1 hb2 hz2
  generalize hg : w1.heap.size = g at *
  have HG : Hid (w1.heap.size = g) := hg
  clear hg
  go_wp2
  go_loopw [4] (fun vi wr => ∃ (i : Nat) (R : List (Int × Int)), vi = .int .i64 i ∧ i ≤ len ∧ i ≤ 30 ∧ WAt wr (fun k => k < g) g R ∧ R.length ≤ i ∧ Ticks R ∧ Keep (fun k => k < g) w1 wr) (fun vi _ => 30 - (intOf vi).toNat)
  case atStart => exact ⟨0, [], rfl, Nat.zero_le _, by omega, hW2, by simp, fun x hx => by simp at hx, hk12⟩
  case round =>
    obtain ⟨i, R, rfl, hi1, hi2, hW, hRl, hT, hkr⟩ := hrel
    by_cases hc : i < len ∧ i < 30
    · obtain ⟨hc1, hc2⟩ := hc
      have hzr := HZ.out.keep2 hkr (fun k hk => by rw [HG.out] at hk; exact hk)
      obtain ⟨b, off, rfl, hlt, hcell⟩ := hzr.at_ i hc1
      generalize zs.getD i 0 = z at hcell
      have hsetw := set_w wr _ g R i z (wf_nat (by omega)) (by omega) hW
      have HR : Hid (R.length ≤ i ∧ Ticks R ∧ Keep (fun k => k < g) w1 wr) := ⟨hRl, hT, hkr⟩
      clear hW hRl hT hkr hzr
      go_wp2_with (first | (go_at_call 14; refine hsetw.mono ?_; rintro e w4 ⟨rfl, hW4, hk4⟩))
      obtain ⟨q1, q2, q3⟩ := HR.out
      exact ⟨⟨i + 1, _, by simp, by omega, by omega, hW4, by have := setR_len R i (cut z); omega, setR_ticks q2 _ _, q3.trans hk4⟩, by simp [intOf]; omega⟩
    · have HW0 : Hid (WAt wr (fun k => k < g) g R ∧ R.length ≤ 30 ∧ Ticks R ∧ Keep (fun k => k < g) w1 wr) := ⟨hW, by omega, hT, hkr⟩
      have hexit : (i = 30 ∧ 30 < len) ∨ len = i := by omega
      clear hc hW hRl hT hkr hW2 hk12 HZ
      rcases hexit with ⟨rfl, h1⟩ | rfl
      all_goals (
        go_wp2
        go_loopw [5] (fun vi wr => ∃ (i : Nat) (R : List (Int × Int)), vi = .int .i64 i ∧ R.length + i ≤ 30 ∧ WAt wr (fun k => k < g) g R ∧ Ticks R ∧ Keep (fun k => k < g) w1 wr) (fun vi _ => 30 - (intOf vi).toNat)
        case atStart => exact ⟨0, R, rfl, by have := HW0.out.2.1; omega, HW0.out.1, HW0.out.2.2.1, HW0.out.2.2.2⟩
        case round =>
          clear HW0
          obtain ⟨i, R, rfl, hRi, hW, hT, hkr⟩ := hrel
          have HBW : Hid (∀ w', Keep (fun k => k < g) wr w' → Below w.heap.size w w') := fun w' hk' => HB.out.trans ((hkr.trans hk').below HB.out.size (fun k hk => by have := HB.out.size; have := HG.out; omega))
          have hln := len_w wr _ g R hW
          by_cases h0 : R = []
          · subst h0
            have hs0 : ([] : List (Int × Int)).length = 0 := rfl
            rw [hs0] at hln hRi
            have hnx := next_w0 wr _ g hW
            clear hW hT hkr
            go_wp2_with (first
              | (go_at_call 24; refine hln.mono ?_; rintro e w' ⟨rfl, hw'⟩; obtain rfl : wr = w' := hw'.symm)
              | (go_at_call 23; refine hnx.mono ?_; rintro e w' ⟨rfl, hw'⟩; obtain rfl : wr = w' := hw'.symm))
            go_ret
            exact ⟨rfl, HBW.out _ (Keep.refl _ _)⟩
          · have hpos : 0 < R.length := List.length_pos_iff.2 h0
            obtain ⟨m, hm, hmin, hnx⟩ := next_w wr _ g R hW hpos
            obtain ⟨hm0, hm1⟩ : 0 ≤ m ∧ m ≤ 1099511627776 := by obtain ⟨k, hk⟩ := hm; exact hT _ hk
            have hky := keys_w wr _ g R hW
            have hris := hW.ris
            have HR : Hid (Ris R ∧ Ticks R ∧ (∃ k, (k, m) ∈ R) ∧ (∀ x ∈ R, m ≤ x.2) ∧ Keep (fun k => k < g) w1 wr ∧ WAt wr (fun k => k < g) g R) := ⟨hris, hT, hm, hmin, hkr, hW⟩
            clear hris hT hm hmin hkr hW h0
            go_wp2_with (first
              | (go_at_call 24; refine hln.mono ?_; rintro e w' ⟨rfl, hw'⟩; obtain rfl : wr = w' := hw'.symm)
              | (go_at_call 23; refine hnx.mono ?_; rintro e w' ⟨rfl, hw'⟩; obtain rfl : wr = w' := hw'.symm)
              | (go_at_call 25; fail))
            refine hky.mono ?_
            rintro e w3 ⟨v3, rfl, ho3, hb3⟩
            obtain ⟨a3, c3, rfl, hi3, hbk3⟩ := owns_ints ho3
            clear hky hln hnx ho3
            obtain ⟨r1, r2, r3, r4, r5, r6⟩ := HR.out
            have hW3 := r6.below hb3
            obtain ⟨b3, off3, rfl, hlt3, hc3⟩ := hi3.at_ 0 hpos
            rw [Nat.add_zero] at hc3
            obtain ⟨hf1, hf2⟩ := first_least r1 r3 r4
            have hln3 := len_w w3 _ g R hW3
            have hwf : Wf ((keysR R).getD 0 0) := by
              obtain ⟨a, ha⟩ := hasR_iff.1 hf1
              exact r6.wf _ ha
            have hat3 := at_w w3 _ g R _ hwf hW3
            rw [hf1, hf2] at hat3
            have hl3 := hi3.hle
            have hcp3 := hi3.hcap
            unfold maxLen at hcp3
            have HI3 : Hid (IntsAt w3 (some ⟨b3, off3, none⟩) R.length c3 (keysR R) ∧ (wr.heap.size ≤ b3 ∧ b3 < w3.heap.size) ∧ WAt w3 (fun k => k < g ∨ (wr.heap.size ≤ k ∧ k < w3.heap.size)) g R ∧ Below wr.heap.size wr w3) := ⟨hi3, hbk3 _ rfl, hW3, hb3⟩
            generalize (keysR R).getD 0 0 = kk at hc3 hat3
            clear r1 r2 r3 r4 r5 r6 hW3 hi3 hbk3 hb3 hf1 hf2 hwf
            go_upto_region 14 with (first
              | (go_at_call 24; refine hln3.mono ?_; rintro e w' ⟨rfl, hw'⟩; obtain rfl : w3 = w' := hw'.symm)
              | (go_at_call 20; refine hat3.mono ?_; rintro e w' ⟨rfl, hw'⟩; obtain rfl : w3 = w' := hw'.symm))
            go_cut [89] from 35 to 123 (fun s w4 => s = .bool false ∧ WAt w4 (fun k => k < g ∨ (wr.heap.size ≤ k ∧ k < w3.heap.size)) g R ∧ Keep (fun k => k < g ∨ (wr.heap.size ≤ k ∧ k < w3.heap.size)) w3 w4)
            case first =>
              by_cases hmp : 0 < m
              · have hd4 := due_none w3 _ g R (m - 1) HI3.out.2.2.1 (ahead_none HR.out.2.1 hmp hm1 HR.out.2.2.2.1).1 (ahead_none HR.out.2.1 hmp hm1 HR.out.2.2.2.1).2
                go_wp2_with (first
                  | (go_at_call 19; refine hd4.mono ?_; rintro e w4 ⟨x4, c4, rfl, hW4, hk4⟩))
                go_meet
                exact ⟨rfl, hW4, hk4⟩
              · have hmb : decide (0 < m) = false := by simpa using hmp
                go_wp2_with fail
                go_meet
                exact ⟨rfl, HI3.out.2.2.1, Keep.refl _ _⟩
            case rest =>
              obtain ⟨rfl, hW4, hk4⟩ := hcut
              clear hln3 hat3 hc3
              go_wp2_with fail
              refine (due_w wc _ g R m hW4).mono ?_
              rintro e w5 ⟨v5, rfl, hW5, ho5, hk5⟩
              obtain ⟨a5, c5, rfl, hi5, hbk5⟩ := owns_ints ho5
              have hs5 := keys_split HR.out.1 HR.out.2.1 hm0 hm1 HR.out.2.2.2.1
              have hD0 := due_pos HR.out.2.1 hm0 hm1 HR.out.2.2.1
              have hDr := due_rest_len R m
              have hky5 : IntsAt w5 (some ⟨b3, off3, none⟩) R.length c3 (keysR R) := (HI3.out.1.keep hk4 (fun x hx => by cases hx; exact .inr HI3.out.2.1)).keep hk5 (fun x hx => by cases hx; exact .inr HI3.out.2.1)
              rw [← hs5.1] at hi5
              have hi5l := hi5.hle
              have hi5c := hi5.hcap
              unfold maxLen at hi5c
              have hsl := hky5.take (n := (dueR R m).length) (by omega)
              have hsr := hky5.drop (n := (dueR R m).length) (by omega)
              rw [hs5.2] at hsr
              have hT5 := restR_ticks HR.out.2.1 m
              clear hW4 ho5 hs5 hky5
              generalize (dueR R m).length = D at *
              have hrl : (restR R m).length = R.length - D := by omega
              have hDn : D ≤ R.length := by omega
              have hD1 : ((D : Int) == 0) = false := by rw [beq_eq_false_iff_ne]; omega
              obtain ⟨E, hE⟩ : ∃ E, R.length - D = E := ⟨_, rfl⟩
              have hE2 : (R.length : Int) - (D : Int) = (E : Int) := by omega
              have hwE : IntKind.i64.wrap (E : Int) = (E : Int) := wrap_small (by omega)
              have hD2 : (D : Int) ≤ (R.length : Int) := by omega
              have hD3 : (0 : Int) ≤ (D : Int) := by omega
              have hD4 : (D : Int) ≤ (c3 : Int) := by omega
              rw [hE] at hrl hsr
              have hgr : g ≤ wr.heap.size := by have := HR.out.2.2.2.2.1.size; have := HG.out; omega
              have HK : Hid (Keep (fun k => k < g) w1 w5) := (HR.out.2.2.2.2.1.trans ((keep_below HI3.out.2.2.2).mono fun _ _ h => h)).trans ((hk4.trans hk5).mono fun _ _ h => .inl h)
              have hWg := hW5.fewer (B := fun k => k < g) (fun _ h => .inl (.inl h))
              have HTR : Hid (Ticks (restR R m) ∧ (restR R m).length + (i + 1) ≤ 30) := ⟨hT5, by omega⟩
              clear hk4 hk5 HR HI3 hbk5 hW5 hT5
              generalize restR R m = Rr at *
              by_cases hcd : c3 = D
              · rw [if_pos hcd] at hsr
                subst hcd
                obtain rfl : E = 0 := by omega
                rw [Nat.sub_self] at hsr
                have L0 : LN Rr g a5 (some ⟨b3, off3, none⟩) (some ⟨b3, off3, none⟩) c3 0 c5 c3 0 (keysR R) w5 w5 := ⟨hWg, hi5, hsl, hsr, Below.refl _ _⟩
                have L1 := L0.drew
                generalize keysR R = K at *
                clear hWg hi5 hsl hsr hDr L0 hwE hE2
                generalize R.length = n at *
                obtain rfl : n = c3 := by omega
                have HRL : Hid (Rr.length = 0) := hrl
                have hw0 : IntKind.i64.wrap 0 = 0 := by decide
                have hw1 : IntKind.i64.wrap ((n : Int) - (n : Int)) = 0 := by rw [Int.sub_self]; decide
                clear hE hD2 hD3 hD4 hDn hl3 hrl
                go_wp2
                go_region_held3 (fun w' => LN Rr g a5 (some ⟨b3, off3, none⟩) (some ⟨b3, off3, none⟩) n 0 c5 n 0 K w5 w')
                  (first | assumption | exact LN.step (by assumption) hbx | go_keep)
                  (first
                    | (go_at_call 24; refine (len_z _ _ g Rr HRL.out (LN.wat (by assumption))).mono ?_; rintro e w' ⟨rfl, rfl⟩)
                    | (go_at_call_of 18 (Value.slice a5 n c5); refine (same_b _ _ n c5 n _ _ (LN.l (by assumption)) (LN.k1 (by assumption))).mono ?_; rintro e w' ⟨rfl, hbx⟩)
                    | (go_at_call 25; refine (keys_b _ _ g Rr 0 HRL.out (LN.wat (by assumption))).mono ?_; rintro e w6 ⟨a6, c6, rfl, hi6, hbx⟩)
                    | (go_at_call 18; refine (same_b _ _ 0 _ _ _ _ hi6 (LN.k2 (by assumption))).mono ?_; rintro e w' ⟨rfl, hbx⟩))
                have LE : LN Rr g a5 (some ⟨b3, off3, none⟩) (some ⟨b3, off3, none⟩) n 0 c5 n 0 K w5 w' := by assumption
                have HE : Hid (WAt w' (fun k => k < g) g Rr ∧ Keep (fun k => k < g) w1 w') := ⟨LE.wat, HK.out.trans ((keep_below LE.bel).mono fun _ _ h => h)⟩
                clear LE L1
                go_wp2
                first
                  | exact ⟨⟨i + 1, Rr, by simp, HTR.out.2, HE.out.1, HTR.out.1, HE.out.2⟩, by simp [intOf]; omega⟩
                  | (go_roundw
                     case rel => ((repeat apply Exists.intro); exact ⟨⟨i + 1, Rr, by simp, HTR.out.2, HE.out.1, HTR.out.1, HE.out.2⟩, rfl⟩)
                     case measure => simp [intOf]; omega)
              · rw [if_neg hcd] at hsr
                have e0 : ((⟨b3, off3, none⟩ : Addr).add (D * 1)) = ⟨b3, off3 + D, none⟩ := by unfold Addr.add; split <;> simp_all
                rw [Option.map_some, e0] at hsr
                have L0 : LN Rr g a5 (some ⟨b3, off3, none⟩) (some ⟨b3, off3 + D, none⟩) D E c5 c3 (c3 - D) (keysR R) w5 w5 := ⟨hWg, hi5, hsl, hsr, Below.refl _ _⟩
                have L1 := L0.drew
                generalize keysR R = K at *
                clear hWg hi5 hsl hsr hDr e0 L0
                go_wp2
                go_region_held3 (fun w' => LN Rr g a5 (some ⟨b3, off3, none⟩) (some ⟨b3, off3 + D, none⟩) D E c5 c3 (c3 - D) K w5 w')
                  (first | assumption | exact LN.step (by assumption) hbx | go_keep)
                  (first
                    | (go_at_call 24; refine (len_e _ _ g Rr E hrl (LN.wat (by assumption))).mono ?_; rintro e w' ⟨rfl, rfl⟩)
                    | (go_at_call_of 18 (Value.slice a5 D c5); refine (same_b _ _ D c5 c3 _ _ (LN.l (by assumption)) (LN.k1 (by assumption))).mono ?_; rintro e w' ⟨rfl, hbx⟩)
                    | (go_at_call 25; refine (keys_b _ _ g Rr _ hrl (LN.wat (by assumption))).mono ?_; rintro e w6 ⟨a6, c6, rfl, hi6, hbx⟩)
                    | (go_at_call 18; refine (same_b _ _ E _ _ _ _ hi6 (LN.k2 (by assumption))).mono ?_; rintro e w' ⟨rfl, hbx⟩))
                have LE : LN Rr g a5 (some ⟨b3, off3, none⟩) (some ⟨b3, off3 + D, none⟩) D E c5 c3 (c3 - D) K w5 w' := by assumption
                have HE : Hid (WAt w' (fun k => k < g) g Rr ∧ Keep (fun k => k < g) w1 w') := ⟨LE.wat, HK.out.trans ((keep_below LE.bel).mono fun _ _ h => h)⟩
                clear LE L1
                go_wp2
                first
                  | exact ⟨⟨i + 1, Rr, by simp, HTR.out.2, HE.out.1, HTR.out.1, HE.out.2⟩, by simp [intOf]; omega⟩
                  | (go_roundw
                     case rel => ((repeat apply Exists.intro); exact ⟨⟨i + 1, Rr, by simp, HTR.out.2, HE.out.1, HTR.out.1, HE.out.2⟩, rfl⟩)
                     case measure => simp [intOf]; omega))

end Go.Proofs.Ytahdeliopmkpmaa
