/-
  WheelSets's walk: a key has the deadline that was set last, and is due once, at that. Conditions: the slice lies where it is said to lie; the key is an int.
-/
import Derived.Test.YtahdeliopmkpmaaSmall
namespace Go.Proofs.Ytahdeliopmkpmaa
open Go.ChangeShapes Go.WideShapes Go.ChangeAt Go.RowKit Go.Maps

theorem IntsAt.keep2 {w w' : World} {A : Nat → Prop} {a : Option Addr} {len cap : Nat} {zs : List Int} (h : IntsAt w a len cap zs) (hk : Keep A w w') (hA : ∀ k, k < w.heap.size → A k) : IntsAt w' a len cap zs := by
  refine ⟨h.hlen, h.hle, h.hcap, fun j hj => ?_⟩
  obtain ⟨b, off, e, hlt, hc⟩ := h.at_ j hj
  exact ⟨b, off, e, Nat.lt_of_lt_of_le hlt hk.size, hk.cell hc (hA _ hlt)⟩

theorem one_set0 (k a : Int) : setR [] k a = [(k, a)] := rfl
theorem one_set (k a b : Int) : setR [(k, a)] k b = [(k, b)] := by
  unfold setR delR
  rw [List.filter_cons_of_neg (by simp)]
  rfl
theorem one_has (k a : Int) : hasR [(k, a)] k = true := by simp [hasR]
theorem one_get (k a : Int) : getR [(k, a)] k = a := by simp [getR]
theorem past_self (a : Int) : past a a = true := by simp [past]
theorem past_ahead {a : Int} (h0 : 0 < a) (h1 : a ≤ 1099511627776) : past (a - 1) a = false := by
  unfold past
  rw [cut_mid (by omega) (by omega), cut_mid (by omega) (by omega)]
  simp
  omega
theorem one_due {k a n : Int} (h : past n a = true) : dueR [(k, a)] n = [(k, a)] ∧ restR [(k, a)] n = [] := by
  unfold dueR restR
  simp [h]
theorem one_late {k a n : Int} (h : past n a = false) : dueR [(k, a)] n = [] ∧ restR [(k, a)] n = [(k, a)] := by
  unfold dueR restR
  simp [h]

/-- What the wheel has behind i rounds. -/
def stS (k : Int) (zs : List Int) (i : Nat) : List (Int × Int) := if i = 0 then [] else [(k, cut (zs.getD (i - 1) 0))]
theorem stS_set (k : Int) (zs : List Int) (i : Nat) : setR (stS k zs i) k (cut (zs.getD i 0)) = stS k zs (i + 1) := by
  have e : stS k zs (i + 1) = [(k, cut (zs.getD i 0))] := by
    unfold stS
    rw [if_neg (by omega), Nat.add_sub_cancel]
  rw [e]
  unfold stS
  by_cases h : i = 0
  · rw [if_pos h]; rfl
  · rw [if_neg h]; exact one_set _ _ _
theorem stS_has (k : Int) (zs : List Int) (i : Nat) : hasR (stS k zs i) k = decide (0 < i) := by
  unfold stS
  by_cases h : i = 0
  · rw [if_pos h, h]; rfl
  · rw [if_neg h, one_has]; simp; omega
theorem stS_succ (k : Int) (zs : List Int) (i : Nat) : stS k zs (i + 1) = [(k, cut (zs.getD i 0))] := by
  unfold stS
  rw [if_neg (by omega), Nat.add_sub_cancel]

theorem next_one (w : World) (A : Nat → Prop) (g : Nat) (k a : Int) (h : WAt w A g [(k, a)]) :
    Calls Try.prog 23 #[.pointer (some ⟨g, 0, none⟩)] w fun e w' => e = .returned (.tuple #[.int .i64 a, .bool true]) ∧ w' = w := by
  obtain ⟨m, ⟨k', hm⟩, _, hc⟩ := next_w w A g _ h (by simp)
  simp at hm
  rw [hm.2] at hc
  exact hc

/-- The rest, where nothing was set. -/
theorem due_empty (w : World) (A : Nat → Prop) (g : Nat) (n : Int) (h : WAt w A g []) :
    Calls Try.prog 19 #[.pointer (some ⟨g, 0, none⟩), .int .i64 n] w fun e w' => ∃ a cap, e = .returned (.slice a 0 cap) ∧ WAt w' A g [] ∧ Keep A w w' := by
  refine (due_w w A g [] n h).mono ?_
  rintro e w' ⟨v, rfl, q1, q2, q3⟩
  obtain ⟨a, cap, rfl, _⟩ := owns_ints q2
  exact ⟨a, cap, rfl, q1.fewer (fun _ h => .inl h), q3⟩

theorem due_none (w : World) (A : Nat → Prop) (g : Nat) (R : List (Int × Int)) (n : Int) (h : WAt w A g R) (hd : dueR R n = []) (hr : restR R n = R) :
    Calls Try.prog 19 #[.pointer (some ⟨g, 0, none⟩), .int .i64 n] w fun e w' => ∃ a cap, e = .returned (.slice a 0 cap) ∧ WAt w' A g R ∧ Keep A w w' := by
  refine (due_w w A g R n h).mono ?_
  rintro e w' ⟨v, rfl, q1, q2, q3⟩
  rw [hd] at q2
  rw [hr] at q1
  obtain ⟨a, cap, rfl, _⟩ := owns_ints q2
  exact ⟨a, cap, rfl, q1.fewer (fun _ h => .inl h), q3⟩

theorem due_just (w : World) (A : Nat → Prop) (g : Nat) (k a n : Int) (h : WAt w A g [(k, a)]) (hp : past n a = true) :
    Calls Try.prog 19 #[.pointer (some ⟨g, 0, none⟩), .int .i64 n] w fun e w' => ∃ b cap, e = .returned (.slice (some ⟨b, 0, none⟩) 1 cap) ∧ 1 ≤ cap ∧ cap ≤ maxLen ∧ w'.cell? ⟨b, 0, none⟩ = some (.int .i64 k) ∧ WAt w' (fun x => A x ∨ x = b) g [] ∧ Keep A w w' := by
  obtain ⟨hd, hr⟩ := one_due (k := k) hp
  refine (due_w w A g _ n h).mono ?_
  rintro e w' ⟨v, rfl, q1, q2, q3⟩
  rw [hd] at q2
  rw [hr] at q1
  rcases q2.2 with ⟨_, h0⟩ | ⟨b, cap, cur, rfl, _, hg, h1, h2, h3, h4⟩
  · simp at h0
  · refine ⟨b, cap, rfl, h1, h2, ?_, q1.fewer (fun x hx => ?_), q3⟩
    · have := q2.cells (g := b) rfl 0 (.int .i64 k) (by simp [ic])
      simpa [Addr.add] using this
    · rcases hx with hx | rfl
      · exact .inl hx
      · exact .inr rfl

set_option maxHeartbeats 2000000 in
set_option maxRecDepth 100000 in
theorem sets_walk (key : Int) (hw : Wf key) (a : Option Addr) (len cap : Nat) (zs : List Int) (w : World) (hz : IntsAt w a len cap zs) :
    Calls Try.prog 5 #[.int .i64 key, .slice a len cap] w fun e w' => e = .returned (.bool true) ∧ Below w.heap.size w w' := by
  have hlenle := hz.hle
  have hcaple := hz.hcap
  unfold maxLen at hcaple
  go_enter Try.func5, Try.ntmps5
  go_wp2_with fail
  refine (lives_any _).mono ?_
  rintro e w1 ⟨rfl, hb1⟩
  go_wp2_with fail
  refine (new_w w1).mono ?_
  rintro e w2 ⟨rfl, hW2, hb2, hz2⟩
  have hkb : Keep (fun k => k < w1.heap.size) w1 w2 := keep_below hb2
  go_wp2_with fail
  refine (cancel_w w2 _ _ _ key hw hW2).mono ?_
  rintro e w3 ⟨rfl, hW3, hk3⟩
  have r0 : hasR [] key = false ∧ delR [] key = [] := ⟨rfl, rfl⟩
  rw [r0.2] at hW3
  rw [r0.1]
  have hk13 := hkb.trans hk3
  have HZ : Hid (IntsAt w1 a len cap zs) := hz.below hb1
  have HB : Hid (Below w.heap.size w w1) := hb1
  clear hW2 hkb hk3 hz hb1 hb2 hz2 r0
  generalize hg : w1.heap.size = g at *
  have HG : Hid (w1.heap.size = g) := hg
  clear hg
  go_wp2
  go_loopw [6] (fun vi wr => ∃ i : Nat, vi = .int .i64 i ∧ i ≤ len ∧ i ≤ 20 ∧ WAt wr (fun k => k < g) g (stS key zs i) ∧ Keep (fun k => k < g) w1 wr) (fun vi _ => 20 - (intOf vi).toNat)
  case atStart => exact ⟨0, rfl, Nat.zero_le _, by omega, hW3, hk13⟩
  case round =>
    obtain ⟨i, rfl, hi1, hi2, hW, hkr⟩ := hrel
    have hzr := HZ.out.keep2 hkr (fun k hk => by rw [HG.out] at hk; exact hk)
    by_cases hc : i < len ∧ i < 20
    · obtain ⟨hc1, hc2⟩ := hc
      obtain ⟨b, off, rfl, hlt, hcell⟩ := hzr.at_ i hc1
      have hset := stS_set key zs i
      have hsuc := stS_succ key zs i
      rw [hsuc] at hset
      have hsl : (stS key zs i).length < 999 := by unfold stS; split <;> simp
      have hhas := stS_has key zs i
      generalize hzz : zs.getD i 0 = z at hcell hset hsuc
      have HS : Hid (stS key zs (i + 1) = [(key, cut z)]) := hsuc
      have HR : Hid (Keep (fun k => k < g) w1 wr) := hkr
      clear hzz hsuc hzr hkr
      generalize stS key zs i = R at hW hset hsl hhas
      have hbl : b < g := by
        obtain ⟨b', off', e', hlt', _⟩ := HZ.out.at_ i hc1
        cases e'
        rw [HG.out] at hlt'
        exact hlt'
      have hsetw := set_w wr _ g R key z hw hsl hW
      rw [hset, hhas] at hsetw
      clear hset hsl hhas hW
      by_cases i0 : i = 0
      · subst i0
        rw [Nat.add_zero] at hcell
        go_wp2_with fail
        refine hsetw.mono ?_
        rintro e w4 ⟨rfl, hW4, hk4⟩
        have hcell4 := hk4.cell hcell hbl
        have hat := at_w w4 _ g _ key hw hW4
        rw [one_get, one_has] at hat
        have hnx := next_one w4 _ g key _ hW4
        have hln := len_w w4 _ g _ hW4
        have HW4 : Hid (WAt w4 (fun k => k < g) g [(key, cut z)] ∧ Keep (fun k => k < g) wr w4) := ⟨hW4, hk4⟩
        clear hW4 hk4 hsetw
        have hl1 : ([(key, cut z)] : List (Int × Int)).length = 1 := rfl
        rw [hl1] at hln
        go_wp2_with (first
          | (go_at_call 20; refine hat.mono ?_; rintro e w' ⟨rfl, hw'⟩; obtain rfl : w4 = w' := hw'.symm)
          | (go_at_call 23; refine hnx.mono ?_; rintro e w' ⟨rfl, hw'⟩; obtain rfl : w4 = w' := hw'.symm)
          | (go_at_call 24; refine hln.mono ?_; rintro e w' ⟨rfl, hw'⟩; obtain rfl : w4 = w' := hw'.symm)
          | (go_at_call 26; refine (rcut_any _ _).mono ?_; rintro e w' ⟨rfl, hw'⟩; obtain rfl : w4 = w' := hw'.symm))
        exact ⟨⟨1, rfl, by omega, by omega, by rw [HS.out]; exact HW4.out.1, HR.out.trans HW4.out.2⟩, by simp [intOf]⟩
      · have hpos : decide (0 < i) = true := by simp; omega
        rw [hpos] at hsetw
        go_wp2_with fail
        refine hsetw.mono ?_
        rintro e w4 ⟨rfl, hW4, hk4⟩
        have hcell4 := hk4.cell hcell hbl
        have hat := at_w w4 _ g _ key hw hW4
        rw [one_get, one_has] at hat
        have hnx := next_one w4 _ g key _ hW4
        have hln := len_w w4 _ g _ hW4
        have HW4 : Hid (WAt w4 (fun k => k < g) g [(key, cut z)] ∧ Keep (fun k => k < g) wr w4) := ⟨hW4, hk4⟩
        clear hW4 hk4 hsetw
        have hl1 : ([(key, cut z)] : List (Int × Int)).length = 1 := rfl
        rw [hl1] at hln
        have hi0 : 0 < i := by omega
        go_wp2_with (first
          | (go_at_call 20; refine hat.mono ?_; rintro e w' ⟨rfl, hw'⟩; obtain rfl : w4 = w' := hw'.symm)
          | (go_at_call 23; refine hnx.mono ?_; rintro e w' ⟨rfl, hw'⟩; obtain rfl : w4 = w' := hw'.symm)
          | (go_at_call 24; refine hln.mono ?_; rintro e w' ⟨rfl, hw'⟩; obtain rfl : w4 = w' := hw'.symm)
          | (go_at_call 26; refine (rcut_any _ _).mono ?_; rintro e w' ⟨rfl, hw'⟩; obtain rfl : w4 = w' := hw'.symm))
        exact ⟨⟨i + 1, by simp, by omega, by omega, by rw [HS.out]; exact HW4.out.1, HR.out.trans HW4.out.2⟩, by simp [intOf]; omega⟩
    · have HBW : Hid (∀ w', Keep (fun k => k < g) wr w' → Below w.heap.size w w') := fun w' hk' => HB.out.trans ((hkr.trans hk').below HB.out.size (fun k hk => by have := HB.out.size; have := HG.out; omega))
      clear hzr hkr hW3 hk13
      by_cases hl0 : len = 0
      · subst hl0
        obtain rfl : i = 0 := by omega
        have hln := len_w wr _ g _ hW
        have hs0 : (stS key zs 0).length = 0 := rfl
        rw [hs0] at hln
        clear hW hc
        go_wp2_with (first | (go_at_call 24; refine hln.mono ?_; rintro e w' ⟨rfl, hw'⟩; obtain rfl : wr = w' := hw'.symm))
        go_ret
        exact ⟨rfl, HBW.out _ (Keep.refl _ _)⟩
      · obtain ⟨i', rfl⟩ : ∃ i', i = i' + 1 := ⟨i - 1, by omega⟩
        rw [stS_succ] at hW
        have hlo := cut_lo (zs.getD i' 0)
        have hhi := cut_hi (zs.getD i' 0)
        generalize cut (zs.getD i' 0) = A at hW hlo hhi
        have hbl : ((len : Int) == 0) = false := by rw [beq_eq_false_iff_ne]; omega
        have hat := at_w wr _ g _ key hw hW
        rw [one_get, one_has] at hat
        have hself := past_self A
        have HWr : Hid (WAt wr (fun k => k < g) g [(key, A)]) := hW
        have hexit : (i' = 19 ∧ 20 < len) ∨ len = i' + 1 := by omega
        have HPA : Hid (0 < A → past (A - 1) A = false) := fun h0 => past_ahead h0 hhi
        have HPS : Hid (past A A = true) := hself
        clear hc hW hself hi1 hi2
        rcases hexit with ⟨rfl, h1⟩ | rfl
        all_goals (
          go_wp2_with fail
          refine hat.mono ?_
          rintro e w4 ⟨rfl, hw'⟩
          obtain rfl : wr = w4 := hw'.symm
          clear hat hw'
          by_cases hA0 : 0 < A
          · have hlate := one_late (k := key) (HPA.out hA0)
            have hd1 := due_none wr _ g _ (A - 1) HWr.out hlate.1 hlate.2
            clear hlate
            go_wp2_with fail
            refine hd1.mono ?_
            rintro e w4 ⟨x4, c4, rfl, hW4, hk4⟩
            clear hd1
            go_wp2_with fail
            refine (due_just w4 _ g key A A hW4 HPS.out).mono ?_
            rintro e w5 ⟨b5, c5, rfl, hc5, hm5, hcell5, hW5, hk5⟩
            unfold maxLen at hm5
            clear hW4
            have hd2 := due_empty w5 _ g 1099511627776 hW5
            clear hW5
            go_wp2_with fail
            refine hd2.mono ?_
            rintro e w6 ⟨x6, c6, rfl, hW6, hk6⟩
            have hln := len_w w6 _ g _ hW6
            clear hd2 hW6
            have hs0 : ([] : List (Int × Int)).length = 0 := rfl
            rw [hs0] at hln
            go_wp2_with (first | (go_at_call 24; refine hln.mono ?_; rintro e w' ⟨rfl, hw'⟩; obtain rfl : w6 = w' := hw'.symm))
            go_ret
            exact ⟨rfl, HBW.out _ (hk4.trans (hk5.trans (hk6.mono fun _ _ h => .inl h)))⟩
          · have hAb : decide (0 < A) = false := by simpa using hA0
            go_wp2_with fail
            refine (due_just wr _ g key A A HWr.out HPS.out).mono ?_
            rintro e w5 ⟨b5, c5, rfl, hc5, hm5, hcell5, hW5, hk5⟩
            unfold maxLen at hm5
            have hd2 := due_empty w5 _ g 1099511627776 hW5
            clear hW5
            go_wp2_with fail
            refine hd2.mono ?_
            rintro e w6 ⟨x6, c6, rfl, hW6, hk6⟩
            have hln := len_w w6 _ g _ hW6
            clear hd2 hW6
            have hs0 : ([] : List (Int × Int)).length = 0 := rfl
            rw [hs0] at hln
            go_wp2_with (first | (go_at_call 24; refine hln.mono ?_; rintro e w' ⟨rfl, hw'⟩; obtain rfl : w6 = w' := hw'.symm))
            go_ret
            exact ⟨rfl, HBW.out _ (hk5.trans (hk6.mono fun _ _ h => .inl h))⟩)

end Go.Proofs.Ytahdeliopmkpmaa
