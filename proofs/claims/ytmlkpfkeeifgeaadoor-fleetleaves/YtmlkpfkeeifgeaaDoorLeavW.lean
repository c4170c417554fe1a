/-
  FleetLeaves' walk: it returns true and turns nothing that was there. Conditions: the slices lie where they are said to lie, and the table of states, too.
-/
import Derived.Test.YtmlkpfkeeifgeaaDoorLeavP
import Derived.Test.YtmlkpfkeeifgeaaDoorStaysW
import Derived.Deep.RegionHeldLaw
namespace Go.Proofs.YtmlkpfkeeifgeaaDoor
open Go.ChangeShapes Go.WideShapes Go.ChangeAt Go.RowKit

theorem good_row (a : Option Addr) (len cap : Nat) (zs : List Int) (w : World) (h : IntsAt w a len cap zs) :
    Calls Tryd.prog 20 #[.slice a len cap] w fun e w' => ∃ p n c l, e = .returned (.slice p n c) ∧ (l.Nodup ∧ (∀ s ∈ l, s ∈ names6) ∧ l.length = n ∧ n ≤ 6) ∧ StrsAt w' p n c l ∧ (∀ z, p = some z → z.block < w'.heap.size) ∧ Below w.heap.size w w' := by
  refine (good_any a len cap zs w h).mono ?_
  rintro e w' ⟨v, l, rfl, hnd, hg6, hown, hb⟩
  obtain ⟨p, c, rfl, hs, hbk⟩ := owns_strs hown
  exact ⟨p, l.length, c, l, rfl, ⟨hnd, hg6, rfl, good_len hnd hg6⟩, hs, fun z hz => (hbk z hz).2, hb⟩

/-- What is read of a host while the region is walked: the name at p; the fleet. -/
structure LR (w7 : World) (A : Nat → Prop) (f : Nat) (s : Fl) (p : Addr) (x : ByteArray) (w : World) : Prop where
  fin : FA w A f 2 0 s
  bel : Below w7.heap.size w7 w
  at_ : w.cell? p = some (.string x)
theorem LR.step {w7 w w' : World} {A : Nat → Prop} {f : Nat} {s : Fl} {p : Addr} {x : ByteArray} (h : w.cell? p = some (.string x) ∧ LR w7 A f s p x w) (hb : Below w.heap.size w w') : w'.cell? p = some (.string x) ∧ LR w7 A f s p x w' := by
  have e := (hb.cell (p := p) (World.block_lt_of_cell? _ _ h.1)).trans h.1
  exact ⟨e, h.2.fin.below hb, h.2.bel.trans (hb.mono h.2.bel.size), e⟩

set_option maxHeartbeats 8000000 in
set_option maxRecDepth 100000 in
theorem leav_walk (a1 : Option Addr) (l1 c1 : Nat) (zs1 : List Int) (a2 : Option Addr) (l2 c2 : Nat) (zs2 : List Int) (a3 : Option Addr) (l3 c3 : Nat) (zs3 : List Int) (w : World) (ht : St.Tabs w) (h1 : IntsAt w a1 l1 c1 zs1) (h2 : IntsAt w a2 l2 c2 zs2) (h3 : IntsAt w a3 l3 c3 zs3) :
    Calls Tryd.prog 6 #[.slice a1 l1 c1, .slice a2 l2 c2, .slice a3 l3 c3] w fun r w' => r = .returned (.bool true) ∧ Below w.heap.size w w' := by
  have HT := Hid.mk' ht
  have H1 := Hid.mk' h1
  have H2 := Hid.mk' h2
  have H3 := Hid.mk' h3
  clear ht h1 h2 h3
  go_enter Tryd.func6, Tryd.ntmps6
  go_wp2_with fail
  refine (lives_any w HT.out).mono ?_
  rintro e w1 ⟨rfl, hb1⟩
  go_wp2_with fail
  refine (good_row _ _ _ _ w1 (H1.out.below (Nat.le_refl _) hb1)).mono ?_
  rintro e w2 ⟨pa, la, ca, na, rfl, hga, hsa, hba, hb2⟩
  have hb02 : Below w.heap.size w w2 := below_trans hb1 hb2
  go_wp2_with fail
  refine (good_row _ _ _ _ w2 (H2.out.below (Nat.le_refl _) hb02)).mono ?_
  rintro e w3 ⟨pb, lb, cb, nb, rfl, hgb, hsb, hbb, hb3⟩
  have hb03 : Below w.heap.size w w3 := below_trans hb02 hb3
  go_wp2_with fail
  refine (good_row _ _ _ _ w3 (H3.out.below (Nat.le_refl _) hb03)).mono ?_
  rintro e w4 ⟨pc, lc, cc', nc, rfl, hgc, hsc, hbc, hb4⟩
  have hb04 : Below w.heap.size w w4 := below_trans hb03 hb4
  have HB4 := Hid.mk' hb04
  have HGA := Hid.mk' hga
  have HGB := Hid.mk' hgb
  have HGC := Hid.mk' hgc
  have HSA : Hid (StrsAt w4 pa la ca na) := (hsa.below (Nat.le_refl _) hb3).below (Nat.le_refl _) hb4
  have HSB : Hid (StrsAt w4 pb lb cb nb) := hsb.below (Nat.le_refl _) hb4
  have HSC := Hid.mk' hsc
  have HA0 : Hid ((∀ z, pa = some z → z.block < w4.heap.size) ∧ (∀ z, pb = some z → z.block < w4.heap.size) ∧ (∀ z, pc = some z → z.block < w4.heap.size)) := ⟨fun z hz => Nat.lt_of_lt_of_le (hba z hz) (Nat.le_trans hb3.size hb4.size), fun z hz => Nat.lt_of_lt_of_le (hbb z hz) hb4.size, hbc⟩
  have hnew := q_new 2 0 w4 (HT.out.below hb04)
  have hla : la ≤ ca ∧ ca ≤ 2 ^ 63 - 1 := ⟨hsa.hle, hsa.hcap⟩
  have hlb : lb ≤ cb ∧ cb ≤ 2 ^ 63 - 1 := ⟨hsb.hle, hsb.hcap⟩
  have hlc : lc ≤ cc' ∧ cc' ≤ 2 ^ 63 - 1 := ⟨hsc.hle, hsc.hcap⟩
  have hla6 : la ≤ 6 ∧ lb ≤ 6 ∧ lc ≤ 6 := ⟨hga.2.2.2, hgb.2.2.2, hgc.2.2.2⟩
  clear hb1 hb2 hb3 hb4 hb02 hb03 hb04 hga hgb hgc hsa hsb hsc hba hbb hbc H1 H2 H3 HT
  go_wp2_with fail
  refine hnew.mono ?_
  rintro r w5 ⟨f, rfl, hq5, hb5⟩
  have hga := HGA.out
  have hr1 := res_new hga.1 (good_chk hga.1 hga.2.1) 5
  have hp := q_resolve (s := ⟨[], [], []⟩) hq5 Inv.nil pa la ca (HSA.out.below (Nat.le_refl _) hb5) HA0.out.1 (good_size hga.2.1) 5 (Nat.zero_le _) (Nat.zero_le _) (fun i hi => absurd hi (Nat.not_lt_zero _)) 0 na [] la 0 hr1.1 hr1.2.1 hr1.2.2.1 hr1.2.2.2 hga.2.2.1 rfl
  have HQ5 := Hid.mk' hq5
  have HB5 := Hid.mk' hb5
  have HW1 : Hid (W ⟨sta g0 na, [], []⟩) := by have := W.start.resolve na 5; rwa [hr1.2.1] at this
  clear hnew hq5 hb5 hr1 hga
  go_wp2_with fail
  refine hp.mono ?_
  rintro r w6 ⟨a5, d5, a5', d5', rfl, -, -, hf6, hk6⟩
  have HF6 : Hid (FA w6 (fun k => k < w4.heap.size) f 2 0 ⟨sta g0 na, [], []⟩) := FIn.fewer hf6 (fun k hk => .inl (.inl hk)) HQ5.out.a0
  have HK6 : Hid (Keep (fun k => k < w4.heap.size) w4 w6) := (keep_below HB5.out).trans hk6
  have hga := HGA.out
  have hgb := HGB.out
  have hr2 := res_two hga.1 hgb.1 (good_all hga.2.1) (good_chk hgb.1 hgb.2.1) 7
  obtain ⟨ol, hol⟩ : ∃ ol, outs nb na = ol := ⟨_, rfl⟩
  obtain ⟨oc, hoc⟩ : ∃ oc, outs na nb = oc := ⟨_, rfl⟩
  obtain ⟨ll, hll⟩ : ∃ ll, ol.length = ll := ⟨_, rfl⟩
  obtain ⟨lk, hlk⟩ : ∃ lk, oc.length = lk := ⟨_, rfl⟩
  have hcnt : lk + la = lb + ll := by have := outs_count hga.1 hgb.1; rw [hol, hoc, hll, hlk, hga.2.2.1, hgb.2.2.1] at this; exact this
  have hllb : ll ≤ 6 := by have := List.length_filter_le (fun x => !hasB nb x) na; rw [show na.filter (fun x => !hasB nb x) = ol from hol, hll, hga.2.2.1] at this; omega
  obtain ⟨s2, hs2⟩ : ∃ s, (⟨sta (gA nb) (na ++ oc), [], ol.map (fun x => (x, cut 7))⟩ : Fl) = s := ⟨_, rfl⟩
  rw [hol, hoc, hs2] at hr2
  have hsl : (sta g0 na).length = la := by rw [sta_length]; exact hga.2.2.1
  have hp2 := q_resolve (s := ⟨sta g0 na, [], []⟩) HF6.out Inv.nil pb lb cb (HSB.out.keepB HK6.out HA0.out.2.1) HA0.out.2.1 (good_size hgb.2.1) 7 (by show (sta g0 na).length ≤ 3900; omega) (by show 0 + (sta g0 na).length ≤ 4000; omega) (HW1.out.few (by show (sta g0 na).length ≤ 1900; omega)).sz 0 oc ol lk ll hr2.1 hr2.2.1 hr2.2.2.1 hr2.2.2.2 hlk hll
  have HW2 : Hid (W s2) := by have := HW1.out.resolve nb 7; rwa [hr2.2.1] at this
  have HOL : Hid (outs nb na = ol ∧ outs na nb = oc ∧ ol.length = ll) := ⟨hol, hoc, hll⟩
  have HS2 : Hid ((⟨sta (gA nb) (na ++ oc), [], ol.map (fun x => (x, cut 7))⟩ : Fl) = s2) := hs2
  clear hp hf6 hk6 HQ5 HB5 hr2 hga hgb hol hoc hll hlk hs2 hsl HW1
  go_wp2_with fail
  refine hp2.mono ?_
  rintro r w7 ⟨a7, d7, pl', dl, rfl, -, ho7, hf7, hk7⟩
  obtain ⟨_, _, e7, hs7, -⟩ := owns_strs ho7
  cases e7
  have HF7 := Hid.mk' hf7
  have HA : Hid (∀ k, k < w4.heap.size → ((fun k => (k < w4.heap.size ∨ bk pl' k) ∨ bk a7 k) k)) := fun k hk => .inl (.inl hk)
  have HAL : Hid (∀ z, pl' = some z → ((fun k => (k < w4.heap.size ∨ bk pl' k) ∨ bk a7 k) z.block)) := fun z hz => .inl (.inr ⟨z, hz, rfl⟩)
  have HK7 : Hid (Keep (fun k => k < w4.heap.size) w4 w7) := HK6.out.trans hk7
  have HSL := Hid.mk' hs7
  have hll7 : ll ≤ dl ∧ dl ≤ 2 ^ 63 - 1 := ⟨hs7.hle, hs7.hcap⟩
  clear hp2 hf7 hk7 HF6 HK6 ho7 hs7
  generalize (fun k => (k < w4.heap.size ∨ bk pl' k) ∨ bk a7 k) = A at *
  have HROW : Hid (∀ w', Keep A w7 w' → StrsAt w' pa la ca na ∧ StrsAt w' pb lb cb nb ∧ StrsAt w' pc lc cc' nc ∧ StrsAt w' pl' ll dl ol) := fun w' hk => by
    have hkk : Keep (fun k => k < w4.heap.size) w4 w' := HK7.out.trans (hk.mono fun k _ h => HA.out k h)
    exact ⟨HSA.out.keepB hkk HA0.out.1, HSB.out.keepB hkk HA0.out.2.1, HSC.out.keepB hkk HA0.out.2.2, HSL.out.keepB hk HAL.out⟩
  have HEND : Hid (∀ w', Keep A w7 w' → Below w.heap.size w w') := fun w' hk => by
    have hkk : Keep (fun k => k < w4.heap.size) w4 w' := HK7.out.trans (hk.mono fun k _ h => HA.out k h)
    exact HB4.out.trans (hkk.below HB4.out.size (fun k hk => Nat.lt_of_lt_of_le hk HB4.out.size))
  have HPC : Hid (∀ z, pc = some z → A z.block) := fun z hz => HA.out _ (HA0.out.2.2 z hz)
  clear HK7 HSA HSB HSC HSL HA0 HA HB4
  go_wp2
  go_loopw [14] (fun v14 wr => ∃ (i : Nat), v14 = .int .i64 i ∧ i ≤ la ∧ Hid (Below w7.heap.size w7 wr)) (fun v14 _ => la + 1 - (intOf v14).toNat)
  case atStart => exact ⟨0, rfl, Nat.zero_le _, Below.refl _ _⟩
  case round =>
    obtain ⟨i, rfl, hi, HB⟩ := hrel
    by_cases hin : i < la
    · obtain ⟨hra, hrb, -, hrl⟩ := HROW.out wr (keep_below HB.out)
      obtain ⟨b, off, rfl, hbx, hcx⟩ := hra.at_ i hin
      have hga := HGA.out
      have hol := HOL.out
      have hx : na.getD i ⟨#[]⟩ ∈ na := getD_mem (by rw [hga.2.2.1]; exact hin)
      generalize na.getD i ⟨#[]⟩ = x at *
      have hxa : x ∈ na ++ oc := List.mem_append.2 (.inl hx)
      have hH : s2.H = sta (gA nb) (na ++ oc) := by rw [← HS2.out]
      have hM : s2.M = ol.map (fun x => (x, cut 7)) := by rw [← HS2.out]
      have hf := HF7.out.below HB.out
      have hhas := has_any _ _ _ nb x wr hrb
      have hst := fstate_w hf x
      have hlv : Hid (∀ w', LR w7 A f s2 ⟨b, off + i, none⟩ x w' → Calls Tryd.prog 28 #[.pointer (some ⟨f, 0, none⟩), .string x] w' fun r w'' => r = .returned (.bool (!hasB nb x)) ∧ Below w'.heap.size w' w'') := fun w' h => by
        have := fleaves_w h.fin x
        rw [hH, lvF_sta hxa] at this
        have e : (gA nb x).2 = !hasB nb x := by cases h : hasB nb x with | true => rw [gA_in h]; rfl | false => rw [gA_out h]; rfl
        rwa [e] at this
      have hxl : hasB ol x = !hasB nb x := by
        cases h : hasB nb x with
        | true => exact hasB_not.2 fun hm => by rw [← hol.1] at hm; exact (mem_outs.1 hm).2 (hasB_iff.1 h)
        | false => exact hasB_iff.2 (by rw [← hol.1]; exact mem_outs.2 ⟨hx, hasB_not.1 h⟩)
      have hle : Hid (∀ w', LR w7 A f s2 ⟨b, off + i, none⟩ x w' → Calls Tryd.prog 26 #[.slice pl' ll dl, .string x] w' fun r w'' => r = .returned (.bool (!hasB nb x)) ∧ Below w'.heap.size w' w'') := fun w' h => by
        have := has_any _ _ _ ol x w' (HROW.out w' (keep_below h.bel)).2.2.2
        rw [hxl] at this
        exact this.mono fun _ _ ⟨t1, t2⟩ => ⟨t1, t2 ▸ Below.refl _ _⟩
      have hmlen : s2.M.length ≤ 4000 := by rw [hM, List.length_map, hol.2.2]; omega
      have hd7 : Hid (∀ w', LR w7 A f s2 ⟨b, off + i, none⟩ x w' → Calls Tryd.prog 29 #[.pointer (some ⟨f, 0, none⟩), .int .i64 7] w' fun r w'' => ∃ a n c, r = .returned (.slice a n c) ∧ Hid (∀ w3, Below w''.heap.size w'' w3 → Calls Tryd.prog 26 #[.slice a n c, .string x] w3 fun r w4 => r = .returned (.bool (!hasB nb x)) ∧ Below w3.heap.size w3 w4) ∧ Below w'.heap.size w' w'') := fun w' h => by
        refine (fdue_w h.fin 7 hmlen).mono ?_
        rintro r w'' ⟨v, rfl, o1, hb⟩
        rw [hM, due_all 7 _ past77] at o1
        obtain ⟨a, c, rfl, hs, hbl⟩ := owns_strs o1
        refine ⟨a, _, c, rfl, fun w3 hb3 => ?_, hb⟩
        have := has_any _ _ _ ol x w3 (hs.below (Nat.le_refl _) hb3)
        rw [hxl] at this
        exact this.mono fun _ _ ⟨t1, t2⟩ => ⟨t1, t2 ▸ Below.refl _ _⟩
      have hd6 : Hid (∀ w', LR w7 A f s2 ⟨b, off + i, none⟩ x w' → Calls Tryd.prog 29 #[.pointer (some ⟨f, 0, none⟩), .int .i64 6] w' fun r w'' => ∃ a n c, r = .returned (.slice a n c) ∧ Hid (∀ w3, Below w''.heap.size w'' w3 → Calls Tryd.prog 26 #[.slice a n c, .string x] w3 fun r w4 => r = .returned (.bool false) ∧ Below w3.heap.size w3 w4) ∧ Below w'.heap.size w' w'') := fun w' h => by
        refine (fdue_w h.fin 6 hmlen).mono ?_
        rintro r w'' ⟨v, rfl, o1, hb⟩
        rw [hM, due_none 6 _ past67] at o1
        obtain ⟨a, c, rfl, hs, hbl⟩ := owns_strs o1
        refine ⟨a, _, c, rfl, fun w3 hb3 => ?_, hb⟩
        have := has_any _ _ _ [] x w3 (hs.below (Nat.le_refl _) hb3)
        exact this.mono fun _ _ ⟨t1, t2⟩ => ⟨t1, t2 ▸ Below.refl _ _⟩
      have HLR : Hid (∀ w', Below wr.heap.size wr w' → w'.cell? ⟨b, off + i, none⟩ = some (.string x) ∧ LR w7 A f s2 ⟨b, off + i, none⟩ x w') := fun w' hb => by
        have e := (hb.cell (p := ⟨b, off + i, none⟩) hbx).trans hcx
        exact ⟨e, hf.below hb, HB.out.trans (hb.mono HB.out.size), e⟩
      have hisx : isH x s2.H = true := by rw [hH]; exact isH_sta.2 hxa
      have hstx : stF x s2.H = (gA nb x).1 := by rw [hH]; exact stF_sta hxa
      rw [hisx, hstx] at hst
      clear hra hrb hrl hxa hH hM hf hxl hmlen hisx hstx hol hga hx
      cases hnb : hasB nb x with
      | true =>
        rw [gA_in hnb] at hst
        rw [hnb] at hhas hlv hle hd7
        go_upto_region 14 with (go_at_call 26; refine hhas.mono ?_; rintro r w8 ⟨rfl, hw8⟩; subst hw8)
        go_upto_region 15 with (go_at_call 27; refine hst.mono ?_; rintro r w9 ⟨rfl, hb9⟩; have hlr := HLR.out w9 hb9)
        clear hlr
        refine wp_region_held_drew (S := fun w' => w'.cell? ⟨b, off + i, none⟩ = some (.string x) ∧ LR w7 A f s2 ⟨b, off + i, none⟩ x w') (by kernel_rfl) ?_ (fun hHeld => ?_)
        · exact HLR.out _ (below_drewN hb9 1)
        refine wpAnyH_take (i := 0) (oi := { dst := some 66, op := Op.move (Operand.tmp 17), type := 4, pos := "law.go:211", after := #[], guard := none }) (v := ?_) rfl (by kernel_rfl) (by kernel_rfl) (by kernel_rfl) (fun _ _ _ h => h) (Or.inl ⟨by rfl, ?_⟩) (by assumption) ?_
        rotate_left
        · intro w hSw
          try dsimp only at hSw
          go_simp
          first | done | with_reducible rfl
        try simp only [Act.put, List.setIfInBounds_toArray, List.set_cons_zero, List.set_cons_succ]
        refine wpAnyH_take (i := 1) (oi := { dst := some 67, op := Op.unOp UnOp.not 4 (Operand.tmp 66), type := 4, pos := "law.go:211", after := #[{ on := 0, ground := Ground.data }], guard := none }) (v := ?_) rfl (by kernel_rfl) (by kernel_rfl) (by kernel_rfl) (fun _ _ _ h => h) (Or.inl ⟨by rfl, ?_⟩) (by assumption) ?_
        rotate_left
        · intro w hSw
          try dsimp only at hSw
          go_simp
          first | done | with_reducible rfl
        try simp only [Act.put, List.setIfInBounds_toArray, List.set_cons_zero, List.set_cons_succ]
        refine wpAnyH_take (i := 2) (oi := { dst := some 68, op := Op.move (Operand.tmp 67), type := 4, pos := "law.go:211", after := #[{ on := 1, ground := Ground.data }], guard := none }) (v := ?_) rfl (by kernel_rfl) (by kernel_rfl) (by kernel_rfl) (fun _ _ _ h => h) (Or.inl ⟨by rfl, ?_⟩) (by assumption) ?_
        rotate_left
        · intro w hSw
          try dsimp only at hSw
          go_simp
          first | done | with_reducible rfl
        try simp only [Act.put, List.setIfInBounds_toArray, List.set_cons_zero, List.set_cons_succ]
        refine wpAnyH_take (i := 3) (oi := { dst := some 69, op := Op.move (Operand.tmp 10), type := 25, pos := "law.go:211", after := #[{ on := 2, ground := Ground.guard }], guard := some (2, false) }) (v := ?_) rfl (by kernel_rfl) (by kernel_rfl) (by kernel_rfl) (fun _ _ _ h => h) (Or.inl ⟨by rfl, ?_⟩) (by assumption) ?_
        rotate_left
        · intro w hSw
          try dsimp only at hSw
          go_simp
          first | done | with_reducible rfl
        try simp only [Act.put, List.setIfInBounds_toArray, List.set_cons_zero, List.set_cons_succ]
        refine wpAnyH_take (i := 4) (oi := { dst := some 70, op := Op.move (Operand.tmp 7), type := 27, pos := "law.go:211", after := #[{ on := 2, ground := Ground.guard }], guard := some (2, false) }) (v := ?_) rfl (by kernel_rfl) (by kernel_rfl) (by kernel_rfl) (fun _ _ _ h => h) (Or.inl ⟨by rfl, ?_⟩) (by assumption) ?_
        rotate_left
        · intro w hSw
          try dsimp only at hSw
          go_simp
          first | done | with_reducible rfl
        try simp only [Act.put, List.setIfInBounds_toArray, List.set_cons_zero, List.set_cons_succ]
        refine wpAnyH_take (i := 5) (oi := { dst := some 71, op := Op.move (Operand.tmp 14), type := 3, pos := "law.go:211", after := #[{ on := 2, ground := Ground.guard }], guard := some (2, false) }) (v := ?_) rfl (by kernel_rfl) (by kernel_rfl) (by kernel_rfl) (fun _ _ _ h => h) (Or.inl ⟨by rfl, ?_⟩) (by assumption) ?_
        rotate_left
        · intro w hSw
          try dsimp only at hSw
          go_simp
          first | done | with_reducible rfl
        try simp only [Act.put, List.setIfInBounds_toArray, List.set_cons_zero, List.set_cons_succ]
        refine wpAnyH_take (i := 6) (oi := { dst := some 72, op := Op.indexAddr 27 (Operand.tmp 70) (Operand.tmp 71), type := 0, pos := "law.go:211", after := #[{ on := 4, ground := Ground.data }, { on := 5, ground := Ground.data }, { on := 2, ground := Ground.guard }], guard := some (2, false) }) (v := ?_) rfl (by kernel_rfl) (by kernel_rfl) (by kernel_rfl) (fun _ _ _ h => h) (Or.inl ⟨by rfl, ?_⟩) (by assumption) ?_
        rotate_left
        · intro w hSw
          try dsimp only at hSw
          go_simp
          first | done | with_reducible rfl
        try simp only [Act.put, List.setIfInBounds_toArray, List.set_cons_zero, List.set_cons_succ]
        refine wpAnyH_take (i := 7) (oi := { dst := some 73, op := Op.load 9 (Operand.tmp 72), type := 9, pos := "law.go:211", after := #[{ on := 6, ground := Ground.data }, { on := 2, ground := Ground.guard }], guard := some (2, false) }) (v := ?_) rfl (by kernel_rfl) (by kernel_rfl) (by kernel_rfl) (fun _ _ _ h => h) (Or.inl ⟨by rfl, ?_⟩) (by assumption) ?_
        rotate_left
        · intro w hSw
          try dsimp only at hSw
          go_simp
          first | done | with_reducible rfl
        try simp only [Act.put, List.setIfInBounds_toArray, List.set_cons_zero, List.set_cons_succ]
        refine wpAnyH_take (i := 9) (oi := { dst := some 75, op := Op.move (Operand.tmp 15), type := 4, pos := "law.go:211", after := #[{ on := 2, ground := Ground.guard }], guard := some (2, false) }) (v := ?_) rfl (by kernel_rfl) (by kernel_rfl) (by kernel_rfl) (fun _ _ _ h => h) (Or.inl ⟨by rfl, ?_⟩) (by assumption) ?_
        rotate_left
        · intro w hSw
          try dsimp only at hSw
          go_simp
          first | done | with_reducible rfl
        try simp only [Act.put, List.setIfInBounds_toArray, List.set_cons_zero, List.set_cons_succ]
        refine wpAnyH_ready (rs := [8]) (by kernel_rfl) (by simp) ?_
        refine AllReadyH.cons (o := { dst := some 74, op := Op.call { callee := Callee.value (Operand.func 28), args := #[Operand.tmp 69, Operand.tmp 73], argTypes := #[25, 9] }, type := 4, pos := "law.go:211", after := #[{ on := 3, ground := Ground.data }, { on := 7, ground := Ground.data }, { on := 2, ground := Ground.chain }, { on := 2, ground := Ground.guard }], guard := some (2, false) }) rfl (fun K hK => ?_) AllReadyH.nil
        go_simp
        (go_at_call 28; refine (hlv.out _ (And.right (by assumption))).mono ?_; rintro e w10 ⟨rfl, hbx⟩)
        try go_wp2_with fail
        refine hK.out _ _ ?_ (fun hHeld => ?_)
        · first | assumption | exact LR.step (by assumption) hbx
        clear hK K
        try simp only [Act.put, List.setIfInBounds_toArray, List.set_cons_zero, List.set_cons_succ]
        refine wpAnyH_take (i := 10) (oi := { dst := some 76, op := Op.binOp BinOp.eql 4 (Operand.tmp 74) (Operand.tmp 75) 4, type := 4, pos := "law.go:211", after := #[{ on := 8, ground := Ground.data }, { on := 9, ground := Ground.data }, { on := 2, ground := Ground.guard }], guard := some (2, false) }) (v := ?_) rfl (by kernel_rfl) (by kernel_rfl) (by kernel_rfl) (fun _ _ _ h => h) (Or.inl ⟨by rfl, ?_⟩) (by assumption) ?_
        rotate_left
        · intro w hSw
          try dsimp only at hSw
          go_simp
          first | done | with_reducible rfl
        try simp only [Act.put, List.setIfInBounds_toArray, List.set_cons_zero, List.set_cons_succ]
        refine wpAnyH_take (i := 11) (oi := { dst := some 77, op := Op.pick (Operand.tmp 68) (Operand.const (Value.bool true)) (Operand.tmp 76), type := 4, pos := "law.go:211", after := #[{ on := 2, ground := Ground.data }, { on := 10, ground := Ground.data }], guard := none }) (v := ?_) rfl (by kernel_rfl) (by kernel_rfl) (by kernel_rfl) (fun _ _ _ h => h) (Or.inl ⟨by rfl, ?_⟩) (by assumption) ?_
        rotate_left
        · intro w hSw
          try dsimp only at hSw
          go_simp
          first | done | with_reducible rfl
        try simp only [Act.put, List.setIfInBounds_toArray, List.set_cons_zero, List.set_cons_succ]
        refine wpAnyH_take (i := 12) (oi := { dst := some 78, op := Op.move (Operand.tmp 77), type := 4, pos := "law.go:211", after := #[{ on := 11, ground := Ground.data }, { on := 8, ground := Ground.chain }], guard := none }) (v := ?_) rfl (by kernel_rfl) (by kernel_rfl) (by kernel_rfl) (fun _ _ _ h => h) (Or.inl ⟨by rfl, ?_⟩) (by assumption) ?_
        rotate_left
        · intro w hSw
          try dsimp only at hSw
          go_simp
          first | done | with_reducible rfl
        try simp only [Act.put, List.setIfInBounds_toArray, List.set_cons_zero, List.set_cons_succ]
        refine wpAnyH_take (i := 13) (oi := { dst := some 79, op := Op.move (Operand.tmp 15), type := 4, pos := "law.go:211", after := #[{ on := 12, ground := Ground.guard }], guard := some (12, false) }) (v := ?_) rfl (by kernel_rfl) (by kernel_rfl) (by kernel_rfl) (fun _ _ _ h => h) (Or.inl ⟨by rfl, ?_⟩) (by assumption) ?_
        rotate_left
        · intro w hSw
          try dsimp only at hSw
          go_simp
          first | done | with_reducible rfl
        try simp only [Act.put, List.setIfInBounds_toArray, List.set_cons_zero, List.set_cons_succ]
        refine wpAnyH_take (i := 14) (oi := { dst := some 80, op := Op.move (Operand.tmp 16), type := 3, pos := "law.go:211", after := #[{ on := 12, ground := Ground.guard }], guard := some (12, false) }) (v := ?_) rfl (by kernel_rfl) (by kernel_rfl) (by kernel_rfl) (fun _ _ _ h => h) (Or.inl ⟨by rfl, ?_⟩) (by assumption) ?_
        rotate_left
        · intro w hSw
          try dsimp only at hSw
          go_simp
          first | done | with_reducible rfl
        try simp only [Act.put, List.setIfInBounds_toArray, List.set_cons_zero, List.set_cons_succ]
        refine wpAnyH_take (i := 15) (oi := { dst := some 81, op := Op.binOp BinOp.eql 3 (Operand.tmp 80) (Operand.const (Value.int IntKind.i64 0)) 3, type := 4, pos := "law.go:211", after := #[{ on := 14, ground := Ground.data }, { on := 12, ground := Ground.guard }], guard := some (12, false) }) (v := ?_) rfl (by kernel_rfl) (by kernel_rfl) (by kernel_rfl) (fun _ _ _ h => h) (Or.inl ⟨by rfl, ?_⟩) (by assumption) ?_
        rotate_left
        · intro w hSw
          try dsimp only at hSw
          go_simp
          first | done | with_reducible rfl
        try simp only [Act.put, List.setIfInBounds_toArray, List.set_cons_zero, List.set_cons_succ]
        refine wpAnyH_take (i := 16) (oi := { dst := some 82, op := Op.binOp BinOp.neq 4 (Operand.tmp 79) (Operand.tmp 81) 4, type := 4, pos := "law.go:211", after := #[{ on := 13, ground := Ground.data }, { on := 15, ground := Ground.data }, { on := 12, ground := Ground.guard }], guard := some (12, false) }) (v := ?_) rfl (by kernel_rfl) (by kernel_rfl) (by kernel_rfl) (fun _ _ _ h => h) (Or.inl ⟨by rfl, ?_⟩) (by assumption) ?_
        rotate_left
        · intro w hSw
          try dsimp only at hSw
          go_simp
          first | done | with_reducible rfl
        try simp only [Act.put, List.setIfInBounds_toArray, List.set_cons_zero, List.set_cons_succ]
        refine wpAnyH_take (i := 17) (oi := { dst := some 83, op := Op.pick (Operand.tmp 78) (Operand.const (Value.bool true)) (Operand.tmp 82), type := 4, pos := "law.go:211", after := #[{ on := 12, ground := Ground.data }, { on := 16, ground := Ground.data }], guard := none }) (v := ?_) rfl (by kernel_rfl) (by kernel_rfl) (by kernel_rfl) (fun _ _ _ h => h) (Or.inl ⟨by rfl, ?_⟩) (by assumption) ?_
        rotate_left
        · intro w hSw
          try dsimp only at hSw
          go_simp
          first | done | with_reducible rfl
        try simp only [Act.put, List.setIfInBounds_toArray, List.set_cons_zero, List.set_cons_succ]
        refine wpAnyH_take (i := 18) (oi := { dst := some 84, op := Op.move (Operand.tmp 83), type := 4, pos := "law.go:211", after := #[{ on := 17, ground := Ground.data }, { on := 12, ground := Ground.chain }], guard := none }) (v := ?_) rfl (by kernel_rfl) (by kernel_rfl) (by kernel_rfl) (fun _ _ _ h => h) (Or.inl ⟨by rfl, ?_⟩) (by assumption) ?_
        rotate_left
        · intro w hSw
          try dsimp only at hSw
          go_simp
          first | done | with_reducible rfl
        try simp only [Act.put, List.setIfInBounds_toArray, List.set_cons_zero, List.set_cons_succ]
        refine wpAnyH_take (i := 19) (oi := { dst := some 85, op := Op.move (Operand.tmp 12), type := 27, pos := "law.go:211", after := #[{ on := 18, ground := Ground.guard }], guard := some (18, false) }) (v := ?_) rfl (by kernel_rfl) (by kernel_rfl) (by kernel_rfl) (fun _ _ _ h => h) (Or.inl ⟨by rfl, ?_⟩) (by assumption) ?_
        rotate_left
        · intro w hSw
          try dsimp only at hSw
          go_simp
          first | done | with_reducible rfl
        try simp only [Act.put, List.setIfInBounds_toArray, List.set_cons_zero, List.set_cons_succ]
        refine wpAnyH_take (i := 20) (oi := { dst := some 86, op := Op.move (Operand.tmp 7), type := 27, pos := "law.go:211", after := #[{ on := 18, ground := Ground.guard }], guard := some (18, false) }) (v := ?_) rfl (by kernel_rfl) (by kernel_rfl) (by kernel_rfl) (fun _ _ _ h => h) (Or.inl ⟨by rfl, ?_⟩) (by assumption) ?_
        rotate_left
        · intro w hSw
          try dsimp only at hSw
          go_simp
          first | done | with_reducible rfl
        try simp only [Act.put, List.setIfInBounds_toArray, List.set_cons_zero, List.set_cons_succ]
        refine wpAnyH_take (i := 21) (oi := { dst := some 87, op := Op.move (Operand.tmp 14), type := 3, pos := "law.go:211", after := #[{ on := 18, ground := Ground.guard }], guard := some (18, false) }) (v := ?_) rfl (by kernel_rfl) (by kernel_rfl) (by kernel_rfl) (fun _ _ _ h => h) (Or.inl ⟨by rfl, ?_⟩) (by assumption) ?_
        rotate_left
        · intro w hSw
          try dsimp only at hSw
          go_simp
          first | done | with_reducible rfl
        try simp only [Act.put, List.setIfInBounds_toArray, List.set_cons_zero, List.set_cons_succ]
        refine wpAnyH_take (i := 22) (oi := { dst := some 88, op := Op.indexAddr 27 (Operand.tmp 86) (Operand.tmp 87), type := 0, pos := "law.go:211", after := #[{ on := 20, ground := Ground.data }, { on := 21, ground := Ground.data }, { on := 18, ground := Ground.guard }], guard := some (18, false) }) (v := ?_) rfl (by kernel_rfl) (by kernel_rfl) (by kernel_rfl) (fun _ _ _ h => h) (Or.inl ⟨by rfl, ?_⟩) (by assumption) ?_
        rotate_left
        · intro w hSw
          try dsimp only at hSw
          go_simp
          first | done | with_reducible rfl
        try simp only [Act.put, List.setIfInBounds_toArray, List.set_cons_zero, List.set_cons_succ]
        refine wpAnyH_take (i := 23) (oi := { dst := some 89, op := Op.load 9 (Operand.tmp 88), type := 9, pos := "law.go:211", after := #[{ on := 22, ground := Ground.data }, { on := 18, ground := Ground.guard }], guard := some (18, false) }) (v := ?_) rfl (by kernel_rfl) (by kernel_rfl) (by kernel_rfl) (fun _ _ _ h => h) (Or.inl ⟨by rfl, ?_⟩) (by assumption) ?_
        rotate_left
        · intro w hSw
          try dsimp only at hSw
          go_simp
          first | done | with_reducible rfl
        try simp only [Act.put, List.setIfInBounds_toArray, List.set_cons_zero, List.set_cons_succ]
        refine wpAnyH_take (i := 25) (oi := { dst := some 91, op := Op.move (Operand.tmp 15), type := 4, pos := "law.go:211", after := #[{ on := 18, ground := Ground.guard }], guard := some (18, false) }) (v := ?_) rfl (by kernel_rfl) (by kernel_rfl) (by kernel_rfl) (fun _ _ _ h => h) (Or.inl ⟨by rfl, ?_⟩) (by assumption) ?_
        rotate_left
        · intro w hSw
          try dsimp only at hSw
          go_simp
          first | done | with_reducible rfl
        try simp only [Act.put, List.setIfInBounds_toArray, List.set_cons_zero, List.set_cons_succ]
        refine wpAnyH_ready (rs := [24]) (by kernel_rfl) (by simp) ?_
        refine AllReadyH.cons (o := { dst := some 90, op := Op.call { callee := Callee.value (Operand.func 26), args := #[Operand.tmp 85, Operand.tmp 89], argTypes := #[27, 9] }, type := 4, pos := "law.go:211", after := #[{ on := 19, ground := Ground.data }, { on := 23, ground := Ground.data }, { on := 18, ground := Ground.chain }, { on := 18, ground := Ground.guard }], guard := some (18, false) }) rfl (fun K hK => ?_) AllReadyH.nil
        go_simp
        (go_at_call 26; refine (hle.out _ (And.right (by assumption))).mono ?_; rintro e w11 ⟨rfl, hbx⟩)
        try go_wp2_with fail
        refine hK.out _ _ ?_ (fun hHeld => ?_)
        · first | assumption | exact LR.step (by assumption) hbx
        clear hK K
        try simp only [Act.put, List.setIfInBounds_toArray, List.set_cons_zero, List.set_cons_succ]
        refine wpAnyH_take (i := 26) (oi := { dst := some 92, op := Op.binOp BinOp.eql 4 (Operand.tmp 90) (Operand.tmp 91) 4, type := 4, pos := "law.go:211", after := #[{ on := 24, ground := Ground.data }, { on := 25, ground := Ground.data }, { on := 18, ground := Ground.guard }], guard := some (18, false) }) (v := ?_) rfl (by kernel_rfl) (by kernel_rfl) (by kernel_rfl) (fun _ _ _ h => h) (Or.inl ⟨by rfl, ?_⟩) (by assumption) ?_
        rotate_left
        · intro w hSw
          try dsimp only at hSw
          go_simp
          first | done | with_reducible rfl
        try simp only [Act.put, List.setIfInBounds_toArray, List.set_cons_zero, List.set_cons_succ]
        refine wpAnyH_take (i := 27) (oi := { dst := some 93, op := Op.pick (Operand.tmp 84) (Operand.const (Value.bool true)) (Operand.tmp 92), type := 4, pos := "law.go:211", after := #[{ on := 18, ground := Ground.data }, { on := 26, ground := Ground.data }], guard := none }) (v := ?_) rfl (by kernel_rfl) (by kernel_rfl) (by kernel_rfl) (fun _ _ _ h => h) (Or.inl ⟨by rfl, ?_⟩) (by assumption) ?_
        rotate_left
        · intro w hSw
          try dsimp only at hSw
          go_simp
          first | done | with_reducible rfl
        try simp only [Act.put, List.setIfInBounds_toArray, List.set_cons_zero, List.set_cons_succ]
        refine wpAnyH_take (i := 28) (oi := { dst := some 94, op := Op.move (Operand.tmp 93), type := 4, pos := "law.go:211", after := #[{ on := 27, ground := Ground.data }, { on := 24, ground := Ground.chain }], guard := none }) (v := ?_) rfl (by kernel_rfl) (by kernel_rfl) (by kernel_rfl) (fun _ _ _ h => h) (Or.inl ⟨by rfl, ?_⟩) (by assumption) ?_
        rotate_left
        · intro w hSw
          try dsimp only at hSw
          go_simp
          first | done | with_reducible rfl
        try simp only [Act.put, List.setIfInBounds_toArray, List.set_cons_zero, List.set_cons_succ]
        refine wpAnyH_take (i := 29) (oi := { dst := some 95, op := Op.move (Operand.tmp 15), type := 4, pos := "law.go:211", after := #[{ on := 28, ground := Ground.guard }], guard := some (28, false) }) (v := ?_) rfl (by kernel_rfl) (by kernel_rfl) (by kernel_rfl) (fun _ _ _ h => h) (Or.inl ⟨by rfl, ?_⟩) (by assumption) ?_
        rotate_left
        · intro w hSw
          try dsimp only at hSw
          go_simp
          first | done | with_reducible rfl
        try simp only [Act.put, List.setIfInBounds_toArray, List.set_cons_zero, List.set_cons_succ]
        refine wpAnyH_take (i := 30) (oi := { dst := some 96, op := Op.unOp UnOp.not 4 (Operand.tmp 95), type := 4, pos := "law.go:211", after := #[{ on := 29, ground := Ground.data }, { on := 28, ground := Ground.guard }], guard := some (28, false) }) (v := ?_) rfl (by kernel_rfl) (by kernel_rfl) (by kernel_rfl) (fun _ _ _ h => h) (Or.inl ⟨by rfl, ?_⟩) (by assumption) ?_
        rotate_left
        · intro w hSw
          try dsimp only at hSw
          go_simp
          first | done | with_reducible rfl
        try simp only [Act.put, List.setIfInBounds_toArray, List.set_cons_zero, List.set_cons_succ]
        refine wpAnyH_take (i := 31) (oi := { dst := some 97, op := Op.move (Operand.tmp 96), type := 4, pos := "law.go:211", after := #[{ on := 30, ground := Ground.data }, { on := 28, ground := Ground.chain }, { on := 28, ground := Ground.guard }], guard := some (28, false) }) (v := ?_) rfl (by kernel_rfl) (by kernel_rfl) (by kernel_rfl) (fun _ _ _ h => h) (Or.inl ⟨by rfl, ?_⟩) (by assumption) ?_
        rotate_left
        · intro w hSw
          try dsimp only at hSw
          go_simp
          first | done | with_reducible rfl
        try simp only [Act.put, List.setIfInBounds_toArray, List.set_cons_zero, List.set_cons_succ]
        refine wpAnyH_take (i := 32) (oi := { dst := some 98, op := Op.move (Operand.tmp 10), type := 25, pos := "law.go:211", after := #[{ on := 31, ground := Ground.guard }], guard := some (31, true) }) (v := undef) rfl (by kernel_rfl) (by kernel_rfl) (by kernel_rfl) (fun _ _ _ h => h) (Or.inr ⟨by rfl, rfl⟩) (by assumption) ?_
        try simp only [Act.put, List.setIfInBounds_toArray, List.set_cons_zero, List.set_cons_succ]
        refine wpAnyH_take (i := 33) (oi := { dst := some 99, op := Op.call { callee := Callee.value (Operand.func 29), args := #[Operand.tmp 98, Operand.const (Value.int IntKind.i64 7)], argTypes := #[25, 3] }, type := 27, pos := "law.go:211", after := #[{ on := 32, ground := Ground.data }, { on := 31, ground := Ground.chain }, { on := 31, ground := Ground.guard }], guard := some (31, true) }) (v := undef) rfl (by kernel_rfl) (by kernel_rfl) (by kernel_rfl) (fun _ _ _ h => h) (Or.inr ⟨by rfl, rfl⟩) (by assumption) ?_
        try simp only [Act.put, List.setIfInBounds_toArray, List.set_cons_zero, List.set_cons_succ]
        refine wpAnyH_take (i := 34) (oi := { dst := some 100, op := Op.move (Operand.tmp 7), type := 27, pos := "law.go:211", after := #[{ on := 31, ground := Ground.guard }], guard := some (31, true) }) (v := undef) rfl (by kernel_rfl) (by kernel_rfl) (by kernel_rfl) (fun _ _ _ h => h) (Or.inr ⟨by rfl, rfl⟩) (by assumption) ?_
        try simp only [Act.put, List.setIfInBounds_toArray, List.set_cons_zero, List.set_cons_succ]
        refine wpAnyH_take (i := 35) (oi := { dst := some 101, op := Op.move (Operand.tmp 14), type := 3, pos := "law.go:211", after := #[{ on := 31, ground := Ground.guard }], guard := some (31, true) }) (v := undef) rfl (by kernel_rfl) (by kernel_rfl) (by kernel_rfl) (fun _ _ _ h => h) (Or.inr ⟨by rfl, rfl⟩) (by assumption) ?_
        try simp only [Act.put, List.setIfInBounds_toArray, List.set_cons_zero, List.set_cons_succ]
        refine wpAnyH_take (i := 36) (oi := { dst := some 102, op := Op.indexAddr 27 (Operand.tmp 100) (Operand.tmp 101), type := 0, pos := "law.go:211", after := #[{ on := 34, ground := Ground.data }, { on := 35, ground := Ground.data }, { on := 31, ground := Ground.guard }], guard := some (31, true) }) (v := undef) rfl (by kernel_rfl) (by kernel_rfl) (by kernel_rfl) (fun _ _ _ h => h) (Or.inr ⟨by rfl, rfl⟩) (by assumption) ?_
        try simp only [Act.put, List.setIfInBounds_toArray, List.set_cons_zero, List.set_cons_succ]
        refine wpAnyH_take (i := 37) (oi := { dst := some 103, op := Op.load 9 (Operand.tmp 102), type := 9, pos := "law.go:211", after := #[{ on := 36, ground := Ground.data }, { on := 31, ground := Ground.guard }], guard := some (31, true) }) (v := undef) rfl (by kernel_rfl) (by kernel_rfl) (by kernel_rfl) (fun _ _ _ h => h) (Or.inr ⟨by rfl, rfl⟩) (by assumption) ?_
        try simp only [Act.put, List.setIfInBounds_toArray, List.set_cons_zero, List.set_cons_succ]
        refine wpAnyH_take (i := 38) (oi := { dst := some 104, op := Op.call { callee := Callee.value (Operand.func 26), args := #[Operand.tmp 99, Operand.tmp 103], argTypes := #[27, 9] }, type := 4, pos := "law.go:211", after := #[{ on := 33, ground := Ground.data }, { on := 37, ground := Ground.data }, { on := 33, ground := Ground.chain }, { on := 31, ground := Ground.guard }], guard := some (31, true) }) (v := undef) rfl (by kernel_rfl) (by kernel_rfl) (by kernel_rfl) (fun _ _ _ h => h) (Or.inr ⟨by rfl, rfl⟩) (by assumption) ?_
        try simp only [Act.put, List.setIfInBounds_toArray, List.set_cons_zero, List.set_cons_succ]
        refine wpAnyH_take (i := 39) (oi := { dst := some 105, op := Op.unOp UnOp.not 4 (Operand.tmp 104), type := 4, pos := "law.go:211", after := #[{ on := 38, ground := Ground.data }, { on := 31, ground := Ground.guard }], guard := some (31, true) }) (v := undef) rfl (by kernel_rfl) (by kernel_rfl) (by kernel_rfl) (fun _ _ _ h => h) (Or.inr ⟨by rfl, rfl⟩) (by assumption) ?_
        try simp only [Act.put, List.setIfInBounds_toArray, List.set_cons_zero, List.set_cons_succ]
        refine wpAnyH_take (i := 40) (oi := { dst := some 106, op := Op.pick (Operand.tmp 97) (Operand.tmp 105) (Operand.const (Value.bool false)), type := 4, pos := "law.go:211", after := #[{ on := 31, ground := Ground.data }, { on := 39, ground := Ground.data }, { on := 28, ground := Ground.guard }], guard := some (28, false) }) (v := ?_) rfl (by kernel_rfl) (by kernel_rfl) (by kernel_rfl) (fun _ _ _ h => h) (Or.inl ⟨by rfl, ?_⟩) (by assumption) ?_
        rotate_left
        · intro w hSw
          try dsimp only at hSw
          go_simp
          first | done | with_reducible rfl
        try simp only [Act.put, List.setIfInBounds_toArray, List.set_cons_zero, List.set_cons_succ]
        refine wpAnyH_take (i := 41) (oi := { dst := some 107, op := Op.pick (Operand.tmp 94) (Operand.const (Value.bool true)) (Operand.tmp 106), type := 4, pos := "law.go:211", after := #[{ on := 28, ground := Ground.data }, { on := 40, ground := Ground.data }], guard := none }) (v := ?_) rfl (by kernel_rfl) (by kernel_rfl) (by kernel_rfl) (fun _ _ _ h => h) (Or.inl ⟨by rfl, ?_⟩) (by assumption) ?_
        rotate_left
        · intro w hSw
          try dsimp only at hSw
          go_simp
          first | done | with_reducible rfl
        try simp only [Act.put, List.setIfInBounds_toArray, List.set_cons_zero, List.set_cons_succ]
        refine wpAnyH_take (i := 42) (oi := { dst := some 108, op := Op.move (Operand.tmp 107), type := 4, pos := "law.go:211", after := #[{ on := 41, ground := Ground.data }, { on := 38, ground := Ground.chain }], guard := none }) (v := ?_) rfl (by kernel_rfl) (by kernel_rfl) (by kernel_rfl) (fun _ _ _ h => h) (Or.inl ⟨by rfl, ?_⟩) (by assumption) ?_
        rotate_left
        · intro w hSw
          try dsimp only at hSw
          go_simp
          first | done | with_reducible rfl
        try simp only [Act.put, List.setIfInBounds_toArray, List.set_cons_zero, List.set_cons_succ]
        refine wpAnyH_take (i := 43) (oi := { dst := some 109, op := Op.move (Operand.tmp 10), type := 25, pos := "law.go:211", after := #[{ on := 42, ground := Ground.guard }], guard := some (42, false) }) (v := ?_) rfl (by kernel_rfl) (by kernel_rfl) (by kernel_rfl) (fun _ _ _ h => h) (Or.inl ⟨by rfl, ?_⟩) (by assumption) ?_
        rotate_left
        · intro w hSw
          try dsimp only at hSw
          go_simp
          first | done | with_reducible rfl
        try simp only [Act.put, List.setIfInBounds_toArray, List.set_cons_zero, List.set_cons_succ]
        refine wpAnyH_take (i := 45) (oi := { dst := some 111, op := Op.move (Operand.tmp 7), type := 27, pos := "law.go:211", after := #[{ on := 42, ground := Ground.guard }], guard := some (42, false) }) (v := ?_) rfl (by kernel_rfl) (by kernel_rfl) (by kernel_rfl) (fun _ _ _ h => h) (Or.inl ⟨by rfl, ?_⟩) (by assumption) ?_
        rotate_left
        · intro w hSw
          try dsimp only at hSw
          go_simp
          first | done | with_reducible rfl
        try simp only [Act.put, List.setIfInBounds_toArray, List.set_cons_zero, List.set_cons_succ]
        refine wpAnyH_take (i := 46) (oi := { dst := some 112, op := Op.move (Operand.tmp 14), type := 3, pos := "law.go:211", after := #[{ on := 42, ground := Ground.guard }], guard := some (42, false) }) (v := ?_) rfl (by kernel_rfl) (by kernel_rfl) (by kernel_rfl) (fun _ _ _ h => h) (Or.inl ⟨by rfl, ?_⟩) (by assumption) ?_
        rotate_left
        · intro w hSw
          try dsimp only at hSw
          go_simp
          first | done | with_reducible rfl
        try simp only [Act.put, List.setIfInBounds_toArray, List.set_cons_zero, List.set_cons_succ]
        refine wpAnyH_take (i := 47) (oi := { dst := some 113, op := Op.indexAddr 27 (Operand.tmp 111) (Operand.tmp 112), type := 0, pos := "law.go:211", after := #[{ on := 45, ground := Ground.data }, { on := 46, ground := Ground.data }, { on := 42, ground := Ground.guard }], guard := some (42, false) }) (v := ?_) rfl (by kernel_rfl) (by kernel_rfl) (by kernel_rfl) (fun _ _ _ h => h) (Or.inl ⟨by rfl, ?_⟩) (by assumption) ?_
        rotate_left
        · intro w hSw
          try dsimp only at hSw
          go_simp
          first | done | with_reducible rfl
        try simp only [Act.put, List.setIfInBounds_toArray, List.set_cons_zero, List.set_cons_succ]
        refine wpAnyH_take (i := 48) (oi := { dst := some 114, op := Op.load 9 (Operand.tmp 113), type := 9, pos := "law.go:211", after := #[{ on := 47, ground := Ground.data }, { on := 42, ground := Ground.guard }], guard := some (42, false) }) (v := ?_) rfl (by kernel_rfl) (by kernel_rfl) (by kernel_rfl) (fun _ _ _ h => h) (Or.inl ⟨by rfl, ?_⟩) (by assumption) ?_
        rotate_left
        · intro w hSw
          try dsimp only at hSw
          go_simp
          first | done | with_reducible rfl
        try simp only [Act.put, List.setIfInBounds_toArray, List.set_cons_zero, List.set_cons_succ]
        refine wpAnyH_ready (rs := [44]) (by kernel_rfl) (by simp) ?_
        refine AllReadyH.cons (o := { dst := some 110, op := Op.call { callee := Callee.value (Operand.func 29), args := #[Operand.tmp 109, Operand.const (Value.int IntKind.i64 6)], argTypes := #[25, 3] }, type := 27, pos := "law.go:211", after := #[{ on := 43, ground := Ground.data }, { on := 42, ground := Ground.chain }, { on := 42, ground := Ground.guard }], guard := some (42, false) }) rfl (fun K hK => ?_) AllReadyH.nil
        go_simp
        (go_at_call 29; refine (hd6.out _ (And.right (by assumption))).mono ?_; rintro e w14 ⟨a14, n14, c14, rfl, h14, hbx⟩)
        try go_wp2_with fail
        refine hK.out _ _ ?_ (fun hHeld => ?_)
        · first | assumption | exact LR.step (by assumption) hbx
        clear hK K
        try simp only [Act.put, List.setIfInBounds_toArray, List.set_cons_zero, List.set_cons_succ]
        refine wpAnyH_ready (rs := [49]) (by kernel_rfl) (by simp) ?_
        refine AllReadyH.cons (o := { dst := some 115, op := Op.call { callee := Callee.value (Operand.func 26), args := #[Operand.tmp 110, Operand.tmp 114], argTypes := #[27, 9] }, type := 4, pos := "law.go:211", after := #[{ on := 44, ground := Ground.data }, { on := 48, ground := Ground.data }, { on := 44, ground := Ground.chain }, { on := 42, ground := Ground.guard }], guard := some (42, false) }) rfl (fun K hK => ?_) AllReadyH.nil
        go_simp
        (go_at_call 26; refine (h14.out _ (Below.refl _ _)).mono ?_; rintro e w15 ⟨rfl, hbx⟩)
        try go_wp2_with fail
        refine hK.out _ _ ?_ (fun hHeld => ?_)
        · first | assumption | exact LR.step (by assumption) hbx
        clear hK K
        try simp only [Act.put, List.setIfInBounds_toArray, List.set_cons_zero, List.set_cons_succ]
        refine wpAnyH_take (i := 50) (oi := { dst := some 116, op := Op.pick (Operand.tmp 108) (Operand.const (Value.bool true)) (Operand.tmp 115), type := 4, pos := "law.go:211", after := #[{ on := 42, ground := Ground.data }, { on := 49, ground := Ground.data }], guard := none }) (v := ?_) rfl (by kernel_rfl) (by kernel_rfl) (by kernel_rfl) (fun _ _ _ h => h) (Or.inl ⟨by rfl, ?_⟩) (by assumption) ?_
        rotate_left
        · intro w hSw
          try dsimp only at hSw
          go_simp
          first | done | with_reducible rfl
        try simp only [Act.put, List.setIfInBounds_toArray, List.set_cons_zero, List.set_cons_succ]
        refine wpAnyH_done (by kernel_rfl) ?_ _
        all_goals (
          have LE : LR w7 A f s2 ⟨b, off + i, none⟩ x w15 := And.right (by assumption)
          have HBE := Hid.mk' LE.bel
          clear LE
          go_wp2
          exact ⟨⟨i + 1, by simp, by omega, HBE.out⟩, by simp [intOf]; omega⟩)
      | false =>
        rw [gA_out hnb] at hst
        rw [hnb] at hhas hlv hle hd7
        go_upto_region 14 with (go_at_call 26; refine hhas.mono ?_; rintro r w8 ⟨rfl, hw8⟩; subst hw8)
        go_upto_region 15 with (go_at_call 27; refine hst.mono ?_; rintro r w9 ⟨rfl, hb9⟩; have hlr := HLR.out w9 hb9)
        clear hlr
        refine wp_region_held_drew (S := fun w' => w'.cell? ⟨b, off + i, none⟩ = some (.string x) ∧ LR w7 A f s2 ⟨b, off + i, none⟩ x w') (by kernel_rfl) ?_ (fun hHeld => ?_)
        · exact HLR.out _ (below_drewN hb9 1)
        refine wpAnyH_take (i := 0) (oi := { dst := some 66, op := Op.move (Operand.tmp 17), type := 4, pos := "law.go:211", after := #[], guard := none }) (v := ?_) rfl (by kernel_rfl) (by kernel_rfl) (by kernel_rfl) (fun _ _ _ h => h) (Or.inl ⟨by rfl, ?_⟩) (by assumption) ?_
        rotate_left
        · intro w hSw
          try dsimp only at hSw
          go_simp
          first | done | with_reducible rfl
        try simp only [Act.put, List.setIfInBounds_toArray, List.set_cons_zero, List.set_cons_succ]
        refine wpAnyH_take (i := 1) (oi := { dst := some 67, op := Op.unOp UnOp.not 4 (Operand.tmp 66), type := 4, pos := "law.go:211", after := #[{ on := 0, ground := Ground.data }], guard := none }) (v := ?_) rfl (by kernel_rfl) (by kernel_rfl) (by kernel_rfl) (fun _ _ _ h => h) (Or.inl ⟨by rfl, ?_⟩) (by assumption) ?_
        rotate_left
        · intro w hSw
          try dsimp only at hSw
          go_simp
          first | done | with_reducible rfl
        try simp only [Act.put, List.setIfInBounds_toArray, List.set_cons_zero, List.set_cons_succ]
        refine wpAnyH_take (i := 2) (oi := { dst := some 68, op := Op.move (Operand.tmp 67), type := 4, pos := "law.go:211", after := #[{ on := 1, ground := Ground.data }], guard := none }) (v := ?_) rfl (by kernel_rfl) (by kernel_rfl) (by kernel_rfl) (fun _ _ _ h => h) (Or.inl ⟨by rfl, ?_⟩) (by assumption) ?_
        rotate_left
        · intro w hSw
          try dsimp only at hSw
          go_simp
          first | done | with_reducible rfl
        try simp only [Act.put, List.setIfInBounds_toArray, List.set_cons_zero, List.set_cons_succ]
        refine wpAnyH_take (i := 3) (oi := { dst := some 69, op := Op.move (Operand.tmp 10), type := 25, pos := "law.go:211", after := #[{ on := 2, ground := Ground.guard }], guard := some (2, false) }) (v := ?_) rfl (by kernel_rfl) (by kernel_rfl) (by kernel_rfl) (fun _ _ _ h => h) (Or.inl ⟨by rfl, ?_⟩) (by assumption) ?_
        rotate_left
        · intro w hSw
          try dsimp only at hSw
          go_simp
          first | done | with_reducible rfl
        try simp only [Act.put, List.setIfInBounds_toArray, List.set_cons_zero, List.set_cons_succ]
        refine wpAnyH_take (i := 4) (oi := { dst := some 70, op := Op.move (Operand.tmp 7), type := 27, pos := "law.go:211", after := #[{ on := 2, ground := Ground.guard }], guard := some (2, false) }) (v := ?_) rfl (by kernel_rfl) (by kernel_rfl) (by kernel_rfl) (fun _ _ _ h => h) (Or.inl ⟨by rfl, ?_⟩) (by assumption) ?_
        rotate_left
        · intro w hSw
          try dsimp only at hSw
          go_simp
          first | done | with_reducible rfl
        try simp only [Act.put, List.setIfInBounds_toArray, List.set_cons_zero, List.set_cons_succ]
        refine wpAnyH_take (i := 5) (oi := { dst := some 71, op := Op.move (Operand.tmp 14), type := 3, pos := "law.go:211", after := #[{ on := 2, ground := Ground.guard }], guard := some (2, false) }) (v := ?_) rfl (by kernel_rfl) (by kernel_rfl) (by kernel_rfl) (fun _ _ _ h => h) (Or.inl ⟨by rfl, ?_⟩) (by assumption) ?_
        rotate_left
        · intro w hSw
          try dsimp only at hSw
          go_simp
          first | done | with_reducible rfl
        try simp only [Act.put, List.setIfInBounds_toArray, List.set_cons_zero, List.set_cons_succ]
        refine wpAnyH_take (i := 6) (oi := { dst := some 72, op := Op.indexAddr 27 (Operand.tmp 70) (Operand.tmp 71), type := 0, pos := "law.go:211", after := #[{ on := 4, ground := Ground.data }, { on := 5, ground := Ground.data }, { on := 2, ground := Ground.guard }], guard := some (2, false) }) (v := ?_) rfl (by kernel_rfl) (by kernel_rfl) (by kernel_rfl) (fun _ _ _ h => h) (Or.inl ⟨by rfl, ?_⟩) (by assumption) ?_
        rotate_left
        · intro w hSw
          try dsimp only at hSw
          go_simp
          first | done | with_reducible rfl
        try simp only [Act.put, List.setIfInBounds_toArray, List.set_cons_zero, List.set_cons_succ]
        refine wpAnyH_take (i := 7) (oi := { dst := some 73, op := Op.load 9 (Operand.tmp 72), type := 9, pos := "law.go:211", after := #[{ on := 6, ground := Ground.data }, { on := 2, ground := Ground.guard }], guard := some (2, false) }) (v := ?_) rfl (by kernel_rfl) (by kernel_rfl) (by kernel_rfl) (fun _ _ _ h => h) (Or.inl ⟨by rfl, ?_⟩) (by assumption) ?_
        rotate_left
        · intro w hSw
          try dsimp only at hSw
          go_simp
          first | done | with_reducible rfl
        try simp only [Act.put, List.setIfInBounds_toArray, List.set_cons_zero, List.set_cons_succ]
        refine wpAnyH_take (i := 9) (oi := { dst := some 75, op := Op.move (Operand.tmp 15), type := 4, pos := "law.go:211", after := #[{ on := 2, ground := Ground.guard }], guard := some (2, false) }) (v := ?_) rfl (by kernel_rfl) (by kernel_rfl) (by kernel_rfl) (fun _ _ _ h => h) (Or.inl ⟨by rfl, ?_⟩) (by assumption) ?_
        rotate_left
        · intro w hSw
          try dsimp only at hSw
          go_simp
          first | done | with_reducible rfl
        try simp only [Act.put, List.setIfInBounds_toArray, List.set_cons_zero, List.set_cons_succ]
        refine wpAnyH_ready (rs := [8]) (by kernel_rfl) (by simp) ?_
        refine AllReadyH.cons (o := { dst := some 74, op := Op.call { callee := Callee.value (Operand.func 28), args := #[Operand.tmp 69, Operand.tmp 73], argTypes := #[25, 9] }, type := 4, pos := "law.go:211", after := #[{ on := 3, ground := Ground.data }, { on := 7, ground := Ground.data }, { on := 2, ground := Ground.chain }, { on := 2, ground := Ground.guard }], guard := some (2, false) }) rfl (fun K hK => ?_) AllReadyH.nil
        go_simp
        (go_at_call 28; refine (hlv.out _ (And.right (by assumption))).mono ?_; rintro e w10 ⟨rfl, hbx⟩)
        try go_wp2_with fail
        refine hK.out _ _ ?_ (fun hHeld => ?_)
        · first | assumption | exact LR.step (by assumption) hbx
        clear hK K
        try simp only [Act.put, List.setIfInBounds_toArray, List.set_cons_zero, List.set_cons_succ]
        refine wpAnyH_take (i := 10) (oi := { dst := some 76, op := Op.binOp BinOp.eql 4 (Operand.tmp 74) (Operand.tmp 75) 4, type := 4, pos := "law.go:211", after := #[{ on := 8, ground := Ground.data }, { on := 9, ground := Ground.data }, { on := 2, ground := Ground.guard }], guard := some (2, false) }) (v := ?_) rfl (by kernel_rfl) (by kernel_rfl) (by kernel_rfl) (fun _ _ _ h => h) (Or.inl ⟨by rfl, ?_⟩) (by assumption) ?_
        rotate_left
        · intro w hSw
          try dsimp only at hSw
          go_simp
          first | done | with_reducible rfl
        try simp only [Act.put, List.setIfInBounds_toArray, List.set_cons_zero, List.set_cons_succ]
        refine wpAnyH_take (i := 11) (oi := { dst := some 77, op := Op.pick (Operand.tmp 68) (Operand.const (Value.bool true)) (Operand.tmp 76), type := 4, pos := "law.go:211", after := #[{ on := 2, ground := Ground.data }, { on := 10, ground := Ground.data }], guard := none }) (v := ?_) rfl (by kernel_rfl) (by kernel_rfl) (by kernel_rfl) (fun _ _ _ h => h) (Or.inl ⟨by rfl, ?_⟩) (by assumption) ?_
        rotate_left
        · intro w hSw
          try dsimp only at hSw
          go_simp
          first | done | with_reducible rfl
        try simp only [Act.put, List.setIfInBounds_toArray, List.set_cons_zero, List.set_cons_succ]
        refine wpAnyH_take (i := 12) (oi := { dst := some 78, op := Op.move (Operand.tmp 77), type := 4, pos := "law.go:211", after := #[{ on := 11, ground := Ground.data }, { on := 8, ground := Ground.chain }], guard := none }) (v := ?_) rfl (by kernel_rfl) (by kernel_rfl) (by kernel_rfl) (fun _ _ _ h => h) (Or.inl ⟨by rfl, ?_⟩) (by assumption) ?_
        rotate_left
        · intro w hSw
          try dsimp only at hSw
          go_simp
          first | done | with_reducible rfl
        try simp only [Act.put, List.setIfInBounds_toArray, List.set_cons_zero, List.set_cons_succ]
        refine wpAnyH_take (i := 13) (oi := { dst := some 79, op := Op.move (Operand.tmp 15), type := 4, pos := "law.go:211", after := #[{ on := 12, ground := Ground.guard }], guard := some (12, false) }) (v := ?_) rfl (by kernel_rfl) (by kernel_rfl) (by kernel_rfl) (fun _ _ _ h => h) (Or.inl ⟨by rfl, ?_⟩) (by assumption) ?_
        rotate_left
        · intro w hSw
          try dsimp only at hSw
          go_simp
          first | done | with_reducible rfl
        try simp only [Act.put, List.setIfInBounds_toArray, List.set_cons_zero, List.set_cons_succ]
        refine wpAnyH_take (i := 14) (oi := { dst := some 80, op := Op.move (Operand.tmp 16), type := 3, pos := "law.go:211", after := #[{ on := 12, ground := Ground.guard }], guard := some (12, false) }) (v := ?_) rfl (by kernel_rfl) (by kernel_rfl) (by kernel_rfl) (fun _ _ _ h => h) (Or.inl ⟨by rfl, ?_⟩) (by assumption) ?_
        rotate_left
        · intro w hSw
          try dsimp only at hSw
          go_simp
          first | done | with_reducible rfl
        try simp only [Act.put, List.setIfInBounds_toArray, List.set_cons_zero, List.set_cons_succ]
        refine wpAnyH_take (i := 15) (oi := { dst := some 81, op := Op.binOp BinOp.eql 3 (Operand.tmp 80) (Operand.const (Value.int IntKind.i64 0)) 3, type := 4, pos := "law.go:211", after := #[{ on := 14, ground := Ground.data }, { on := 12, ground := Ground.guard }], guard := some (12, false) }) (v := ?_) rfl (by kernel_rfl) (by kernel_rfl) (by kernel_rfl) (fun _ _ _ h => h) (Or.inl ⟨by rfl, ?_⟩) (by assumption) ?_
        rotate_left
        · intro w hSw
          try dsimp only at hSw
          go_simp
          first | done | with_reducible rfl
        try simp only [Act.put, List.setIfInBounds_toArray, List.set_cons_zero, List.set_cons_succ]
        refine wpAnyH_take (i := 16) (oi := { dst := some 82, op := Op.binOp BinOp.neq 4 (Operand.tmp 79) (Operand.tmp 81) 4, type := 4, pos := "law.go:211", after := #[{ on := 13, ground := Ground.data }, { on := 15, ground := Ground.data }, { on := 12, ground := Ground.guard }], guard := some (12, false) }) (v := ?_) rfl (by kernel_rfl) (by kernel_rfl) (by kernel_rfl) (fun _ _ _ h => h) (Or.inl ⟨by rfl, ?_⟩) (by assumption) ?_
        rotate_left
        · intro w hSw
          try dsimp only at hSw
          go_simp
          first | done | with_reducible rfl
        try simp only [Act.put, List.setIfInBounds_toArray, List.set_cons_zero, List.set_cons_succ]
        refine wpAnyH_take (i := 17) (oi := { dst := some 83, op := Op.pick (Operand.tmp 78) (Operand.const (Value.bool true)) (Operand.tmp 82), type := 4, pos := "law.go:211", after := #[{ on := 12, ground := Ground.data }, { on := 16, ground := Ground.data }], guard := none }) (v := ?_) rfl (by kernel_rfl) (by kernel_rfl) (by kernel_rfl) (fun _ _ _ h => h) (Or.inl ⟨by rfl, ?_⟩) (by assumption) ?_
        rotate_left
        · intro w hSw
          try dsimp only at hSw
          go_simp
          first | done | with_reducible rfl
        try simp only [Act.put, List.setIfInBounds_toArray, List.set_cons_zero, List.set_cons_succ]
        refine wpAnyH_take (i := 18) (oi := { dst := some 84, op := Op.move (Operand.tmp 83), type := 4, pos := "law.go:211", after := #[{ on := 17, ground := Ground.data }, { on := 12, ground := Ground.chain }], guard := none }) (v := ?_) rfl (by kernel_rfl) (by kernel_rfl) (by kernel_rfl) (fun _ _ _ h => h) (Or.inl ⟨by rfl, ?_⟩) (by assumption) ?_
        rotate_left
        · intro w hSw
          try dsimp only at hSw
          go_simp
          first | done | with_reducible rfl
        try simp only [Act.put, List.setIfInBounds_toArray, List.set_cons_zero, List.set_cons_succ]
        refine wpAnyH_take (i := 19) (oi := { dst := some 85, op := Op.move (Operand.tmp 12), type := 27, pos := "law.go:211", after := #[{ on := 18, ground := Ground.guard }], guard := some (18, false) }) (v := ?_) rfl (by kernel_rfl) (by kernel_rfl) (by kernel_rfl) (fun _ _ _ h => h) (Or.inl ⟨by rfl, ?_⟩) (by assumption) ?_
        rotate_left
        · intro w hSw
          try dsimp only at hSw
          go_simp
          first | done | with_reducible rfl
        try simp only [Act.put, List.setIfInBounds_toArray, List.set_cons_zero, List.set_cons_succ]
        refine wpAnyH_take (i := 20) (oi := { dst := some 86, op := Op.move (Operand.tmp 7), type := 27, pos := "law.go:211", after := #[{ on := 18, ground := Ground.guard }], guard := some (18, false) }) (v := ?_) rfl (by kernel_rfl) (by kernel_rfl) (by kernel_rfl) (fun _ _ _ h => h) (Or.inl ⟨by rfl, ?_⟩) (by assumption) ?_
        rotate_left
        · intro w hSw
          try dsimp only at hSw
          go_simp
          first | done | with_reducible rfl
        try simp only [Act.put, List.setIfInBounds_toArray, List.set_cons_zero, List.set_cons_succ]
        refine wpAnyH_take (i := 21) (oi := { dst := some 87, op := Op.move (Operand.tmp 14), type := 3, pos := "law.go:211", after := #[{ on := 18, ground := Ground.guard }], guard := some (18, false) }) (v := ?_) rfl (by kernel_rfl) (by kernel_rfl) (by kernel_rfl) (fun _ _ _ h => h) (Or.inl ⟨by rfl, ?_⟩) (by assumption) ?_
        rotate_left
        · intro w hSw
          try dsimp only at hSw
          go_simp
          first | done | with_reducible rfl
        try simp only [Act.put, List.setIfInBounds_toArray, List.set_cons_zero, List.set_cons_succ]
        refine wpAnyH_take (i := 22) (oi := { dst := some 88, op := Op.indexAddr 27 (Operand.tmp 86) (Operand.tmp 87), type := 0, pos := "law.go:211", after := #[{ on := 20, ground := Ground.data }, { on := 21, ground := Ground.data }, { on := 18, ground := Ground.guard }], guard := some (18, false) }) (v := ?_) rfl (by kernel_rfl) (by kernel_rfl) (by kernel_rfl) (fun _ _ _ h => h) (Or.inl ⟨by rfl, ?_⟩) (by assumption) ?_
        rotate_left
        · intro w hSw
          try dsimp only at hSw
          go_simp
          first | done | with_reducible rfl
        try simp only [Act.put, List.setIfInBounds_toArray, List.set_cons_zero, List.set_cons_succ]
        refine wpAnyH_take (i := 23) (oi := { dst := some 89, op := Op.load 9 (Operand.tmp 88), type := 9, pos := "law.go:211", after := #[{ on := 22, ground := Ground.data }, { on := 18, ground := Ground.guard }], guard := some (18, false) }) (v := ?_) rfl (by kernel_rfl) (by kernel_rfl) (by kernel_rfl) (fun _ _ _ h => h) (Or.inl ⟨by rfl, ?_⟩) (by assumption) ?_
        rotate_left
        · intro w hSw
          try dsimp only at hSw
          go_simp
          first | done | with_reducible rfl
        try simp only [Act.put, List.setIfInBounds_toArray, List.set_cons_zero, List.set_cons_succ]
        refine wpAnyH_take (i := 25) (oi := { dst := some 91, op := Op.move (Operand.tmp 15), type := 4, pos := "law.go:211", after := #[{ on := 18, ground := Ground.guard }], guard := some (18, false) }) (v := ?_) rfl (by kernel_rfl) (by kernel_rfl) (by kernel_rfl) (fun _ _ _ h => h) (Or.inl ⟨by rfl, ?_⟩) (by assumption) ?_
        rotate_left
        · intro w hSw
          try dsimp only at hSw
          go_simp
          first | done | with_reducible rfl
        try simp only [Act.put, List.setIfInBounds_toArray, List.set_cons_zero, List.set_cons_succ]
        refine wpAnyH_ready (rs := [24]) (by kernel_rfl) (by simp) ?_
        refine AllReadyH.cons (o := { dst := some 90, op := Op.call { callee := Callee.value (Operand.func 26), args := #[Operand.tmp 85, Operand.tmp 89], argTypes := #[27, 9] }, type := 4, pos := "law.go:211", after := #[{ on := 19, ground := Ground.data }, { on := 23, ground := Ground.data }, { on := 18, ground := Ground.chain }, { on := 18, ground := Ground.guard }], guard := some (18, false) }) rfl (fun K hK => ?_) AllReadyH.nil
        go_simp
        (go_at_call 26; refine (hle.out _ (And.right (by assumption))).mono ?_; rintro e w11 ⟨rfl, hbx⟩)
        try go_wp2_with fail
        refine hK.out _ _ ?_ (fun hHeld => ?_)
        · first | assumption | exact LR.step (by assumption) hbx
        clear hK K
        try simp only [Act.put, List.setIfInBounds_toArray, List.set_cons_zero, List.set_cons_succ]
        refine wpAnyH_take (i := 26) (oi := { dst := some 92, op := Op.binOp BinOp.eql 4 (Operand.tmp 90) (Operand.tmp 91) 4, type := 4, pos := "law.go:211", after := #[{ on := 24, ground := Ground.data }, { on := 25, ground := Ground.data }, { on := 18, ground := Ground.guard }], guard := some (18, false) }) (v := ?_) rfl (by kernel_rfl) (by kernel_rfl) (by kernel_rfl) (fun _ _ _ h => h) (Or.inl ⟨by rfl, ?_⟩) (by assumption) ?_
        rotate_left
        · intro w hSw
          try dsimp only at hSw
          go_simp
          first | done | with_reducible rfl
        try simp only [Act.put, List.setIfInBounds_toArray, List.set_cons_zero, List.set_cons_succ]
        refine wpAnyH_take (i := 27) (oi := { dst := some 93, op := Op.pick (Operand.tmp 84) (Operand.const (Value.bool true)) (Operand.tmp 92), type := 4, pos := "law.go:211", after := #[{ on := 18, ground := Ground.data }, { on := 26, ground := Ground.data }], guard := none }) (v := ?_) rfl (by kernel_rfl) (by kernel_rfl) (by kernel_rfl) (fun _ _ _ h => h) (Or.inl ⟨by rfl, ?_⟩) (by assumption) ?_
        rotate_left
        · intro w hSw
          try dsimp only at hSw
          go_simp
          first | done | with_reducible rfl
        try simp only [Act.put, List.setIfInBounds_toArray, List.set_cons_zero, List.set_cons_succ]
        refine wpAnyH_take (i := 28) (oi := { dst := some 94, op := Op.move (Operand.tmp 93), type := 4, pos := "law.go:211", after := #[{ on := 27, ground := Ground.data }, { on := 24, ground := Ground.chain }], guard := none }) (v := ?_) rfl (by kernel_rfl) (by kernel_rfl) (by kernel_rfl) (fun _ _ _ h => h) (Or.inl ⟨by rfl, ?_⟩) (by assumption) ?_
        rotate_left
        · intro w hSw
          try dsimp only at hSw
          go_simp
          first | done | with_reducible rfl
        try simp only [Act.put, List.setIfInBounds_toArray, List.set_cons_zero, List.set_cons_succ]
        refine wpAnyH_take (i := 29) (oi := { dst := some 95, op := Op.move (Operand.tmp 15), type := 4, pos := "law.go:211", after := #[{ on := 28, ground := Ground.guard }], guard := some (28, false) }) (v := ?_) rfl (by kernel_rfl) (by kernel_rfl) (by kernel_rfl) (fun _ _ _ h => h) (Or.inl ⟨by rfl, ?_⟩) (by assumption) ?_
        rotate_left
        · intro w hSw
          try dsimp only at hSw
          go_simp
          first | done | with_reducible rfl
        try simp only [Act.put, List.setIfInBounds_toArray, List.set_cons_zero, List.set_cons_succ]
        refine wpAnyH_take (i := 30) (oi := { dst := some 96, op := Op.unOp UnOp.not 4 (Operand.tmp 95), type := 4, pos := "law.go:211", after := #[{ on := 29, ground := Ground.data }, { on := 28, ground := Ground.guard }], guard := some (28, false) }) (v := ?_) rfl (by kernel_rfl) (by kernel_rfl) (by kernel_rfl) (fun _ _ _ h => h) (Or.inl ⟨by rfl, ?_⟩) (by assumption) ?_
        rotate_left
        · intro w hSw
          try dsimp only at hSw
          go_simp
          first | done | with_reducible rfl
        try simp only [Act.put, List.setIfInBounds_toArray, List.set_cons_zero, List.set_cons_succ]
        refine wpAnyH_take (i := 31) (oi := { dst := some 97, op := Op.move (Operand.tmp 96), type := 4, pos := "law.go:211", after := #[{ on := 30, ground := Ground.data }, { on := 28, ground := Ground.chain }, { on := 28, ground := Ground.guard }], guard := some (28, false) }) (v := ?_) rfl (by kernel_rfl) (by kernel_rfl) (by kernel_rfl) (fun _ _ _ h => h) (Or.inl ⟨by rfl, ?_⟩) (by assumption) ?_
        rotate_left
        · intro w hSw
          try dsimp only at hSw
          go_simp
          first | done | with_reducible rfl
        try simp only [Act.put, List.setIfInBounds_toArray, List.set_cons_zero, List.set_cons_succ]
        refine wpAnyH_take (i := 32) (oi := { dst := some 98, op := Op.move (Operand.tmp 10), type := 25, pos := "law.go:211", after := #[{ on := 31, ground := Ground.guard }], guard := some (31, true) }) (v := ?_) rfl (by kernel_rfl) (by kernel_rfl) (by kernel_rfl) (fun _ _ _ h => h) (Or.inl ⟨by rfl, ?_⟩) (by assumption) ?_
        rotate_left
        · intro w hSw
          try dsimp only at hSw
          go_simp
          first | done | with_reducible rfl
        try simp only [Act.put, List.setIfInBounds_toArray, List.set_cons_zero, List.set_cons_succ]
        refine wpAnyH_take (i := 34) (oi := { dst := some 100, op := Op.move (Operand.tmp 7), type := 27, pos := "law.go:211", after := #[{ on := 31, ground := Ground.guard }], guard := some (31, true) }) (v := ?_) rfl (by kernel_rfl) (by kernel_rfl) (by kernel_rfl) (fun _ _ _ h => h) (Or.inl ⟨by rfl, ?_⟩) (by assumption) ?_
        rotate_left
        · intro w hSw
          try dsimp only at hSw
          go_simp
          first | done | with_reducible rfl
        try simp only [Act.put, List.setIfInBounds_toArray, List.set_cons_zero, List.set_cons_succ]
        refine wpAnyH_take (i := 35) (oi := { dst := some 101, op := Op.move (Operand.tmp 14), type := 3, pos := "law.go:211", after := #[{ on := 31, ground := Ground.guard }], guard := some (31, true) }) (v := ?_) rfl (by kernel_rfl) (by kernel_rfl) (by kernel_rfl) (fun _ _ _ h => h) (Or.inl ⟨by rfl, ?_⟩) (by assumption) ?_
        rotate_left
        · intro w hSw
          try dsimp only at hSw
          go_simp
          first | done | with_reducible rfl
        try simp only [Act.put, List.setIfInBounds_toArray, List.set_cons_zero, List.set_cons_succ]
        refine wpAnyH_take (i := 36) (oi := { dst := some 102, op := Op.indexAddr 27 (Operand.tmp 100) (Operand.tmp 101), type := 0, pos := "law.go:211", after := #[{ on := 34, ground := Ground.data }, { on := 35, ground := Ground.data }, { on := 31, ground := Ground.guard }], guard := some (31, true) }) (v := ?_) rfl (by kernel_rfl) (by kernel_rfl) (by kernel_rfl) (fun _ _ _ h => h) (Or.inl ⟨by rfl, ?_⟩) (by assumption) ?_
        rotate_left
        · intro w hSw
          try dsimp only at hSw
          go_simp
          first | done | with_reducible rfl
        try simp only [Act.put, List.setIfInBounds_toArray, List.set_cons_zero, List.set_cons_succ]
        refine wpAnyH_take (i := 37) (oi := { dst := some 103, op := Op.load 9 (Operand.tmp 102), type := 9, pos := "law.go:211", after := #[{ on := 36, ground := Ground.data }, { on := 31, ground := Ground.guard }], guard := some (31, true) }) (v := ?_) rfl (by kernel_rfl) (by kernel_rfl) (by kernel_rfl) (fun _ _ _ h => h) (Or.inl ⟨by rfl, ?_⟩) (by assumption) ?_
        rotate_left
        · intro w hSw
          try dsimp only at hSw
          go_simp
          first | done | with_reducible rfl
        try simp only [Act.put, List.setIfInBounds_toArray, List.set_cons_zero, List.set_cons_succ]
        refine wpAnyH_ready (rs := [33]) (by kernel_rfl) (by simp) ?_
        refine AllReadyH.cons (o := { dst := some 99, op := Op.call { callee := Callee.value (Operand.func 29), args := #[Operand.tmp 98, Operand.const (Value.int IntKind.i64 7)], argTypes := #[25, 3] }, type := 27, pos := "law.go:211", after := #[{ on := 32, ground := Ground.data }, { on := 31, ground := Ground.chain }, { on := 31, ground := Ground.guard }], guard := some (31, true) }) rfl (fun K hK => ?_) AllReadyH.nil
        go_simp
        (go_at_call 29; refine (hd7.out _ (And.right (by assumption))).mono ?_; rintro e w12 ⟨a12, n12, c12, rfl, h12, hbx⟩)
        try go_wp2_with fail
        refine hK.out _ _ ?_ (fun hHeld => ?_)
        · first | assumption | exact LR.step (by assumption) hbx
        clear hK K
        try simp only [Act.put, List.setIfInBounds_toArray, List.set_cons_zero, List.set_cons_succ]
        refine wpAnyH_ready (rs := [38]) (by kernel_rfl) (by simp) ?_
        refine AllReadyH.cons (o := { dst := some 104, op := Op.call { callee := Callee.value (Operand.func 26), args := #[Operand.tmp 99, Operand.tmp 103], argTypes := #[27, 9] }, type := 4, pos := "law.go:211", after := #[{ on := 33, ground := Ground.data }, { on := 37, ground := Ground.data }, { on := 33, ground := Ground.chain }, { on := 31, ground := Ground.guard }], guard := some (31, true) }) rfl (fun K hK => ?_) AllReadyH.nil
        go_simp
        (go_at_call 26; refine (h12.out _ (Below.refl _ _)).mono ?_; rintro e w13 ⟨rfl, hbx⟩)
        try go_wp2_with fail
        refine hK.out _ _ ?_ (fun hHeld => ?_)
        · first | assumption | exact LR.step (by assumption) hbx
        clear hK K
        try simp only [Act.put, List.setIfInBounds_toArray, List.set_cons_zero, List.set_cons_succ]
        refine wpAnyH_take (i := 39) (oi := { dst := some 105, op := Op.unOp UnOp.not 4 (Operand.tmp 104), type := 4, pos := "law.go:211", after := #[{ on := 38, ground := Ground.data }, { on := 31, ground := Ground.guard }], guard := some (31, true) }) (v := ?_) rfl (by kernel_rfl) (by kernel_rfl) (by kernel_rfl) (fun _ _ _ h => h) (Or.inl ⟨by rfl, ?_⟩) (by assumption) ?_
        rotate_left
        · intro w hSw
          try dsimp only at hSw
          go_simp
          first | done | with_reducible rfl
        try simp only [Act.put, List.setIfInBounds_toArray, List.set_cons_zero, List.set_cons_succ]
        refine wpAnyH_take (i := 40) (oi := { dst := some 106, op := Op.pick (Operand.tmp 97) (Operand.tmp 105) (Operand.const (Value.bool false)), type := 4, pos := "law.go:211", after := #[{ on := 31, ground := Ground.data }, { on := 39, ground := Ground.data }, { on := 28, ground := Ground.guard }], guard := some (28, false) }) (v := ?_) rfl (by kernel_rfl) (by kernel_rfl) (by kernel_rfl) (fun _ _ _ h => h) (Or.inl ⟨by rfl, ?_⟩) (by assumption) ?_
        rotate_left
        · intro w hSw
          try dsimp only at hSw
          go_simp
          first | done | with_reducible rfl
        try simp only [Act.put, List.setIfInBounds_toArray, List.set_cons_zero, List.set_cons_succ]
        refine wpAnyH_take (i := 41) (oi := { dst := some 107, op := Op.pick (Operand.tmp 94) (Operand.const (Value.bool true)) (Operand.tmp 106), type := 4, pos := "law.go:211", after := #[{ on := 28, ground := Ground.data }, { on := 40, ground := Ground.data }], guard := none }) (v := ?_) rfl (by kernel_rfl) (by kernel_rfl) (by kernel_rfl) (fun _ _ _ h => h) (Or.inl ⟨by rfl, ?_⟩) (by assumption) ?_
        rotate_left
        · intro w hSw
          try dsimp only at hSw
          go_simp
          first | done | with_reducible rfl
        try simp only [Act.put, List.setIfInBounds_toArray, List.set_cons_zero, List.set_cons_succ]
        refine wpAnyH_take (i := 42) (oi := { dst := some 108, op := Op.move (Operand.tmp 107), type := 4, pos := "law.go:211", after := #[{ on := 41, ground := Ground.data }, { on := 38, ground := Ground.chain }], guard := none }) (v := ?_) rfl (by kernel_rfl) (by kernel_rfl) (by kernel_rfl) (fun _ _ _ h => h) (Or.inl ⟨by rfl, ?_⟩) (by assumption) ?_
        rotate_left
        · intro w hSw
          try dsimp only at hSw
          go_simp
          first | done | with_reducible rfl
        try simp only [Act.put, List.setIfInBounds_toArray, List.set_cons_zero, List.set_cons_succ]
        refine wpAnyH_take (i := 43) (oi := { dst := some 109, op := Op.move (Operand.tmp 10), type := 25, pos := "law.go:211", after := #[{ on := 42, ground := Ground.guard }], guard := some (42, false) }) (v := ?_) rfl (by kernel_rfl) (by kernel_rfl) (by kernel_rfl) (fun _ _ _ h => h) (Or.inl ⟨by rfl, ?_⟩) (by assumption) ?_
        rotate_left
        · intro w hSw
          try dsimp only at hSw
          go_simp
          first | done | with_reducible rfl
        try simp only [Act.put, List.setIfInBounds_toArray, List.set_cons_zero, List.set_cons_succ]
        refine wpAnyH_take (i := 45) (oi := { dst := some 111, op := Op.move (Operand.tmp 7), type := 27, pos := "law.go:211", after := #[{ on := 42, ground := Ground.guard }], guard := some (42, false) }) (v := ?_) rfl (by kernel_rfl) (by kernel_rfl) (by kernel_rfl) (fun _ _ _ h => h) (Or.inl ⟨by rfl, ?_⟩) (by assumption) ?_
        rotate_left
        · intro w hSw
          try dsimp only at hSw
          go_simp
          first | done | with_reducible rfl
        try simp only [Act.put, List.setIfInBounds_toArray, List.set_cons_zero, List.set_cons_succ]
        refine wpAnyH_take (i := 46) (oi := { dst := some 112, op := Op.move (Operand.tmp 14), type := 3, pos := "law.go:211", after := #[{ on := 42, ground := Ground.guard }], guard := some (42, false) }) (v := ?_) rfl (by kernel_rfl) (by kernel_rfl) (by kernel_rfl) (fun _ _ _ h => h) (Or.inl ⟨by rfl, ?_⟩) (by assumption) ?_
        rotate_left
        · intro w hSw
          try dsimp only at hSw
          go_simp
          first | done | with_reducible rfl
        try simp only [Act.put, List.setIfInBounds_toArray, List.set_cons_zero, List.set_cons_succ]
        refine wpAnyH_take (i := 47) (oi := { dst := some 113, op := Op.indexAddr 27 (Operand.tmp 111) (Operand.tmp 112), type := 0, pos := "law.go:211", after := #[{ on := 45, ground := Ground.data }, { on := 46, ground := Ground.data }, { on := 42, ground := Ground.guard }], guard := some (42, false) }) (v := ?_) rfl (by kernel_rfl) (by kernel_rfl) (by kernel_rfl) (fun _ _ _ h => h) (Or.inl ⟨by rfl, ?_⟩) (by assumption) ?_
        rotate_left
        · intro w hSw
          try dsimp only at hSw
          go_simp
          first | done | with_reducible rfl
        try simp only [Act.put, List.setIfInBounds_toArray, List.set_cons_zero, List.set_cons_succ]
        refine wpAnyH_take (i := 48) (oi := { dst := some 114, op := Op.load 9 (Operand.tmp 113), type := 9, pos := "law.go:211", after := #[{ on := 47, ground := Ground.data }, { on := 42, ground := Ground.guard }], guard := some (42, false) }) (v := ?_) rfl (by kernel_rfl) (by kernel_rfl) (by kernel_rfl) (fun _ _ _ h => h) (Or.inl ⟨by rfl, ?_⟩) (by assumption) ?_
        rotate_left
        · intro w hSw
          try dsimp only at hSw
          go_simp
          first | done | with_reducible rfl
        try simp only [Act.put, List.setIfInBounds_toArray, List.set_cons_zero, List.set_cons_succ]
        refine wpAnyH_ready (rs := [44]) (by kernel_rfl) (by simp) ?_
        refine AllReadyH.cons (o := { dst := some 110, op := Op.call { callee := Callee.value (Operand.func 29), args := #[Operand.tmp 109, Operand.const (Value.int IntKind.i64 6)], argTypes := #[25, 3] }, type := 27, pos := "law.go:211", after := #[{ on := 43, ground := Ground.data }, { on := 42, ground := Ground.chain }, { on := 42, ground := Ground.guard }], guard := some (42, false) }) rfl (fun K hK => ?_) AllReadyH.nil
        go_simp
        (go_at_call 29; refine (hd6.out _ (And.right (by assumption))).mono ?_; rintro e w14 ⟨a14, n14, c14, rfl, h14, hbx⟩)
        try go_wp2_with fail
        refine hK.out _ _ ?_ (fun hHeld => ?_)
        · first | assumption | exact LR.step (by assumption) hbx
        clear hK K
        try simp only [Act.put, List.setIfInBounds_toArray, List.set_cons_zero, List.set_cons_succ]
        refine wpAnyH_ready (rs := [49]) (by kernel_rfl) (by simp) ?_
        refine AllReadyH.cons (o := { dst := some 115, op := Op.call { callee := Callee.value (Operand.func 26), args := #[Operand.tmp 110, Operand.tmp 114], argTypes := #[27, 9] }, type := 4, pos := "law.go:211", after := #[{ on := 44, ground := Ground.data }, { on := 48, ground := Ground.data }, { on := 44, ground := Ground.chain }, { on := 42, ground := Ground.guard }], guard := some (42, false) }) rfl (fun K hK => ?_) AllReadyH.nil
        go_simp
        (go_at_call 26; refine (h14.out _ (Below.refl _ _)).mono ?_; rintro e w15 ⟨rfl, hbx⟩)
        try go_wp2_with fail
        refine hK.out _ _ ?_ (fun hHeld => ?_)
        · first | assumption | exact LR.step (by assumption) hbx
        clear hK K
        try simp only [Act.put, List.setIfInBounds_toArray, List.set_cons_zero, List.set_cons_succ]
        refine wpAnyH_take (i := 50) (oi := { dst := some 116, op := Op.pick (Operand.tmp 108) (Operand.const (Value.bool true)) (Operand.tmp 115), type := 4, pos := "law.go:211", after := #[{ on := 42, ground := Ground.data }, { on := 49, ground := Ground.data }], guard := none }) (v := ?_) rfl (by kernel_rfl) (by kernel_rfl) (by kernel_rfl) (fun _ _ _ h => h) (Or.inl ⟨by rfl, ?_⟩) (by assumption) ?_
        rotate_left
        · intro w hSw
          try dsimp only at hSw
          go_simp
          first | done | with_reducible rfl
        try simp only [Act.put, List.setIfInBounds_toArray, List.set_cons_zero, List.set_cons_succ]
        refine wpAnyH_done (by kernel_rfl) ?_ _
        all_goals (
          have LE : LR w7 A f s2 ⟨b, off + i, none⟩ x w15 := And.right (by assumption)
          have HBE := Hid.mk' LE.bel
          clear LE
          go_wp2
          exact ⟨⟨i + 1, by simp, by omega, HBE.out⟩, by simp [intOf]; omega⟩)
    · have hx1 : ¬ (i : Int) < (la : Int) := by omega
      have HF8 : Hid (FA wr A f 2 0 s2) := HF7.out.below HB.out
      have HK8 : Hid (Keep A w7 wr) := keep_below HB.out
      have hlen0 : (na ++ oc).length ≤ 12 := by
        have h1 := HGA.out.2.2.1
        have h2 := HGB.out.2.2.1
        have h3 := List.length_filter_le (fun x => !hasB na x) nb
        have h4 : (nb.filter (fun x => !hasB na x)).length = oc.length := congrArg List.length HOL.out.2.1
        rw [List.length_append]
        omega
      have hsub : ∀ z ∈ ol, z ∈ na := fun z hz => by rw [← HOL.out.1] at hz; exact (mem_outs.1 hz).1
      have hmem0 : ∀ j, 0 ≤ j → j < ll → ol.getD j ⟨#[]⟩ ∈ na ++ oc := fun j _ hj => List.mem_append.2 (.inl (hsub _ (getD_mem (by rw [HOL.out.2.2]; exact hj))))
      have HM0 := Hid.mk' hmem0
      have hH : s2.H = sta (gA nb) (na ++ oc) := by rw [← HS2.out]
      have HH0 := Hid.mk' hH
      clear hH hmem0 HB hsub
      go_wp2
      go_loopw [18] (fun v18 wr => ∃ (i : Nat) (s : Fl) (l : List ByteArray), v18 = .int .i64 i ∧ i ≤ ll ∧ Hid (FA wr A f 2 0 s) ∧ Hid (W s) ∧ Hid (s.H = sta (gA nb) l) ∧ l.length ≤ 12 ∧ Hid (∀ j, i ≤ j → j < ll → ol.getD j ⟨#[]⟩ ∈ l) ∧ Hid (Keep A w7 wr)) (fun v18 _ => ll + 1 - (intOf v18).toNat)
      case atStart => exact ⟨0, s2, na ++ oc, rfl, Nat.zero_le _, HF8, HW2, HH0, hlen0, HM0, HK8⟩
      case round =>
        clear HF8 HK8 HM0 HH0
        obtain ⟨i, s, l, rfl, hi, HF, HW, HH, hl12, HM, HK⟩ := hrel
        have hnl : l.Nodup := by
          obtain ⟨l', g', e1, e2⟩ := HW.out
          rw [HH.out] at e1
          have e3 := congrArg hn e1
          rw [hn_sta, hn_sta] at e3
          rw [e3]
          exact e2.nd
        have hfew := HW.out.few (by rw [HH.out, sta_length]; omega)
        by_cases hin : i < ll
        · obtain ⟨-, -, hrc, hrl⟩ := HROW.out wr HK.out
          obtain ⟨b, off, rfl, hbx, hcx⟩ := hrl.at_ i hin
          have hno : ol.Nodup := by rw [← HOL.out.1]; exact outs_nodup HGA.out.1
          have hoi := fidx_nodup hno i (by rw [HOL.out.2.2]; exact hin)
          have hne : ∀ j, i + 1 ≤ j → j < ll → ol.getD j ⟨#[]⟩ ∈ l ∧ ol.getD j ⟨#[]⟩ ≠ ol.getD i ⟨#[]⟩ := fun j h1 h2 => ⟨HM.out j (by omega) h2, fun e => by
            have hoj := fidx_nodup hno j (by rw [HOL.out.2.2]; exact h2)
            rw [e, hoi] at hoj
            omega⟩
          have hxl := HM.out i (Nat.le_refl _) hin
          have hxo : ol.getD i ⟨#[]⟩ ∈ outs nb na := by rw [HOL.out.1]; exact getD_mem (by rw [HOL.out.2.2]; exact hin)
          have hbA := HAL.out _ rfl
          have HNE := Hid.mk' hne
          clear hne hoi
          generalize ol.getD i ⟨#[]⟩ = x at *
          have hxg : gA nb x = (1, true) := gA_out (hasB_not.2 (mem_outs.1 hxo).2)
          have HX : Hid (∀ w', Keep A wr w' → w'.cell? ⟨b, off + i, none⟩ = some (.string x)) := fun w' hk => hk.cell (a := ⟨b, off + i, none⟩) hcx hbA
          have hhas := has_any _ _ _ nc x wr hrc
          obtain ⟨q1, q2, q3, q4, q5⟩ := em_lv hnl hxl HH.out hxg
          have hfe := fempty_w HF.out hfew.inv x
          rw [q1] at hfe
          have hWt := HW.out.empty x
          generalize emS x s = t at *
          have hlt : t.H.length ≤ 1900 := by rw [q2, sta_length]; have := List.length_filter_le (fun y => !decide (y = x)) l; omega
          have hfe2 : Hid (∀ w', FA w' A f 2 0 t → Calls Tryd.prog 30 #[.pointer (some ⟨f, 0, none⟩), .string x] w' fun r w'' => r = .returned (.bool false) ∧ FA w'' A f 2 0 t ∧ Keep A w' w'') := fun w' h => by
            have := fempty_w h (hWt.few hlt).inv x
            rwa [q3, q4] at this
          have hst3 : Hid (∀ w', FA w' A f 2 0 t → Calls Tryd.prog 27 #[.pointer (some ⟨f, 0, none⟩), .string x] w' fun r w'' => r = .returned (.tuple #[.int .i64 (stF x t.H), .bool false]) ∧ Below w'.heap.size w' w'') := fun w' h => by
            have := fstate_w h x
            rwa [q5] at this
          have HRD : Hid (Hid (W t) ∧ Hid (t.H = sta (gA nb) (l.filter (fun y => !decide (y = x)))) ∧ (l.filter (fun y => !decide (y = x))).length ≤ 12 ∧ Hid (∀ j, i + 1 ≤ j → j < ll → ol.getD j ⟨#[]⟩ ∈ l.filter (fun y => !decide (y = x)))) := ⟨hWt, q2, by have := List.length_filter_le (fun y => !decide (y = x)) l; omega, fun j h1 h2 => List.mem_filter.2 ⟨(HNE.out j h1 h2).1, by simpa using (HNE.out j h1 h2).2⟩⟩
          generalize stF x t.H = sx at *
          have hcx' := HX.out wr (Keep.refl _ _)
          clear hrc hrl hno hxl hxo hxg q1 q2 q3 q4 q5 hWt hlt hnl hfew hcx HNE
          cases hnc : hasB nc x with
          | true =>
            rw [hnc] at hhas
            clear hfe hfe2 hst3 HRD
            go_wp2_with (go_at_call 26; refine hhas.mono ?_; rintro r w8 ⟨rfl, hw8⟩; subst hw8)
            exact ⟨⟨i + 1, s, l, by simp, by omega, HF, HW, HH, hl12, fun j h1 h2 => HM.out j (by omega) h2, HK⟩, by simp [intOf]; omega⟩
          | false =>
            rw [hnc] at hhas
            go_upto_region 21 with (go_at_call 26; refine hhas.mono ?_; rintro r w8 ⟨rfl, hw8⟩; subst hw8)
            go_wp2_with (first
              | (go_at_call 30; refine hfe.mono ?_; rintro r w9 ⟨rfl, hf9, hk9⟩; clear hfe; have x9 := HX.out w9 hk9; have hfe3 := hfe2.out w9 hf9)
              | (go_at_call 30; refine hfe3.mono ?_; rintro r w10 ⟨rfl, hf10, hk10⟩; clear hfe3; have x10 := HX.out w10 (hk9.trans hk10); have hst4 := hst3.out w10 hf10)
              | (go_at_call 27; refine hst4.mono ?_; rintro r w11 ⟨rfl, hb11⟩))
            exact ⟨⟨i + 1, t, _, by simp, by omega, hf10.below hb11, HRD.out.1, HRD.out.2.1, HRD.out.2.2.1, HRD.out.2.2.2, HK.out.trans (hk9.trans (hk10.trans (keep_below hb11)))⟩, by simp [intOf]; omega⟩
        · have hgc := HGC.out
          have hlH : s.H.length ≤ 12 := by rw [HH.out, sta_length]; exact hl12
          have hml := hfew.ml
          have hres := fresolve_w HF.out hfew.inv pc lc cc' (HROW.out wr HK.out).2.2.1 HPC.out (good_size hgc.2.1) 9 (by omega) (by omega) hfew.sz
          have hrq := res_Q HH.out hnl (fun y _ => by cases h : hasB nb y with | true => exact .inl (gA_in h) | false => exact .inr (gA_out h)) (good_chk hgc.1 hgc.2.1) 9
          have HRQ := Hid.mk' hrq
          have hx2 : ¬ (i : Int) < (ll : Int) := by omega
          generalize reS nc 9 s = s3 at *
          generalize reC nc 9 s = C3 at *
          generalize reN nc s = N3 at *
          generalize reE nc = E3 at *
          clear hrq hgc hlH hml hfew hnl HM HW HH
          go_wp2_with (go_at_call 21; refine hres.mono ?_; rintro r w8 ⟨va, vb, rfl, o1, o2, hf8, hk8⟩)
          have HF8 : Hid (FA w8 A f 2 0 s3) := FIn.fewer hf8 (fun k hk => .inl (.inl hk)) HF.out.a0
          have HK8 : Hid (Keep A w7 w8) := HK.out.trans hk8
          clear hres o1 o2 hf8 hk8 HF HK
          go_loopw [21] (fun v21 wq => ∃ (j : Nat), v21 = .int .i64 j ∧ j ≤ lc ∧ Hid (Below w8.heap.size w8 wq)) (fun v21 _ => lc + 1 - (intOf v21).toNat)
          case atStart => exact ⟨0, rfl, Nat.zero_le _, Below.refl _ _⟩
          case round =>
            obtain ⟨j, rfl, hj, HBQ⟩ := hrel
            by_cases hjn : j < lc
            · obtain ⟨-, -, hrc, -⟩ := HROW.out wr (HK8.out.trans (keep_below HBQ.out))
              obtain ⟨b, off, rfl, hbx, hcx⟩ := hrc.at_ j hjn
              have hxc : nc.getD j ⟨#[]⟩ ∈ nc := getD_mem (by rw [HGC.out.2.2.1]; exact hjn)
              generalize nc.getD j ⟨#[]⟩ = x at *
              obtain ⟨t1, t2, t3⟩ := HRQ.out x hxc
              have hst := fstate_w (HF8.out.below HBQ.out) x
              rw [t1, t2] at hst
              have HLV : Hid (∀ w', Below w8.heap.size w8 w' → Calls Tryd.prog 28 #[.pointer (some ⟨f, 0, none⟩), .string x] w' fun r w'' => r = .returned (.bool false) ∧ Below w'.heap.size w' w'') := fun w' hb => by
                have := fleaves_w (HF8.out.below hb) x
                rwa [t3] at this
              have hjn' : (j : Int) < (lc : Int) := by omega
              clear hrc hxc t1 t2 t3
              go_wp2_with (first
                | (go_at_call 27; refine hst.mono ?_; rintro r w9 ⟨rfl, hb9⟩; clear hst; have x9 := (hb9.cell (p := ⟨b, off + j, none⟩) hbx).trans hcx; have hbb := HBQ.out.trans (hb9.mono HBQ.out.size); have hlv := HLV.out w9 hbb)
                | (go_at_call 28; refine hlv.mono ?_; rintro r w10 ⟨rfl, hb10⟩))
              exact ⟨⟨j + 1, by simp, by omega, hbb.trans (hb10.mono hbb.size)⟩, by simp [intOf]; omega⟩
            · have hx3 : ¬ (j : Int) < (lc : Int) := by omega
              have hw1 : IntKind.i64.wrap ((lk : Int) + (la : Int)) = lk + la := by simp [IntKind.wrap, IntKind.signed, IntKind.bits]; omega
              have hw2 : IntKind.i64.wrap ((lk : Int) + (la : Int) - (ll : Int)) = lb := by simp [IntKind.wrap, IntKind.signed, IntKind.bits]; omega
              have HE := Hid.mk' (HEND.out wr (HK8.out.trans (keep_below HBQ.out)))
              go_wp2
              go_ret
              exact ⟨rfl, HE.out⟩
end Go.Proofs.YtmlkpfkeeifgeaaDoor
