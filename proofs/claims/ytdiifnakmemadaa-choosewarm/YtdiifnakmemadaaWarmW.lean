/-
  ChooseWarm's walk: made one by one, the hosts that are to be warmed come to rest: it returns true and turns nothing that was there. Conditions: the hosts lie where they are said to lie.
-/
import Derived.Test.YtdiifnakmemadaaLives
import Derived.Test.YtdiifnakmemadaaStrs
import Derived.Test.YtdiifnakmemadaaWarmP
import Derived.Test.YtdiifnakmemadaaOne
import Derived.Deep.CutRange
import Derived.Deep.CutBlock
import Derived.Deep.RegionHeld3
namespace Go.Proofs.Ytdiifnakmemadaa
open Go.ChangeShapes Go.WideShapes Go.ChangeAt Go.RowKit

theorem hcs_setM : ∀ (l : List Hs) (k : Nat) (x : Int), (hcs l).set (k * 5 + 1) (.int .i64 x) = hcs (setM l k x)
  | [], k, x => by simp [hcs, setM]
  | h :: l, 0, x => by simp [hcs, setM]
  | h :: l, k + 1, x => by
    have e1 : (k + 1) * 5 + 1 = (k * 5 + 1) + 1 + 1 + 1 + 1 + 1 := by omega
    have e2 : setM (h :: l) (k + 1) x = h :: setM l k x := by simp [setM]
    rw [e1, e2]
    simp [hcs, hcs_setM l k x]
theorem own_store {w : World} {base g cap n : Nat} {l : List Hs} (h : w.ownsRow base 38 5 (.slice (some ⟨g, 0, none⟩) n cap) n (hcs l)) (k : Nat) (x : Int) :
    (w.setCell ⟨g, k * 5 + 1, none⟩ (.int .i64 x)).ownsRow base 38 5 (.slice (some ⟨g, 0, none⟩) n cap) n (hcs (setM l k x)) ∧ w.grownBy (w.setCell ⟨g, k * 5 + 1, none⟩ (.int .i64 x)) (some g) := by
  have := h.stored (k * 5 + 1) (.int .i64 x)
  rwa [hcs_setM] at this
/-- What lies at place k of a row of one's own. -/
theorem own_at {w : World} {base n cap : Nat} {a : Option Addr} {l : List Hs} (h : w.ownsRow base 38 5 (.slice a n cap) n (hcs l)) {k : Nat} (hk : k < n) :
    ∃ g, a = some ⟨g, 0, none⟩ ∧ g < w.heap.size ∧ HC w g (k * 5) (l.getD k z0) ∧ ∀ o, w.frozen? ⟨g, o, none⟩ = false := by
  obtain ⟨a', c', e, hh, -, hb⟩ := owns_hosts h
  cases e
  obtain ⟨b, off, rfl, hlt, hx⟩ := hh.rd k hk
  have h2 := (hb _ rfl).1
  have h3 : off = 0 := by
    have := congrArg Addr.off h2
    exact this
  subst h3
  rw [Nat.zero_add] at hx
  exact ⟨b, rfl, hlt, hx, fun o => h.frozenAt o⟩
theorem own_len {w : World} {base n : Nat} {v : Value} {l : List Hs} (h : w.ownsRow base 38 5 v n (hcs l)) : l.length = n := by
  have := h.1
  rw [hcs_length] at this
  omega

/-- What the test behind a host's being warmed finds. -/
def S3 (w0 : World) (g F : Nat) (x d : Int) (w' : World) : Prop :=
  w'.cell? ⟨g, F * 5 + 1, none⟩ = some (.int .i64 x) ∧ w'.cell? ⟨g, F * 5 + 2, none⟩ = some (.int .i64 d) ∧ Below w0.heap.size w0 w'
theorem s3_below {w0 w w' : World} {g F : Nat} {x d : Int} (h : S3 w0 g F x d w) (hb : Below w.heap.size w w') : S3 w0 g F x d w' := by
  obtain ⟨h0, h1, h2⟩ := h
  have l0 := World.block_lt_of_cell? w _ h0
  exact ⟨(hb.cell (p := ⟨g, F * 5 + 1, none⟩) l0).trans h0, (hb.cell (p := ⟨g, F * 5 + 2, none⟩) l0).trans h1, below_trans h2 hb⟩
theorem s3_of {w0 w : World} {g F : Nat} {x d : Int} (h : S3 w0 g F x d w) : Below w0.heap.size w0 w := h.2.2

set_option maxHeartbeats 2000000 in
set_option maxRecDepth 100000 in
theorem warm_walk (a1 : Option Addr) (l1 c1 : Nat) (hs : List Hs) (each warm : Int) (w : World) (hz : HostsAt w a1 l1 c1 hs) :
    Calls Try.prog 5 #[.slice a1 l1 c1, .int .i64 each, .int .i64 warm] w fun e w' => e = .returned (.bool true) ∧ Below w.heap.size w w' := by
  have HZ := Hid.mk' hz
  clear hz
  have hE9 := um_bd 9 each (by decide) (by decide)
  have hW9 := um_bd 9 warm (by decide) (by decide)
  obtain ⟨E, hE⟩ : ∃ E, wrap64 ((IntKind.u64.wrap each).tmod 9) = E := ⟨_, rfl⟩
  obtain ⟨Wm, hWm⟩ : ∃ Wm, wrap64 ((IntKind.u64.wrap warm).tmod 9) = Wm := ⟨_, rfl⟩
  rw [hE] at hE9
  rw [hWm] at hW9
  have HEE := Hid.mk' (And.intro hE hWm)
  clear hE hWm
  go_enter Try.func5, Try.ntmps5
  go_wp2_with fail
  refine (lives_any _).mono ?_
  rintro e w1 ⟨rfl, hb1⟩
  have hf := few_any a1 l1 c1 hs w1 (HZ.out.below hb1)
  go_wp2_with fail
  refine hf.mono ?_
  rintro e w2 ⟨v, n, l, rfl, hn, hl, hsm, ho, hb2⟩
  obtain ⟨a2, c2, rfl, hh2, -⟩ := owns_hosts ho
  have hf2 := as_any a2 n c2 l w2 hh2 hn
  have HB2 : Hid (Below w.heap.size w w2) := below_trans hb1 hb2
  clear hf hb1 hb2 ho hh2
  go_wp2_with fail
  refine hf2.mono ?_
  rintro e w3 ⟨v, rfl, ho, hb3⟩
  obtain ⟨a3, c3, rfl, hh3, -⟩ := owns_hosts ho
  have hle := hh3.hle
  have hc := hh3.hcap
  unfold maxLen at hc
  have HST : Hid (w3.ownsRow w2.heap.size 38 5 (.slice a3 n c3) n (hcs l) ∧ Cut4 l 0 ∧ Below w2.heap.size w2 w3) := ⟨ho, Cut4.start hsm, hb3⟩
  clear hf2 ho hh3 hb3 hsm hl
  go_wp2
  go_loopw [8] (fun v8 wr => ∃ (i : Nat) (l' : List Hs), v8 = .int .i64 i ∧ i ≤ n ∧ Cut4 l' i ∧ wr.ownsRow w2.heap.size 38 5 (.slice a3 n c3) n (hcs l') ∧ Below w2.heap.size w2 wr) (fun v8 _ => n + 1 - (intOf v8).toNat)
  case atStart => exact ⟨0, l, rfl, Nat.zero_le _, HST.out.2.1, HST.out.1, HST.out.2.2⟩
  case round =>
    clear HST
    obtain ⟨i, l', rfl, hi, hcut4, hown, hbl⟩ := hrel
    have hlen := own_len hown
    by_cases h1 : i < n
    · obtain ⟨g, rfl, hg, ⟨x0, x1, x2, x3, x4⟩, hfz⟩ := own_at hown h1
      have hin : (i : Int) < (n : Int) := by omega
      have hf1 := hfz (i * 5 + 1)
      have hub := um_bd 4 (l'.getD i z0).mg (by decide) (by decide)
      have HST : Hid (∀ x : Int, 0 ≤ x → x ≤ 3 → Cut4 (setM l' i x) (i + 1) ∧ (wr.setCell ⟨g, i * 5 + 1, none⟩ (.int .i64 x)).ownsRow w2.heap.size 38 5 (.slice (some ⟨g, 0, none⟩) n c3) n (hcs (setM l' i x)) ∧ Below w2.heap.size w2 (wr.setCell ⟨g, i * 5 + 1, none⟩ (.int .i64 x))) :=
        fun x h0 h3 => ⟨hcut4.step h0 h3 (by omega), (own_store hown i x).1, below_grown hown (own_store hown i x).2 hbl (Nat.le_refl _)⟩
      generalize (l'.getD i z0).mg = m at x1 hub
      have HUB := Hid.mk' hub
      clear hub hcut4 hown hbl hfz x0 x2 x3 x4 hlen
      go_wp2
      have h3 := HST.out _ HUB.out.1 (by have := HUB.out.2; omega)
      exact ⟨⟨i + 1, _, by simp, by omega, h3.1, h3.2.1, h3.2.2⟩, by simp [intOf]; omega⟩
    · obtain rfl : i = n := by omega
      have HWD : Hid (Warmed l' ∧ left l' ≤ 160) := by
        have h2 := (hlen ▸ hcut4 : Cut4 l' l'.length).all
        have h3 := left_le l' h2.mem
        exact ⟨h2, by omega⟩
      have HST : Hid (wr.ownsRow w2.heap.size 38 5 (.slice a3 i c3) i (hcs l') ∧ Below w2.heap.size w2 wr) := ⟨hown, hbl⟩
      clear hcut4 hown hbl hlen h1
      go_upto_region 10 with fail
      rw [HEE.out.1, HEE.out.2]
      clear HEE
      go_wp2
      go_loopw [9] (fun v9 wx => ∃ (t : Nat) (l2 : List Hs), v9 = .int .i64 t ∧ Warmed l2 ∧ left l2 + t ≤ 160 ∧ wx.ownsRow w2.heap.size 38 5 (.slice a3 i c3) i (hcs l2) ∧ Below w2.heap.size w2 wx) (fun v9 _ => 200 - (intOf v9).toNat)
      case atStart => exact ⟨0, l', rfl, HWD.out.1, HWD.out.2, HST.out.1, HST.out.2⟩
      case round =>
        clear HST HWD
        obtain ⟨t, l2, rfl, hwd, hleft, hown, hbl⟩ := hrel
        have hlen := own_len hown
        have hwarm := Warm_any wr a3 i c3 l2 E Wm (by
          obtain ⟨a', c', e, hh, -⟩ := owns_hosts hown
          cases e
          exact hh)
        have HST : Hid (wr.ownsRow w2.heap.size 38 5 (.slice a3 i c3) i (hcs l2) ∧ Below w2.heap.size w2 wr ∧ Warmed l2) := ⟨hown, hbl, hwd⟩
        have ht : t < 200 := by omega
        have hti : (t : Int) < 200 := by omega
        obtain ⟨F, hF⟩ : ∃ F, fst (warmH E Wm) l2 = F := ⟨_, rfl⟩
        have HLT : Hid (∀ j, j < F → warmH E Wm (l2.getD j z0) = false) := fun j hj => fst_lt _ _ j (by omega)
        unfold fstO at hwarm
        rw [hF, hlen] at hwarm
        clear hown hbl hwd
        by_cases hFi : F < i
        · have hat : warmH E Wm (l2.getD F z0) = true := by
            have := fst_at (warmH E Wm) l2 (by omega)
            rwa [hF] at this
          rw [if_pos hFi] at hwarm
          have hw2 : Calls Try.prog 14 #[.slice a3 i c3, .int .i64 E, .int .i64 Wm] wr fun e w' => e = .returned (.tuple #[.int .i64 (F : Int), .bool true]) ∧ Below wr.heap.size wr w' := hwarm
          clear hwarm hF HLT
          go_upto_region 22 with (first | (go_at_call 14; refine hw2.mono ?_; rintro e w5 ⟨rfl, hb5⟩))
          have own5 := owns_below HST.out.1 hb5
          have HB5 : Hid (Below w2.heap.size w2 w5) := below_trans HST.out.2.1 hb5
          have hwdF := HST.out.2.2 F
          have hwd := HST.out.2.2
          obtain ⟨g, rfl, hg, ⟨x0, x1, x2, x3, x4⟩, hfz⟩ := own_at own5 hFi
          have hfz1 := hfz (F * 5 + 1)
          obtain ⟨m, hm⟩ : ∃ m, (l2.getD F z0).mg = m := ⟨_, rfl⟩
          have hM8 : 0 ≤ m ∧ m + 1 ≤ 8 ∧ allH (l2.getD F z0) < E ∧ m + max (l2.getD F z0).id 0 < Wm ∧ allH { l2.getD F z0 with mg := m + 1 } ≤ E := by
            have hat2 := hat
            unfold warmH opensH at hat2
            simp only [Bool.and_eq_true, decide_eq_true_eq] at hat2
            obtain ⟨⟨_, hall⟩, how⟩ := hat2
            obtain ⟨k0, k1, k2, k3, k4, k5⟩ := hwdF
            generalize l2.getD F z0 = h at *
            obtain ⟨s, m', d, bz, y⟩ := h
            simp only [] at hm k0 k1 k2 k3 k4 k5
            subst hm
            rw [ownH_of s m' d bz y (by omega) (by omega)] at how
            refine ⟨k0, by omega, hall, by simp only []; omega, ?_⟩
            rw [allH_of s m' d bz y (by omega) (by omega) (by omega)] at hall
            show allH ⟨s, m' + 1, d, bz, y⟩ ≤ E
            rw [allH_of s (m' + 1) d bz y (by omega) (by omega) (by omega)]
            omega
          obtain ⟨hm0, hm8, -, how, hall⟩ := hM8
          rw [hm] at x1
          have hst := own_store own5 F (m + 1)
          have hleft2 := left_set l2 F (m + 1) (by omega) (by rw [hm]) hm8
          have hwd2 := hwd.set (k := F) (x := m + 1) (by omega) hm8
          have hsa : (setM l2 F (m + 1)).getD F z0 = { l2.getD F z0 with mg := m + 1 } := setM_at (by omega) _
          have hbS := below_grown own5 hst.2 HB5.out (Nat.le_refl _)
          obtain ⟨wS, hwS⟩ : ∃ wS, wS = w5.setCell ⟨g, F * 5 + 1, none⟩ (.int .i64 (m + 1)) := ⟨_, rfl⟩
          rw [← hwS] at hst hbS
          have hownS := hst.1
          obtain ⟨g', e', -, ⟨-, y1, y2, -, -⟩, -⟩ := own_at hownS hFi
          cases e'
          rw [hsa] at y1 y2
          simp only [] at y1 y2
          have HALL : Hid (∀ wx, Below wS.heap.size wS wx → Calls Try.prog 16 #[.slice (some ⟨g, F * 5, none⟩) 1 (c3 - F)] wx fun e w' => e = .returned (.int .i64 (allH { l2.getD F z0 with mg := m + 1 })) ∧ Below wx.heap.size wx w') := fun wx hb => by
            obtain ⟨a', c', e, hh, -⟩ := owns_hosts hownS
            cases e
            have := All_any wx _ _ _ _ ((hh.below hb).only hFi)
            rw [allL_only, hsa, Nat.zero_add] at this
            exact this
          generalize allH { l2.getD F z0 with mg := m + 1 } = A2 at *
          have HEND : Hid (wS.ownsRow w2.heap.size 38 5 (.slice (some ⟨g, 0, none⟩) i c3) i (hcs (setM l2 F (m + 1))) ∧ Below w2.heap.size w2 wS ∧ Warmed (setM l2 F (m + 1)) ∧ left (setM l2 F (m + 1)) + (t + 1) ≤ 160) := ⟨hownS, hbS, hwd2, by omega⟩
          generalize setM l2 F (m + 1) = l3 at *
          have hid := hwdF.2.2
          generalize (l2.getD F z0).id = d at *
          have hFI : (F : Int) < (i : Int) := by omega
          have hFc : F < c3 := by omega
          clear hst hsa hbS hownS hwd2 hwd hleft2 own5 hfz x0 x3 x4 hat HST hw2 hb5 hwdF hm hleft
          go_upto_region 23 with fail
          rw [← hwS]
          clear hwS x1 x2 hfz1
          obtain ⟨D1, q2⟩ : ∃ D1, (if d < 0 then 0 else d) = D1 := ⟨_, rfl⟩
          obtain ⟨M1, hM1⟩ : ∃ M1, m + 1 = M1 := ⟨_, rfl⟩
          obtain ⟨O1, hO1⟩ : ∃ O1, M1 + D1 = O1 := ⟨_, rfl⟩
          have hOW : O1 ≤ Wm := by omega
          rw [hM1] at y1
          have hwr : IntKind.i64.wrap (M1 + D1) = O1 := by
            have bD : 0 ≤ D1 ∧ D1 ≤ 1000 := by omega
            rw [← hO1]
            simp only [IntKind.wrap, IntKind.signed, IntKind.bits, Bool.true_and, ge_iff_le, decide_eq_true_eq]
            split <;> omega
          have hw1 : IntKind.i64.wrap ((F : Int) + 1) = (F : Int) + 1 := by
            simp only [IntKind.wrap, IntKind.signed, IntKind.bits, Bool.true_and, ge_iff_le, decide_eq_true_eq]
            split <;> omega
          have hsl0 : (0 : Int) ≤ (F : Int) := Int.natCast_nonneg _
          have hsl1 : (F : Int) + 1 ≤ (c3 : Int) := by omega
          have hsl2 : (F : Int) ≤ (F : Int) + 1 := by omega
          have hsl3 : (0 : Int) ≤ (F : Int) + 1 := by omega
          have hsl4 : (F : Int) < (c3 : Int) := by omega
          have hsl5 : F + 1 ≤ c3 := by omega
          have hsl6 : ¬ c3 = F := by omega
          have hgt : decide (Wm < O1) = false := decide_eq_false (by omega)
          have hall2 : decide (E < A2) = false := decide_eq_false (by omega)
          have hS : wS.drew.cell? ⟨g, F * 5 + 1, none⟩ = some (.int .i64 M1) ∧ wS.drew.cell? ⟨g, F * 5 + 2, none⟩ = some (.int .i64 d) ∧ Below wS.heap.size wS wS.drew := ⟨y1, y2, (Below.refl _ _).drew⟩
          have HAL : Hid (∀ wx, Below wS.heap.size wS wx → Calls Try.prog 16 #[.slice (some ⟨g, F * 5, none⟩) 1 (c3 - F)] wx fun e w' => e = .returned (.int .i64 A2) ∧ Below wx.heap.size wx w') := HALL.out
          clear y1 y2 hM1 hO1 hall how hm8 HALL hid
          go_region_held3 (fun w' => w'.cell? ⟨g, F * 5 + 1, none⟩ = some (.int .i64 M1) ∧ w'.cell? ⟨g, F * 5 + 2, none⟩ = some (.int .i64 d) ∧ Below wS.heap.size wS w')
            (first | assumption | exact s3_below (by assumption) hbx | go_keep)
            (first | (go_at_call 16; refine (HAL.out _ (s3_of (by assumption))).mono ?_; rintro e w7 ⟨rfl, hbx⟩))
          all_goals (
            have hE7 : S3 wS g F M1 d w7 := by assumption
            have HE7 := Hid.mk' (And.intro (owns_below HEND.out.1 hE7.2.2) (below_trans HEND.out.2.1 hE7.2.2))
            clear hE7 hS hbx HAL
            go_wp2
            exact ⟨⟨t + 1, l3, by simp, HEND.out.2.2.1, HEND.out.2.2.2, HE7.out.1, HE7.out.2⟩, by simp [intOf]; omega⟩)
        · rw [if_neg hFi] at hwarm
          have hw2 : Calls Try.prog 14 #[.slice a3 i c3, .int .i64 E, .int .i64 Wm] wr fun e w' => e = .returned (.tuple #[.int .i64 0, .bool false]) ∧ Below wr.heap.size wr w' := hwarm
          have hFe : F = i := by have := fst_le (warmH E Wm) l2; omega
          subst hFe
          clear hwarm hF
          go_wp2_with (first | (go_at_call 14; refine hw2.mono ?_; rintro e w5 ⟨rfl, hb5⟩))
          have own5 := owns_below HST.out.1 hb5
          have HB5 : Hid (Below w2.heap.size w2 w5) := below_trans HST.out.2.1 hb5
          have HWD := Hid.mk' HST.out.2.2
          have HO5 := Hid.mk' own5
          clear own5 HST hw2 hb5
          go_loopw [12] (fun v12 wx => ∃ j : Nat, v12 = .int .i64 j ∧ j ≤ F ∧ Below w5.heap.size w5 wx) (fun v12 _ => F + 1 - (intOf v12).toNat)
          case atStart => exact ⟨0, rfl, Nat.zero_le _, Below.refl _ _⟩
          case round =>
            obtain ⟨j, rfl, hj, hbl5⟩ := hrel
            by_cases hjF : j < F
            · obtain ⟨g, rfl, hg, ⟨x0, x1, x2, x3, x4⟩, -⟩ := own_at (owns_below HO5.out hbl5) hjF
              have hno := HLT.out j hjF
              obtain ⟨k0, k1, k2, k3, k4, k5⟩ := HWD.out j
              generalize l2.getD j z0 = h at *
              obtain ⟨s, m, d, bz, y⟩ := h
              simp only [] at x0 x1 x2 x3 x4 k0 k1 k2 k3 k4 k5
              have hown := ownH_of s m d bz y (by omega) (by omega)
              have hall := allH_of s m d bz y (by omega) (by omega) (by omega)
              obtain ⟨M1, q1⟩ : ∃ M1, (if m < 0 then 0 else m) = M1 := ⟨_, rfl⟩
              obtain ⟨D1, q2⟩ : ∃ D1, (if d < 0 then 0 else d) = D1 := ⟨_, rfl⟩
              obtain ⟨Z1, q3⟩ : ∃ Z1, (if bz < 0 then 0 else bz) = Z1 := ⟨_, rfl⟩
              have bM : 0 ≤ M1 ∧ M1 ≤ 1000 := by omega
              have bD : 0 ≤ D1 ∧ D1 ≤ 1000 := by omega
              have bZ : 0 ≤ Z1 ∧ Z1 ≤ 1000 := by omega
              have HNO : Hid (¬ ((s == 0) = true ∧ y = true ∧ M1 + D1 < Wm ∧ M1 + D1 + Z1 < E)) := by
                rintro ⟨n0, rfl, n2, n3⟩
                have e1 : allH ⟨s, m, d, bz, true⟩ < E := by rw [hall]; omega
                have e2 : ownH ⟨s, m, d, bz, true⟩ < Wm := by rw [hown]; omega
                unfold warmH opensH at hno
                rw [decide_eq_true e1, decide_eq_true e2, n0] at hno
                cases hno
              have hjI : (j : Int) < (F : Int) := by omega
              have HBJ : Hid (Below w5.heap.size w5 wr) := hbl5
              clear hno hown hall hbl5 k0 k1 k2 k3 k4 k5
              have hwr : IntKind.i64.wrap (M1 + D1) = M1 + D1 := by
                simp only [IntKind.wrap, IntKind.signed, IntKind.bits, Bool.true_and, ge_iff_le, decide_eq_true_eq]
                split <;> omega
              go_upto_region 18 with fail
              go_wp2_with fail
              go_quiet (fail)
              go_upto_region 19 with fail
              cases hs0 : (s == 0) with
              | false =>
                clear HNO
                go_wp2
                exact ⟨⟨j + 1, by simp, by omega, below_trans HBJ.out (below_drewN _ _)⟩, by simp [intOf]; omega⟩
              | true =>
                cases y with
                | false =>
                  clear HNO
                  go_wp2
                  exact ⟨⟨j + 1, by simp, by omega, below_trans HBJ.out (below_drewN _ _)⟩, by simp [intOf]; omega⟩
                | true =>
                  by_cases h4 : M1 + D1 < Wm
                  · have h5 : ¬ M1 + D1 + Z1 < E := fun h => HNO.out ⟨hs0, rfl, h4, h⟩
                    have h6 : decide (M1 + D1 + Z1 < E) = false := decide_eq_false h5
                    clear HNO
                    go_wp2
                    exact ⟨⟨j + 1, by simp, by omega, below_trans HBJ.out (below_drewN _ _)⟩, by simp [intOf]; omega⟩
                  · have h6 : decide (M1 + D1 < Wm) = false := decide_eq_false h4
                    clear HNO
                    go_wp2
                    exact ⟨⟨j + 1, by simp, by omega, below_trans HBJ.out (below_drewN _ _)⟩, by simp [intOf]; omega⟩
            · obtain rfl : j = F := by omega
              have HE := Hid.mk' (below_trans HB2.out (below_trans HB5.out hbl5))
              clear hbl5
              go_wp2
              go_ret
              exact ⟨rfl, HE.out⟩

end Go.Proofs.Ytdiifnakmemadaa
