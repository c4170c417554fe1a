/-
  BackoffPlays's walk: what a backoff answers, and has, in whatever row, is what the document's says. Conditions: the steps lie where they are said to lie.
-/
import Derived.Test.YtcofkaackpecjaaAnewW
import Derived.Deep.CutBlock
namespace Go.Proofs.Ytcofkaackpecjaa
open Go.ChangeShapes Go.WideShapes Go.ChangeAt Go.RowKit

/-- A step's kind. -/
def kindI (z : Int) : Int := wrap64 ((IntKind.u64.wrap z).tmod 4)
theorem kindI_of (z : Int) : (kindI z = 0 ∨ kindI z = 1) ∨ kindI z = 2 ∨ kindI z = 3 := by
  have := um_bd 4 z (by decide) (by decide)
  unfold kindI
  omega

set_option maxRecDepth 100000 in
theorem kind_step (kd at_ dr : Int) (w : World) :
    Calls Try.prog 12 #[.agg #[.int .i64 kd, .int .i64 at_, .int .i64 dr]] w fun e w' => e = .returned (.int .i64 (kindI kd)) ∧ Below w.heap.size w w' := by
  have hb : Below w.heap.size w (w.alloc (.cells #[.int .i64 kd, .int .i64 at_, .int .i64 dr] 31)) := (Below.refl _ w).alloc (Nat.le_refl _) _
  have HX : Hid (wrap64 ((IntKind.u64.wrap kd).tmod 4) = kindI kd) := rfl
  go_enter Try.func12, Try.ntmps12
  go_wp2
  go_ret
  exact ⟨by first | rfl | (rw [← HX.out]), hb⟩

/-- The backoff at g has f fails, and may be tried from u on; the document's, at b, has f' and u'. -/
structure PS (w1 wr : World) (g b : Nat) (base S f u f' u' : Int) : Prop where
  bat : BAt wr g base f u
  blk : wr.heap[b]? = some (.cells #[.int .i64 S, .int .i64 f', .int .i64 u'] 27 (0, 0))
  lt : g < b
  keep : Keep (fun k => k < g) w1 wr

/-- The same, and the step lies at b6. -/
structure PQ (w1 wr : World) (g b b6 : Nat) (base S f u f' u' kd at_ dr : Int) : Prop where
  ps : PS w1 wr g b base S f u f' u'
  lt6 : b < b6
  blk6 : wr.heap[b6]? = some (.cells #[.int .i64 kd, .int .i64 at_, .int .i64 dr] 31 (0, 0))

/-- What holds all through the look at both. -/
structure LP (wc : World) (g : Nat) (base f u : Int) (w' : World) : Prop where
  bat : BAt w' g base f u
  bel : Below wc.heap.size wc w'

section
variable {w1 wr w' w'' wc : World} {g b b6 : Nat} {base S f u f' u' kd at_ dr : Int}
theorem PS.ltb (h : PS w1 wr g b base S f u f' u') : b < wr.heap.size := (Array.getElem?_eq_some_iff.1 h.blk).1
theorem PS.same (h : PS w1 wr g b base S f u f' u') (hb : Below wr.heap.size wr w') : PS w1 w' g b base S f u f' u' :=
  ⟨h.bat.below hb, (hb.block b h.ltb).trans h.blk, h.lt, h.keep.trans (keep_below hb)⟩
theorem PS.win {f2 u2 : Int} (h : PS w1 wr g b base S f u f' u') (hB : BAt w' g base f2 u2) (hk : Keep (fun k => k ≠ g) wr w') : PS w1 w' g b base S f2 u2 f' u' :=
  ⟨hB, (hk.block b h.ltb (by have := h.lt; omega)).trans h.blk, h.lt, h.keep.trans (hk.mono fun k _ hk => by omega)⟩
theorem PS.put {f2 u2 : Int} (h : PS w1 wr g b base S f u f' u') :
    PS w1 (((wr.setCell ⟨b, 0, none⟩ (.int .i64 S)).setCell ⟨b, 1, none⟩ (.int .i64 f2)).setCell ⟨b, 2, none⟩ (.int .i64 u2)) g b base S f u f2 u2 := by
  have k9 : Keep (fun k => k ≠ b) wr (((wr.setCell ⟨b, 0, none⟩ (.int .i64 S)).setCell ⟨b, 1, none⟩ (.int .i64 f2)).setCell ⟨b, 2, none⟩ (.int .i64 u2)) := (((Keep.refl _ _).setCell (fun hn => hn rfl) _).setCell (fun hn => hn rfl) _).setCell (fun hn => hn rfl) _
  have hb := h.lt
  exact ⟨h.bat.keep k9 (by omega), (heap_set3 (heap_set3 (heap_set3 h.blk).1).2.1).2.2, h.lt, h.keep.trans (k9.mono fun k _ hk => by omega)⟩

theorem PQ.ltq (h : PQ w1 wr g b b6 base S f u f' u' kd at_ dr) : b6 < wr.heap.size := (Array.getElem?_eq_some_iff.1 h.blk6).1
theorem PQ.same (h : PQ w1 wr g b b6 base S f u f' u' kd at_ dr) (hb : Below wr.heap.size wr w') : PQ w1 w' g b b6 base S f u f' u' kd at_ dr :=
  ⟨h.ps.same hb, h.lt6, (hb.block b6 h.ltq).trans h.blk6⟩
theorem PQ.win {f2 u2 : Int} (h : PQ w1 wr g b b6 base S f u f' u' kd at_ dr) (hB : BAt w' g base f2 u2) (hk : Keep (fun k => k ≠ g) wr w') : PQ w1 w' g b b6 base S f2 u2 f' u' kd at_ dr :=
  ⟨h.ps.win hB hk, h.lt6, (hk.block b6 h.ltq (by have := h.lt6; have := h.ps.lt; omega)).trans h.blk6⟩
theorem PQ.put {f2 u2 : Int} (h : PQ w1 wr g b b6 base S f u f' u' kd at_ dr) :
    PQ w1 (((wr.setCell ⟨b, 0, none⟩ (.int .i64 S)).setCell ⟨b, 1, none⟩ (.int .i64 f2)).setCell ⟨b, 2, none⟩ (.int .i64 u2)) g b b6 base S f u f2 u2 kd at_ dr := by
  have k9 : Keep (fun k => k ≠ b) wr (((wr.setCell ⟨b, 0, none⟩ (.int .i64 S)).setCell ⟨b, 1, none⟩ (.int .i64 f2)).setCell ⟨b, 2, none⟩ (.int .i64 u2)) := (((Keep.refl _ _).setCell (fun hn => hn rfl) _).setCell (fun hn => hn rfl) _).setCell (fun hn => hn rfl) _
  exact ⟨h.ps.put, h.lt6, (k9.block b6 h.ltq (by have := h.lt6; omega)).trans h.blk6⟩
/-- The cells that the look at Fail's answer reads. -/
theorem PQ.three (h : PQ w1 wr g b b6 base S f u f' u' kd at_ dr) : wr.cell? ⟨b6, 1, none⟩ = some (.int .i64 at_) ∧ wr.cell? ⟨b6, 2, none⟩ = some (.int .i64 dr) ∧ wr.cell? ⟨b, 2, none⟩ = some (.int .i64 u') :=
  ⟨(blk3 h.blk6).2.1, (blk3 h.blk6).2.2.1, (blk3 h.ps.blk).2.2.1⟩

theorem lp_of (h : w'.cell? ⟨b, 0, none⟩ = some (.int .i64 S) ∧ w'.cell? ⟨b, 1, none⟩ = some (.int .i64 f) ∧ w'.cell? ⟨b, 2, none⟩ = some (.int .i64 u) ∧ w'.cell? ⟨b6, 1, none⟩ = some (.int .i64 at_) ∧ LP wc g base f u w') : LP wc g base f u w' := h.2.2.2.2
theorem lp_held (h : w'.cell? ⟨b, 0, none⟩ = some (.int .i64 S) ∧ w'.cell? ⟨b, 1, none⟩ = some (.int .i64 f) ∧ w'.cell? ⟨b, 2, none⟩ = some (.int .i64 u) ∧ w'.cell? ⟨b6, 1, none⟩ = some (.int .i64 at_) ∧ LP wc g base f u w') (hb : Below w'.heap.size w' w'') :
    w''.cell? ⟨b, 0, none⟩ = some (.int .i64 S) ∧ w''.cell? ⟨b, 1, none⟩ = some (.int .i64 f) ∧ w''.cell? ⟨b, 2, none⟩ = some (.int .i64 u) ∧ w''.cell? ⟨b6, 1, none⟩ = some (.int .i64 at_) ∧ LP wc g base f u w'' := by
  obtain ⟨h0, h1, h2, h3, h4⟩ := h
  have k := keep_below (A := fun _ => True) hb
  exact ⟨k.cell h0 trivial, k.cell h1 trivial, k.cell h2 trivial, k.cell h3 trivial, h4.bat.below hb, h4.bel.trans (hb.mono h4.bel.size)⟩
end

theorem next_span (base f now d : Int) : nextU (spanI base) f now d = nextU base f now d := by unfold nextU; rw [wait_span]

set_option maxHeartbeats 8000000 in
set_option maxRecDepth 100000 in
theorem plays_walk (base : Int) (a : Option Addr) (len cap : Nat) (ss : List Stp) (w : World) (hs : StepsAt w a len cap ss) :
    Calls Try.prog 3 #[.int .i64 base, .slice a len cap] w fun e w' => e = .returned (.bool true) ∧ Below w.heap.size w w' := by
  have l1 := hs.hle
  have c1 := hs.hcap
  obtain ⟨n, hn⟩ : ∃ n, min len 100 = n := ⟨_, rfl⟩
  have hea := early_any a len cap n l1 c1 hn
  have hn3 : n ≤ 100 := by omega
  have hn4 : n ≤ len := by omega
  have hnc : n ≤ cap := by omega
  unfold maxLen at c1
  have hns := next_span base
  have hrn := rnew_any base
  clear hn
  go_enter Try.func3, Try.ntmps3
  go_wp2_with fail
  refine (lives_any _).mono ?_
  rintro e w1 ⟨rfl, hb1⟩
  go_wp2_with fail
  refine (new_any base w1).mono ?_
  rintro e w2 ⟨rfl, hB2, hb2, -⟩
  go_wp2_with fail
  refine (hrn w2).mono ?_
  rintro e w3 ⟨rfl, hb3⟩
  go_wp2_with fail
  refine (hea _).mono ?_
  rintro e w4 ⟨rfl, hw4⟩
  have HS : Hid (StepsAt w1 a len cap ss) := hs.below hb1
  have HB : Hid (Below w.heap.size w w1) := hb1
  have hb4 : Below w3.heap.size w3 (w3.alloc (.cells #[.int .i64 (spanI base), .int .i64 0, .int .i64 0] 27)) := (Below.refl _ w3).alloc (Nat.le_refl _) _
  have hps : PS w1 w4 w1.heap.size w3.heap.size base (spanI base) 0 0 0 0 := by
    subst hw4
    have hb24 := hb3.trans (hb4.mono hb3.size)
    exact ⟨hB2.below hb24, heap_alloc_new _ _, by have := hB2.lt; have := hb3.size; omega, (keep_below hb2).trans (keep_below hb24)⟩
  clear hea hs hb1 hb2 hb3 hb4 hB2 hw4
  generalize hg : w1.heap.size = g at *
  have HG : Hid (w1.heap.size = g) := hg
  clear hg
  generalize w3.heap.size = b at *
  generalize spanI base = S at *
  have HNS : Hid (∀ (f now d : Int), nextU S f now d = nextU base f now d) := hns
  clear hns
  go_wp2
  go_loopw [7] (fun vi wr => ∃ (i : Nat) (f u : Int), vi = .int .i64 i ∧ i ≤ n ∧ 0 ≤ f ∧ f ≤ i ∧ PS w1 wr g b base S f u f u) (fun vi _ => n - (intOf vi).toNat)
  case atStart => exact ⟨0, 0, 0, rfl, Nat.zero_le _, by omega, by omega, hps⟩
  case round =>
    clear hps
    obtain ⟨i, f, u, rfl, hi1, hf0, hf1, hps⟩ := hrel
    by_cases hc : i < n
    · obtain ⟨bq, off, rfl, hlt, x0, x1, x2⟩ := HS.out.rd i (by omega)
      have hd := HS.out.wf i (by omega)
      obtain ⟨kd, at_, dr, hst⟩ : ∃ kd at_ dr, ss.getD i s0 = ⟨kd, at_, dr⟩ := ⟨_, _, _, rfl⟩
      rw [hst] at x0 x1 x2 hd
      dsimp only at x0 x1 x2 hd
      clear hst
      rw [HG.out] at hlt
      have x0 := hps.keep.cell x0 hlt
      have x1 := hps.keep.cell x1 hlt
      have x2 := hps.keep.cell x2 hlt
      have HD : Hid (In dr) := hd
      have HPS : Hid (PS w1 wr g b base S f u f u) := hps
      clear hps hd
      go_upto_region 9 with fail
      have hb6 : Below wr.heap.size wr (wr.alloc (.cells #[.int .i64 kd, .int .i64 at_, .int .i64 dr] 31)) := (Below.refl _ wr).alloc (Nat.le_refl _) _
      have hq : PQ w1 (wr.alloc (.cells #[.int .i64 kd, .int .i64 at_, .int .i64 dr] 31)) g b wr.heap.size base S f u f u kd at_ dr := ⟨HPS.out.same hb6, HPS.out.ltb, heap_alloc_new _ _⟩
      clear hb6 HPS x0 x1 x2
      generalize wr.alloc (.cells #[.int .i64 kd, .int .i64 at_, .int .i64 dr] 31) = w6 at *
      generalize wr.heap.size = b6 at *
      obtain ⟨y0, y1, y2, -⟩ := blk3 hq.blk6
      have HQ : Hid (PQ w1 w6 g b b6 base S f u f u kd at_ dr) := hq
      clear hq
      go_upto_block 2 with (go_at_call 12; refine (kind_step kd at_ dr _).mono ?_; rintro e w7 ⟨rfl, hb7⟩)
      have hq7 := HQ.out.same hb7
      clear HQ y0 y1 y2 hb7
      go_cut [] from 29 to 52 (fun wx => ∃ (f2 u2 : Int), 0 ≤ f2 ∧ f2 ≤ i + 1 ∧ PQ w1 wx g b b6 base S f2 u2 f2 u2 kd at_ dr)
      case first =>
        obtain ⟨y0, y1, y2, -⟩ := blk3 hq7.blk6
        obtain ⟨c0, c1', c2', hl7⟩ := blk3 hq7.ps.blk
        have HQ : Hid (PQ w1 w7 g b b6 base S f u f u kd at_ dr) := hq7
        clear hq7
        have hkk := kindI_of kd
        generalize kindI kd = kk at *
        rcases hkk with hkk | hkk | hkk
        · rcases hkk with rfl | rfl
          all_goals (
            obtain ⟨U, hU⟩ : ∃ U, nextU base (f + 1) at_ dr = U := ⟨_, rfl⟩
            have hra := rfail_any S f u at_ dr hf0 (by omega) HD.out w7
            rw [HNS.out, hU] at hra
            have hfl := fun (w' : World) (h : BAt w' g base f u) => fail_n h hf0 (by omega) at_ dr HD.out (f + 1) U rfl hU
            clear hU
            go_wp2_with fail
            refine hra.mono ?_
            rintro e w8 ⟨rfl, hb8⟩
            have hq8 := HQ.out.same hb8
            obtain ⟨d0, d1, d2, hd⟩ := blk3 hq8.ps.blk
            have f0 := fz3 hq8.ps.blk 0
            have f1 := fz3 hq8.ps.blk 1
            have f2 := fz3 hq8.ps.blk 2
            have HQ9 : Hid (PQ w1 (((w8.setCell ⟨b, 0, none⟩ (.int .i64 S)).setCell ⟨b, 1, none⟩ (.int .i64 (f + 1))).setCell ⟨b, 2, none⟩ (.int .i64 U)) g b b6 base S f u (f + 1) U kd at_ dr) := hq8.put
            clear hra hq8 hb8 y0 y1 y2 c0 c1' c2' HQ
            go_upto_region 13 with fail
            generalize ((w8.setCell ⟨b, 0, none⟩ (.int .i64 S)).setCell ⟨b, 1, none⟩ (.int .i64 (f + 1))).setCell ⟨b, 2, none⟩ (.int .i64 U) = w9 at *
            clear d0 d1 d2 f0 f1 f2 hd
            have HQD : Hid (PQ w1 w9.drew g b b6 base S f u (f + 1) U kd at_ dr) := HQ9.out.same (Below.refl _ w9).drew
            have HS1 : Hid (w9.drew.cell? ⟨b6, 1, none⟩ = some (.int .i64 at_) ∧ w9.drew.cell? ⟨b6, 2, none⟩ = some (.int .i64 dr) ∧ w9.drew.cell? ⟨b, 2, none⟩ = some (.int .i64 U)) := HQ9.out.three
            go_wp2_with fail
            have hS := HS1.out
            go_region_held3 (fun w' => w'.cell? ⟨b6, 1, none⟩ = some (.int .i64 at_) ∧ w'.cell? ⟨b6, 2, none⟩ = some (.int .i64 dr) ∧ w'.cell? ⟨b, 2, none⟩ = some (.int .i64 U))
              (first | assumption | exact (HQD.out.win hbx hby).three | go_keep)
              (first | (go_at_call 14; refine (hfl _ HQD.out.ps.bat).mono ?_; rintro e w10 ⟨rfl, hbx, hby⟩))
            have HE : Hid (PQ w1 w10 g b b6 base S (f + 1) U (f + 1) U kd at_ dr) := HQD.out.win hbx hby
            clear hbx hby hS HS1 HQD HQ9 hfl
            go_wp2_with fail
            go_meet
            exact ⟨f + 1, U, by omega, by omega, HE.out⟩)
        · subst hkk
          go_wp2_with fail
          refine (hrn w7).mono ?_
          rintro e w8 ⟨rfl, hb8⟩
          have hq8 := HQ.out.same hb8
          obtain ⟨d0, d1, d2, hd⟩ := blk3 hq8.ps.blk
          have f0 := fz3 hq8.ps.blk 0
          have f1 := fz3 hq8.ps.blk 1
          have f2 := fz3 hq8.ps.blk 2
          have HQ9 : Hid (PQ w1 (((w8.setCell ⟨b, 0, none⟩ (.int .i64 S)).setCell ⟨b, 1, none⟩ (.int .i64 0)).setCell ⟨b, 2, none⟩ (.int .i64 0)) g b b6 base S f u 0 0 kd at_ dr) := hq8.put
          clear hq8 hb8 y0 y1 y2 c0 c1' c2' HQ
          go_upto_region 17 with fail
          generalize ((w8.setCell ⟨b, 0, none⟩ (.int .i64 S)).setCell ⟨b, 1, none⟩ (.int .i64 0)).setCell ⟨b, 2, none⟩ (.int .i64 0) = w9 at *
          clear d0 d1 d2 f0 f1 f2 hd
          have hok := ok_w HQ9.out.ps.bat
          go_wp2_with fail
          refine hok.mono ?_
          rintro e w10 ⟨rfl, hB10, hk10⟩
          have HE : Hid (PQ w1 w10 g b b6 base S 0 0 0 0 kd at_ dr) := HQ9.out.win hB10 hk10
          clear hok hB10 hk10 HQ9
          go_wp2_with fail
          go_meet
          exact ⟨0, 0, by omega, by omega, HE.out⟩
        · subst hkk
          go_wp2_with fail
          go_meet
          exact ⟨f, u, hf0, by omega, HQ.out⟩
      case rest =>
        clear hq7 HD
        obtain ⟨f2, u2, hf2, hf3, hq⟩ := hcut
        obtain ⟨c0, c1', c2', -⟩ := blk3 hq.ps.blk
        obtain ⟨y0, y1, y2, -⟩ := blk3 hq.blk6
        have hma := fun (w' : World) (h : BAt w' g base f2 u2) => may_w h at_
        have hrm := rmay_any S f2 u2 at_
        generalize past at_ u2 = pb at *
        have HS1 : Hid (wc.drew.cell? ⟨b, 0, none⟩ = some (.int .i64 S) ∧ wc.drew.cell? ⟨b, 1, none⟩ = some (.int .i64 f2) ∧ wc.drew.cell? ⟨b, 2, none⟩ = some (.int .i64 u2) ∧ wc.drew.cell? ⟨b6, 1, none⟩ = some (.int .i64 at_) ∧ LP wc g base f2 u2 wc.drew) :=
          ⟨c0, c1', c2', y1, hq.ps.bat, (Below.refl _ wc).drew⟩
        have HQ : Hid (PS w1 wc g b base S f2 u2 f2 u2) := hq.ps
        clear hq c0 c1' c2' y0 y1 y2
        go_wp2_with fail
        have hS := HS1.out
        go_region_held3 (fun w' => w'.cell? ⟨b, 0, none⟩ = some (.int .i64 S) ∧ w'.cell? ⟨b, 1, none⟩ = some (.int .i64 f2) ∧ w'.cell? ⟨b, 2, none⟩ = some (.int .i64 u2) ∧ w'.cell? ⟨b6, 1, none⟩ = some (.int .i64 at_) ∧ LP wc g base f2 u2 w')
          (first | assumption | exact lp_held (by assumption) hbx | go_keep)
          (first
            | (go_at_call 16; refine (fails_w (LP.bat (lp_of (by assumption)))).mono ?_; rintro e w' ⟨rfl, rfl⟩)
            | (go_at_call 17; refine (until_w (LP.bat (lp_of (by assumption)))).mono ?_; rintro e w' ⟨rfl, rfl⟩)
            | (go_at_call 18; refine (hma _ (LP.bat (lp_of (by assumption)))).mono ?_; rintro e w' ⟨rfl, rfl⟩)
            | (go_at_call 19; refine (hrm _).mono ?_; rintro e w' ⟨rfl, hbx⟩))
        have HE : Hid (PS w1 w' g b base S f2 u2 f2 u2) := HQ.out.same (lp_of (w' := w') (by assumption)).bel
        clear HQ hS HS1 hma hrm hbx
        go_wp2
        first
          | exact ⟨⟨i + 1, f2, u2, by simp, by omega, hf2, by omega, HE.out⟩, by simp [intOf]; omega⟩
          | (go_roundw
             case rel => ((repeat apply Exists.intro); exact ⟨⟨i + 1, f2, u2, by simp, by omega, hf2, by omega, HE.out⟩, rfl⟩)
             case measure => simp [intOf]; omega)
    · obtain rfl : n = i := by omega
      have HEND : Hid (Below w.heap.size w wr) := HB.out.trans (hps.keep.below HB.out.size (fun k hk => by have := HB.out.size; have := HG.out; omega))
      clear hps hc
      go_wp2
      go_ret
      exact ⟨rfl, HEND.out⟩

end Go.Proofs.Ytcofkaackpecjaa
