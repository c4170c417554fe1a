/-
  BackPlays's walk: what a connection answers, and has, in whatever row, is what the document's says. Conditions: the steps lie where they are said to lie; the table of names reads as it is laid.
-/
import Derived.Test.YtnbpkjfaopfapaaDoorRefS
import Derived.Test.YtnbpkjfaopfapaaDoorNames
import Derived.Test.YtnbpkjfaopfapaaDoorStrs
import Derived.Deep.RegionHeld3
namespace Go.Proofs.YtnbpkjfaopfapaaDoor
open Go.ChangeShapes Go.WideShapes Go.ChangeAt Go.RowKit

/-- The connection at g and the document's at r are the same; what lay below g is as it was at w1. -/
structure PS (w1 w : World) (g r : Nat) (H : ByteArray) (s : Bk) : Prop where
  bat : BAt w g H s
  rat : RAt w r H s
  lt : g < r
  keep : Keep (fun k => k < g) w1 w
theorem PS.below {w1 w w' : World} {g r : Nat} {H : ByteArray} {s : Bk} (h : PS w1 w g r H s) (hb : Below w.heap.size w w') : PS w1 w' g r H s :=
  ⟨h.bat.below hb, h.rat.below hb, h.lt, h.keep.trans (keep_below hb)⟩
/-- The same, and the step lies at q. -/
structure PQ (w1 w : World) (g r q : Nat) (H : ByteArray) (s : Bk) (k a b : Int) : Prop where
  ps : PS w1 w g r H s
  lt : r < q
  ltq : q < w.heap.size
  x0 : w.cell? ⟨q, 0, none⟩ = some (.int .i64 k)
  x1 : w.cell? ⟨q, 1, none⟩ = some (.int .i64 a)
  x2 : w.cell? ⟨q, 2, none⟩ = some (.int .i64 b)
theorem PQ.below {w1 w w' : World} {g r q : Nat} {H : ByteArray} {s : Bk} {k a b : Int} (h : PQ w1 w g r q H s k a b) (hb : Below w.heap.size w w') : PQ w1 w' g r q H s k a b :=
  ⟨h.ps.below hb, h.lt, Nat.lt_of_lt_of_le h.ltq hb.size, (hb.cell (p := ⟨q, 0, none⟩) h.ltq).trans h.x0, (hb.cell (p := ⟨q, 1, none⟩) h.ltq).trans h.x1, (hb.cell (p := ⟨q, 2, none⟩) h.ltq).trans h.x2⟩

/-- What the look reads of the two blocks of its own. -/
def SX (w : World) (r q : Nat) (H : ByteArray) (t : Bk) (k a b : Int) : Prop :=
  (w.cell? ⟨r, 0, none⟩ = some (.int .i64 t.st) ∧ w.cell? ⟨r, 1, none⟩ = some (.string H) ∧ w.cell? ⟨r, 2, none⟩ = some (.int .i64 t.bo) ∧ w.cell? ⟨r, 3, none⟩ = some (.int .i64 t.dl) ∧ w.cell? ⟨r, 4, none⟩ = some (.int .i64 t.si) ∧ w.cell? ⟨r, 5, none⟩ = some (.int .i64 t.cl) ∧ w.cell? ⟨r, 6, none⟩ = some (.int .i64 t.ow)) ∧ w.cell? ⟨q, 0, none⟩ = some (.int .i64 k) ∧ w.cell? ⟨q, 1, none⟩ = some (.int .i64 a) ∧ w.cell? ⟨q, 2, none⟩ = some (.int .i64 b)
theorem sx_keep {w w' : World} {A : Nat → Prop} {r q : Nat} {H : ByteArray} {t : Bk} {k a b : Int} (h : SX w r q H t k a b) (hk : Keep A w w') (hr : A r) (hq : A q) : SX w' r q H t k a b := by
  obtain ⟨⟨h0, h1, h2, h3, h4, h5, h6⟩, h7, h8, h9⟩ := h
  exact ⟨⟨hk.cell h0 hr, hk.cell h1 hr, hk.cell h2 hr, hk.cell h3 hr, hk.cell h4 hr, hk.cell h5 hr, hk.cell h6 hr⟩, hk.cell h7 hq, hk.cell h8 hq, hk.cell h9 hq⟩
theorem sx_below {w w' : World} {r q : Nat} {H : ByteArray} {t : Bk} {k a b : Int} (h : SX w r q H t k a b) (hb : Below w.heap.size w w') : SX w' r q H t k a b :=
  sx_keep h (keep_below (A := fun _ => True) hb) trivial trivial
/-- What holds of the rest, from the step on. -/
structure BX (w1 w : World) (g r : Nat) (H : ByteArray) (t : Bk) : Prop where
  bat : BAt w g H t
  rat : RAt w r H t
  keep : Keep (fun k => k < g) w1 w
  tabs : Tabs w
theorem BX.below {w1 w w' : World} {g r : Nat} {H : ByteArray} {t : Bk} (h : BX w1 w g r H t) (hb : Below w.heap.size w w') : BX w1 w' g r H t := ⟨h.bat.below hb, h.rat.below hb, h.keep.trans (keep_below hb), h.tabs.below hb⟩

set_option maxHeartbeats 8000000 in
set_option maxRecDepth 100000 in
theorem plays_walk (h : ByteArray) (hz : h.size ≤ maxLen) (a : Option Addr) (len cap : Nat) (ss : List Stp) (now : Int) (w : World) (hs : StepsAt w a len cap ss) (hn : Tabs w) :
    Calls Tryd.prog 3 #[.string h, .slice a len cap, .int .i64 now] w fun e w' => e = .returned (.bool true) ∧ Below w.heap.size w w' := by
  have l1 := hs.hle
  have c1 := hs.hcap
  obtain ⟨n, hn1⟩ : ∃ n, min len 100 = n := ⟨_, rfl⟩
  have hea := early_any a len cap n l1 c1 hn1
  have hn3 : n ≤ 100 := by omega
  have hn4 : n ≤ len := by omega
  have hnc : n ≤ cap := by omega
  unfold maxLen at c1 hz
  clear hn1
  obtain ⟨m, hm⟩ : ∃ m : Nat, (if (20 : Int) < (h.size : Int) then (20 : Int) else (h.size : Int)) = (m : Int) := ⟨min h.size 20, by split <;> omega⟩
  have hm1 : m ≤ h.size := by split at hm <;> omega
  have hm2 : m ≤ 20 := by split at hm <;> omega
  go_enter Tryd.func3, Tryd.ntmps3
  go_wp2_with fail
  refine (lives_any _).mono ?_
  rintro e w1 ⟨rfl, hb1⟩
  have HS : Hid (StepsAt w1 a len cap ss) := hs.below hb1
  have HN : Hid (Tabs w1) := hn.below hb1
  have HB : Hid (Below w.heap.size w w1) := hb1
  clear hs hn hb1
  go_wp2_with fail
  generalize h.extract 0 m = H at *
  refine (new_any H w1).mono ?_
  rintro e w2 ⟨rfl, hB2, hb2, hz2⟩
  have HLT : Hid (w1.heap.size < w2.heap.size) := by show _ < _; omega
  clear hz2
  go_upto_region 5 with fail
  have hb3 : Below w2.heap.size w2 (w2.alloc (.cells #[.int .i64 0, .string H, .int .i64 0, .int .i64 0, .int .i64 0, .int .i64 0, .int .i64 0] 27)) := (Below.refl _ w2).alloc (Nat.le_refl _) _
  have hps : PS w1 (w2.alloc (.cells #[.int .i64 0, .string H, .int .i64 0, .int .i64 0, .int .i64 0, .int .i64 0, .int .i64 0] 27)) w1.heap.size w2.heap.size H b0 :=
    ⟨hB2.below hb3, heap_alloc_new _ _, HLT.out, (keep_below hb2).trans (keep_below hb3)⟩
  generalize w2.alloc (.cells #[.int .i64 0, .string H, .int .i64 0, .int .i64 0, .int .i64 0, .int .i64 0, .int .i64 0] 27) = w3 at *
  have HPS := Hid.mk' hps
  have HNP : Hid (0 < w1.heap.size) := HN.out.pos
  clear hps hb3 hb2 hB2 HLT
  generalize w2.heap.size = r at *
  generalize hg : w1.heap.size = g at *
  have HG : Hid (w1.heap.size = g) := hg
  clear hg hm hm1 hm2
  go_wp2_with fail
  refine (hea _).mono ?_
  rintro e w4 ⟨rfl, hw4⟩
  obtain rfl : w3 = w4 := hw4.symm
  clear hea hw4
  go_wp2
  go_loopw [9] (fun vi wr => ∃ (i : Nat) (s : Bk), vi = .int .i64 i ∧ i ≤ n ∧ Hid (Inv s i) ∧ Hid (PS w1 wr g r H s)) (fun vi _ => n - (intOf vi).toNat)
  case atStart => exact ⟨0, b0, rfl, Nat.zero_le _, inv0, HPS⟩
  case round =>
    clear HPS
    obtain ⟨i, s, rfl, hi1, HI, HQ⟩ := hrel
    by_cases hc : i < n
    · obtain ⟨bq, off, rfl, hlt, x0, x1, x2⟩ := HS.out.rd i (by omega)
      obtain ⟨⟨kd, sa, sb⟩, hst⟩ : ∃ q, ss.getD i s0 = q := ⟨_, rfl⟩
      rw [hst] at x0 x1 x2
      dsimp only at x0 x1 x2
      clear hst
      rw [HG.out] at hlt
      have x0 := HQ.out.keep.cell x0 hlt
      have x1 := HQ.out.keep.cell x1 hlt
      have x2 := HQ.out.keep.cell x2 hlt
      obtain ⟨⟨t, d⟩, hq⟩ : ∃ q, stp (kindI kd) sa sb s = q := ⟨_, rfl⟩
      have HI2 : Hid (Inv t ((i + 1 : Nat) : Int)) := by
        have := inv_stp HI.out (by omega) (kindI kd) sa sb
        rw [hq] at this
        exact this
      obtain ⟨hb6, z0, z1, z2, hl6⟩ := step_box wr kd sa sb
      have HPQ : Hid (PQ w1 (wr.alloc (.cells #[.int .i64 kd, .int .i64 sa, .int .i64 sb] 30)) g r wr.heap.size H s kd sa sb) :=
        ⟨HQ.out.below hb6, Cells7.lt HQ.out.rat, hl6, z0, z1, z2⟩
      have HRS : Hid (∀ w' : World, Calls Tryd.prog 7 #[.agg #[.int .i64 s.st, .string H, .int .i64 s.bo, .int .i64 s.dl, .int .i64 s.si, .int .i64 s.cl, .int .i64 s.ow], .agg #[.int .i64 kd, .int .i64 sa, .int .i64 sb]] w' fun e w'' => e = .returned (.tuple #[.agg #[.int .i64 t.st, .string H, .int .i64 t.bo, .int .i64 t.dl, .int .i64 t.si, .int .i64 t.cl, .int .i64 t.ow], .bool d]) ∧ Below w'.heap.size w' w'') := by
        intro w'
        have h1 := rstep_any H s kd sa sb w' (HI.out.up (by omega))
        rw [hq] at h1
        exact h1
      have HSP : Hid (∀ w' : World, BAt w' g H s → Calls Tryd.prog 8 #[.pointer (some ⟨g, 0, none⟩), .agg #[.int .i64 kd, .int .i64 sa, .int .i64 sb]] w' fun e w'' => e = .returned (.bool d) ∧ BAt w'' g H t ∧ Keep (fun k => k ≠ g) w' w'') :=
        fun w' h => step_v h HI.out.o0 (by have := HI.out.on; omega) kd sa sb t d hq
      clear hq HQ HI hb6 z0 z1 z2 hl6
      go_upto_region 10 with fail
      generalize wr.alloc (.cells #[.int .i64 kd, .int .i64 sa, .int .i64 sb] 30) = w6 at *
      generalize wr.heap.size = q at *
      clear x0 x1 x2
      obtain ⟨⟨c0, c1', c2⟩, c3, c4, c5, c6⟩ := Cells7.cells HPQ.out.ps.rat
      have y0 := HPQ.out.x0
      have y1 := HPQ.out.x1
      have y2 := HPQ.out.x2
      go_wp2_with fail
      refine (HRS.out _).mono ?_
      rintro e w7 ⟨rfl, hb7⟩
      have HPQ7 := Hid.mk' (HPQ.out.below hb7)
      clear hb7 HPQ HRS c0 c1' c2 c3 c4 c5 c6 y0 y1 y2
      go_upto_region 11 with fail
      have hb8 : Below w7.heap.size w7 (w7.alloc (.cells #[.int .i64 t.st, .string H, .int .i64 t.bo, .int .i64 t.dl, .int .i64 t.si, .int .i64 t.cl, .int .i64 t.ow] 27)) := (Below.refl _ w7).alloc (Nat.le_refl _) _
      have HPQ8 := Hid.mk' (HPQ7.out.below hb8)
      have hnx : Cells7 (w7.alloc (.cells #[.int .i64 t.st, .string H, .int .i64 t.bo, .int .i64 t.dl, .int .i64 t.si, .int .i64 t.cl, .int .i64 t.ow] 27)) w7.heap.size 27 (.int .i64 t.st) (.string H) (.int .i64 t.bo) (.int .i64 t.dl) (.int .i64 t.si) (.int .i64 t.cl) (.int .i64 t.ow) := heap_alloc_new _ _
      have hqn : q < w7.heap.size := HPQ7.out.ltq
      generalize w7.alloc (.cells #[.int .i64 t.st, .string H, .int .i64 t.bo, .int .i64 t.dl, .int .i64 t.si, .int .i64 t.cl, .int .i64 t.ow] 27) = w8 at *
      generalize w7.heap.size = p8 at *
      have HZ := Hid.mk' (Cells7.put HPQ8.out.ps.rat (.int .i64 t.st) (.string H) (.int .i64 t.bo) (.int .i64 t.dl) (.int .i64 t.si) (.int .i64 t.cl) (.int .i64 t.ow))
      obtain ⟨⟨c0, c1', c2⟩, c3, c4, c5, c6⟩ := Cells7.cells hnx
      obtain ⟨⟨d0, d1, d2⟩, d3, d4, d5, d6⟩ := Cells7.cells HPQ8.out.ps.rat
      have e0 := Cells7.fz HPQ8.out.ps.rat 0
      have e1 := Cells7.fz HPQ8.out.ps.rat 1
      have e2 := Cells7.fz HPQ8.out.ps.rat 2
      have e3 := Cells7.fz HPQ8.out.ps.rat 3
      have e4 := Cells7.fz HPQ8.out.ps.rat 4
      have e5 := Cells7.fz HPQ8.out.ps.rat 5
      have e6 := Cells7.fz HPQ8.out.ps.rat 6
      clear hb8 HPQ7 hnx hqn
      go_upto_region 12 with fail
      generalize (((((((w8.setCell ⟨r, 0, none⟩ (.int .i64 t.st)).setCell ⟨r, 1, none⟩ (.string H)).setCell ⟨r, 2, none⟩ (.int .i64 t.bo)).setCell ⟨r, 3, none⟩ (.int .i64 t.dl)).setCell ⟨r, 4, none⟩ (.int .i64 t.si)).setCell ⟨r, 5, none⟩ (.int .i64 t.cl)).setCell ⟨r, 6, none⟩ (.int .i64 t.ow)) = w9 at *
      clear c0 c1' c2 c3 c4 c5 c6 d0 d1 d2 d3 d4 d5 d6 e0 e1 e2 e3 e4 e5 e6
      have hlr := HPQ8.out.lt
      have hlg := HPQ8.out.ps.lt
      have HBS : Hid (BAt w9.drew g H s) := BAt.keep HPQ8.out.ps.bat HZ.out.2.drew (by show g ≠ r; omega)
      have HK9 : Hid (Keep (fun k => k < g) w1 w9) := HPQ8.out.ps.keep.trans (HZ.out.2.mono fun k _ hk => by omega)
      have HSX : Hid (SX w9.drew r q H t kd sa sb) := by
        obtain ⟨⟨z0, z1, z2⟩, z3, z4, z5, z6⟩ := Cells7.cells HZ.out.1
        exact ⟨⟨z0, z1, z2, z3, z4, z5, z6⟩, HZ.out.2.drew.cell HPQ8.out.x0 (by show q ≠ r; omega), HZ.out.2.drew.cell HPQ8.out.x1 (by show q ≠ r; omega), HZ.out.2.drew.cell HPQ8.out.x2 (by show q ≠ r; omega)⟩
      have HLT : Hid (g < r ∧ r < q) := ⟨hlg, hlr⟩
      have HGR : Hid (RAt w9.drew r H t) := HZ.out.1
      have HBX : Hid (∀ w' : World, BAt w' g H t → Keep (fun k => k ≠ g) w9.drew w' → BX w1 w' g r H t) := fun w' h hk => ⟨h, Cells7.keep HGR.out hk (by show r ≠ g; have := HLT.out; omega), HK9.out.drew.trans (hk.mono fun k _ hk => by omega), HN.out.keep (HK9.out.drew.trans (hk.mono fun k _ hk => by omega)) HNP.out⟩
      have HOL : Hid (∀ w' : World, BAt w' g H t → Calls Tryd.prog 16 #[.pointer (some ⟨g, 0, none⟩), .int .i64 now] w' fun e w'' => e = .returned (.bool (oldB t now)) ∧ w'' = w') := fun w' h => old_w h now
      have HRO : Hid (∀ w' : World, Calls Tryd.prog 17 #[.agg #[.int .i64 t.st, .string H, .int .i64 t.bo, .int .i64 t.dl, .int .i64 t.si, .int .i64 t.cl, .int .i64 t.ow], .int .i64 now] w' fun e w'' => e = .returned (.bool (oldB t now)) ∧ Below w'.heap.size w' w'') := fun w' => rold_any H t now w' (HI2.out.up (by omega))
      have HST : Hid (∀ w' : World, BAt w' g H t → Calls Tryd.prog 18 #[.pointer (some ⟨g, 0, none⟩), .int .i64 now, .int .i64 sa] w' fun e w'' => e = .returned (.bool (staB t now sa)) ∧ w'' = w') := fun w' h => stale_w h now sa
      have HRST : Hid (∀ w' : World, Calls Tryd.prog 19 #[.agg #[.int .i64 t.st, .string H, .int .i64 t.bo, .int .i64 t.dl, .int .i64 t.si, .int .i64 t.cl, .int .i64 t.ow], .int .i64 now, .int .i64 sa] w' fun e w'' => e = .returned (.bool (staB t now sa)) ∧ Below w'.heap.size w' w'') := fun w' => rstale_any H t now sa w'
      have HNM : Hid (∀ w' : World, Tabs w' → Calls Tryd.prog 20 #[.int .i64 sa] w' fun e w'' => e = .returned (.string (nm sa)) ∧ w'' = w') := fun w' h => name_any sa w' h
      have HRN : Hid (∀ w' : World, Calls Tryd.prog 21 #[.int .i64 sa] w' fun e w'' => e = .returned (.string (nm sa)) ∧ Below w'.heap.size w' w'') := fun w' => rname_any sa w'
      generalize oldB t now = oB at *
      generalize staB t now sa = sB at *
      generalize nm sa = nB at *
      clear HZ HPQ8 HK9 hlr hlg
      go_wp2_with fail
      have hS := HSX.out
      unfold SX at hS
      simp only [List.append_eq, List.cons_append, List.nil_append]
      go_region_held3 (fun w' => (w'.cell? ⟨r, 0, none⟩ = some (.int .i64 t.st) ∧ w'.cell? ⟨r, 1, none⟩ = some (.string H) ∧ w'.cell? ⟨r, 2, none⟩ = some (.int .i64 t.bo) ∧ w'.cell? ⟨r, 3, none⟩ = some (.int .i64 t.dl) ∧ w'.cell? ⟨r, 4, none⟩ = some (.int .i64 t.si) ∧ w'.cell? ⟨r, 5, none⟩ = some (.int .i64 t.cl) ∧ w'.cell? ⟨r, 6, none⟩ = some (.int .i64 t.ow)) ∧ w'.cell? ⟨q, 0, none⟩ = some (.int .i64 kd) ∧ w'.cell? ⟨q, 1, none⟩ = some (.int .i64 sa) ∧ w'.cell? ⟨q, 2, none⟩ = some (.int .i64 sb))
        (first | assumption | exact sx_below (by assumption) hbx | exact sx_keep (by assumption) hkx (by show r ≠ g; have := HLT.out; omega) (by show q ≠ g; have := HLT.out; omega) | go_keep)
        (first
          | (go_at_call 8; refine (HSP.out _ HBS.out).mono ?_; rintro e w' ⟨rfl, hB5, hkx⟩; have hBX := HBX.out w' hB5 hkx)
          | (go_at_call 9; refine (state_w (BX.bat (w1 := w1) (g := g) (r := r) (H := H) (t := t) (by assumption))).mono ?_; rintro e w' ⟨rfl, rfl⟩)
          | (go_at_call 10; refine (host_w (BX.bat (w1 := w1) (g := g) (r := r) (H := H) (t := t) (by assumption))).mono ?_; rintro e w' ⟨rfl, rfl⟩)
          | (go_at_call 11; refine (client_w (BX.bat (w1 := w1) (g := g) (r := r) (H := H) (t := t) (by assumption))).mono ?_; rintro e w' ⟨rfl, rfl⟩)
          | (go_at_call 12; refine (owes_w (BX.bat (w1 := w1) (g := g) (r := r) (H := H) (t := t) (by assumption))).mono ?_; rintro e w' ⟨rfl, rfl⟩)
          | (go_at_call 13; refine (born_w (BX.bat (w1 := w1) (g := g) (r := r) (H := H) (t := t) (by assumption))).mono ?_; rintro e w' ⟨rfl, rfl⟩)
          | (go_at_call 14; refine (deadline_w (BX.bat (w1 := w1) (g := g) (r := r) (H := H) (t := t) (by assumption))).mono ?_; rintro e w' ⟨rfl, rfl⟩)
          | (go_at_call 15; refine (since_w (BX.bat (w1 := w1) (g := g) (r := r) (H := H) (t := t) (by assumption))).mono ?_; rintro e w' ⟨rfl, rfl⟩)
          | (go_at_call 16; refine (HOL.out _ (BX.bat (w1 := w1) (g := g) (r := r) (H := H) (t := t) (by assumption))).mono ?_; rintro e w' ⟨rfl, rfl⟩)
          | (go_at_call 17; refine (HRO.out _).mono ?_; rintro e w' ⟨rfl, hbx⟩; have hBX := BX.below (w1 := w1) (g := g) (r := r) (H := H) (t := t) (by assumption) hbx)
          | (go_at_call 18; refine (HST.out _ (BX.bat (w1 := w1) (g := g) (r := r) (H := H) (t := t) (by assumption))).mono ?_; rintro e w' ⟨rfl, rfl⟩)
          | (go_at_call 19; refine (HRST.out _).mono ?_; rintro e w' ⟨rfl, hbx⟩; have hBX := BX.below (w1 := w1) (g := g) (r := r) (H := H) (t := t) (by assumption) hbx)
          | (go_at_call 20; refine (HNM.out _ (BX.tabs (w1 := w1) (g := g) (r := r) (H := H) (t := t) (by assumption))).mono ?_; rintro e w' ⟨rfl, rfl⟩)
          | (go_at_call 21; refine (HRN.out _).mono ?_; rintro e w' ⟨rfl, hbx⟩; have hBX := BX.below (w1 := w1) (g := g) (r := r) (H := H) (t := t) (by assumption) hbx))
      have HE : Hid (PS w1 w' g r H t) := ⟨hBX.bat, hBX.rat, HLT.out.1, hBX.keep⟩
      clear hBX hbx hkx hB5 hS HSX HBS HBX HOL HRO HST HRST HNM HRN HGR HSP HLT
      go_wp2
      first
        | exact ⟨⟨i + 1, t, by go_num, by omega, HI2, HE⟩, by simp [intOf]; omega⟩
        | (go_roundw
           case rel => exact ⟨i + 1, t, by go_num, by omega, HI2, HE⟩
           case measure => simp [intOf]; omega)
    · obtain rfl : n = i := by omega
      have HEND : Hid (Below w.heap.size w wr) := HB.out.trans (HQ.out.keep.below HB.out.size (fun k hk => by have := HB.out.size; have := HG.out; omega))
      clear hc
      go_wp2
      go_ret
      exact ⟨rfl, HEND.out⟩

end Go.Proofs.YtnbpkjfaopfapaaDoor
