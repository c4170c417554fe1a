/-
  The walk of ReaderFeeds: it returns true and turns nothing that was there. Conditions: the slice reads as texts, each no longer than the greatest length.
-/
import Derived.Test.YtbpflpngaipckaaPiecesW
import Derived.Test.YtbpflpngaipckaaBoundsW
import Derived.Test.YtbpflpngaipckaaRFeed
import Derived.Deep.RegionHeld
import Derived.Deep.DrawnRows
import Derived.Deep.CutRange
namespace Go.Proofs.Ytbpflpngaipckaa
open Go.ChangeShapes Go.WideShapes Go.ChangeAt Go.RowKit
attribute [local go_sem ↓] Go.wp_at_zero Go.wp_at_succ

/-- The document's reader lies in a box at block g. -/
structure BoxAt (w : World) (g : Nat) (c : Int) (r : Rd) : Prop where
  at_ : RAt w g c r
  f0 : w.frozen? ⟨g, 0, none⟩ = false
theorem BoxAt.of_block {w w' : World} {g : Nat} {c : Int} {r : Rd} (h : BoxAt w g c r) (hb : w'.heap[g]? = w.heap[g]?) : BoxAt w' g c r := ⟨h.at_.of_block hb, (World.frozen?_of_block (a := ⟨g, 0, none⟩) hb).trans h.f0⟩
theorem BoxAt.below {w w' : World} {g : Nat} {c : Int} {r : Rd} (h : BoxAt w g c r) (hb : Below w.heap.size w w') : BoxAt w' g c r := h.of_block (hb.block g h.at_.lt)
theorem BoxAt.kept {w w' : World} {g : Nat} {c : Int} {r : Rd} {row : Option Nat} (h : BoxAt w g c r) (hg : w.grownBy w' row) (hne : some g ≠ row) : BoxAt w' g c r := h.of_block (hg.block g h.at_.lt hne)
theorem BoxAt.set {w : World} {g : Nat} {c : Int} {r : Rd} (h : BoxAt w g c r) (r' : Rd) : BoxAt (((w.setCell ⟨g, 0, none⟩ (.int .i64 c)).setCell ⟨g, 1, none⟩ (.string (mkS r'.h))).setCell ⟨g, 2, none⟩ (.int .i64 r'.e)) g c r' := by
  have h0 := h.at_.c0
  have h1 := h.at_.c1
  have h2 := h.at_.c2
  have fz : ∀ i, (((w.setCell ⟨g, 0, none⟩ (.int .i64 c)).setCell ⟨g, 1, none⟩ (.string (mkS r'.h))).setCell ⟨g, 2, none⟩ (.int .i64 r'.e)).frozen? ⟨g, i, none⟩ = w.frozen? ⟨g, i, none⟩ := fun i => ((World.frozen?_setCell _ _ _ _).trans (World.frozen?_setCell _ _ _ _)).trans (World.frozen?_setCell _ _ _ _)
  exact ⟨⟨by simp [go_sem, h0], by simp [go_sem, h1], by simp [go_sem, h2], (fz 1).trans h.at_.f1, (fz 2).trans h.at_.f2⟩, (fz 0).trans h.f0⟩

/-- What lasts through a round's last test. -/
def LF (w : World) (g gw : Nat) (c : Int) (r : Rd) (a5 a6 : Option Addr) (m c5 c6 : Nat) (l5 : List Fr) (a3 : Option Addr) (n c3 : Nat) (ls : List ByteArray) (w' : World) : Prop :=
  BoxAt w' gw c r ∧ RAt w' g c r ∧ FramesAt w' a5 m c5 l5 ∧ FramesAt w' a6 m c6 l5 ∧ StrsAt w' a3 n c3 ls ∧ Below w.heap.size w w' ∧ w.heap.size ≤ w'.heap.size
theorem LF.step {w w1 w2 : World} {g gw : Nat} {c : Int} {r : Rd} {a5 a6 : Option Addr} {m c5 c6 : Nat} {l5 : List Fr} {a3 : Option Addr} {n c3 : Nat} {ls : List ByteArray}
    (h : LF w g gw c r a5 a6 m c5 c6 l5 a3 n c3 ls w1) (hb : Below w1.heap.size w1 w2) : LF w g gw c r a5 a6 m c5 c6 l5 a3 n c3 ls w2 :=
  ⟨h.1.below hb, h.2.1.below hb, h.2.2.1.below hb, h.2.2.2.1.below hb, h.2.2.2.2.1.below hb, h.2.2.2.2.2.1.trans (hb.mono h.2.2.2.2.2.2), Nat.le_trans h.2.2.2.2.2.2 hb.size⟩
theorem LF.held {w w1 : World} {g gw : Nat} {c : Int} {r : Rd} {a5 a6 : Option Addr} {m c5 c6 : Nat} {l5 : List Fr} {a3 : Option Addr} {n c3 : Nat} {ls : List ByteArray}
    (h : LF w g gw c r a5 a6 m c5 c6 l5 a3 n c3 ls w1) : w1.cell? ⟨gw, 0, none⟩ = some (.int .i64 c) ∧ w1.cell? ⟨gw, 1, none⟩ = some (.string (mkS r.h)) ∧ w1.cell? ⟨gw, 2, none⟩ = some (.int .i64 r.e) ∧ LF w g gw c r a5 a6 m c5 c6 l5 a3 n c3 ls w1 :=
  ⟨h.1.at_.c0, h.1.at_.c1, h.1.at_.c2, h⟩

section
variable {w w1 w2 : World} {g gw : Nat} {c : Int} {r : Rd} {a5 a6 : Option Addr} {m c5 c6 : Nat} {l5 : List Fr} {a3 : Option Addr} {n c3 : Nat} {ls : List ByteArray}
theorem lf_of (h : w1.cell? ⟨gw, 0, none⟩ = some (.int .i64 c) ∧ w1.cell? ⟨gw, 1, none⟩ = some (.string (mkS r.h)) ∧ w1.cell? ⟨gw, 2, none⟩ = some (.int .i64 r.e) ∧ LF w g gw c r a5 a6 m c5 c6 l5 a3 n c3 ls w1) : LF w g gw c r a5 a6 m c5 c6 l5 a3 n c3 ls w1 := h.2.2.2
theorem LF.held_step (h : LF w g gw c r a5 a6 m c5 c6 l5 a3 n c3 ls w1) (hb : Below w1.heap.size w1 w2) : w2.cell? ⟨gw, 0, none⟩ = some (.int .i64 c) ∧ w2.cell? ⟨gw, 1, none⟩ = some (.string (mkS r.h)) ∧ w2.cell? ⟨gw, 2, none⟩ = some (.int .i64 r.e) ∧ LF w g gw c r a5 a6 m c5 c6 l5 a3 n c3 ls w2 := (h.step hb).held
theorem lf_f1 (h : w1.cell? ⟨gw, 0, none⟩ = some (.int .i64 c) ∧ w1.cell? ⟨gw, 1, none⟩ = some (.string (mkS r.h)) ∧ w1.cell? ⟨gw, 2, none⟩ = some (.int .i64 r.e) ∧ LF w g gw c r a5 a6 m c5 c6 l5 a3 n c3 ls w1) : FramesAt w1 a5 m c5 l5 := h.2.2.2.2.2.1
theorem lf_f2 (h : w1.cell? ⟨gw, 0, none⟩ = some (.int .i64 c) ∧ w1.cell? ⟨gw, 1, none⟩ = some (.string (mkS r.h)) ∧ w1.cell? ⟨gw, 2, none⟩ = some (.int .i64 r.e) ∧ LF w g gw c r a5 a6 m c5 c6 l5 a3 n c3 ls w1) : FramesAt w1 a6 m c6 l5 := h.2.2.2.2.2.2.1
theorem lf_r (h : w1.cell? ⟨gw, 0, none⟩ = some (.int .i64 c) ∧ w1.cell? ⟨gw, 1, none⟩ = some (.string (mkS r.h)) ∧ w1.cell? ⟨gw, 2, none⟩ = some (.int .i64 r.e) ∧ LF w g gw c r a5 a6 m c5 c6 l5 a3 n c3 ls w1) : RAt w1 g c r := h.2.2.2.2.1
end

theorem left_sz (g : Nat) (c : Int) (r : Rd) (w : World) (h : RAt w g c r) :
    Calls Try.prog 16 #[.pointer (some ⟨g, 0, none⟩)] w fun e w' => e = .returned (.int .i64 (mkS r.h).size) ∧ w' = w := by
  rw [mkS_size]
  exact left_any g c r w h

/-- What a round's loads read while the document's Feed is asked. -/
abbrev SF (w5 : World) (gw : Nat) (c : Int) (r : Rd) (b o : Nat) (f : ByteArray) (w' : World) : Prop :=
  w'.cell? ⟨gw, 0, none⟩ = some (.int .i64 c) ∧ w'.cell? ⟨gw, 1, none⟩ = some (.string (mkS r.h)) ∧ w'.cell? ⟨gw, 2, none⟩ = some (.int .i64 r.e) ∧ w'.cell? ⟨b, o, none⟩ = some (.string f) ∧ Below w5.heap.size w5 w'
theorem SF.mk' {w5 w' : World} {gw : Nat} {c : Int} {r : Rd} {b o : Nat} {f : ByteArray} (h : BoxAt w5 gw c r) (hc : w5.cell? ⟨b, o, none⟩ = some (.string f)) (hb : Below w5.heap.size w5 w') : SF w5 gw c r b o f w' := by
  have h1 := h.below hb
  exact ⟨h1.at_.c0, h1.at_.c1, h1.at_.c2, (hb.cell (p := ⟨b, o, none⟩) (World.block_lt_of_cell? w5 _ hc)).trans hc, hb⟩

/-- A new box, as long as nothing below is written. -/
theorem new_box {w w' : World} (hb : Below (w.alloc (.cells #[.int .i64 0, .string ⟨#[]⟩, .int .i64 0] 28)).drew.heap.size (w.alloc (.cells #[.int .i64 0, .string ⟨#[]⟩, .int .i64 0] 28)).drew w') :
    w'.cell? ⟨w.heap.size, 0, none⟩ = some (.int .i64 0) ∧ w'.cell? ⟨w.heap.size, 1, none⟩ = some (.string ⟨#[]⟩) ∧ w'.cell? ⟨w.heap.size, 2, none⟩ = some (.int .i64 0) ∧ w'.frozen? ⟨w.heap.size, 0, none⟩ = false ∧ w'.frozen? ⟨w.heap.size, 1, none⟩ = false ∧ w'.frozen? ⟨w.heap.size, 2, none⟩ = false := by
  have hlt : w.heap.size < (w.alloc (.cells #[.int .i64 0, .string ⟨#[]⟩, .int .i64 0] 28)).drew.heap.size := by show w.heap.size < (w.alloc (.cells #[.int .i64 0, .string ⟨#[]⟩, .int .i64 0] 28)).heap.size; simp
  refine ⟨(hb.cell (p := ⟨w.heap.size, 0, none⟩) hlt).trans ?_, (hb.cell (p := ⟨w.heap.size, 1, none⟩) hlt).trans ?_, (hb.cell (p := ⟨w.heap.size, 2, none⟩) hlt).trans ?_, (hb.frozen (p := ⟨w.heap.size, 0, none⟩) hlt).trans ?_, (hb.frozen (p := ⟨w.heap.size, 1, none⟩) hlt).trans ?_, (hb.frozen (p := ⟨w.heap.size, 2, none⟩) hlt).trans ?_⟩
  all_goals simp [go_sem]

section
variable {w5 wA wB : World} {gw : Nat} {c : Int} {r : Rd} {b o : Nat} {f : ByteArray}
theorem sf_call (h : BoxAt w5 gw c r) (hc : w5.cell? ⟨b, o, none⟩ = some (.string f)) (hA : SF w5 gw c r b o f wA) (hb : Below wA.heap.size wA wB) : SF w5 gw c r b o f wB := SF.mk' h hc (hA.2.2.2.2.trans (hb.mono hA.2.2.2.2.size))
theorem sf_alloc (h : BoxAt w5 gw c r) (hc : w5.cell? ⟨b, o, none⟩ = some (.string f)) (hA : SF w5 gw c r b o f wA) (ob : Obj) : SF w5 gw c r b o f (wA.alloc ob) := SF.mk' h hc (hA.2.2.2.2.alloc hA.2.2.2.2.size ob)
theorem sf_set (h : BoxAt w5 gw c r) (hc : w5.cell? ⟨b, o, none⟩ = some (.string f)) (hA : SF w5 gw c r b o f wA) {gn : Nat} (hg : w5.heap.size ≤ gn) (i : Nat) (v : Value) : SF w5 gw c r b o f (wA.setCell ⟨gn, i, none⟩ v) := SF.mk' h hc (hA.2.2.2.2.setCell hg v)
end

set_option maxHeartbeats 4000000 in
set_option maxRecDepth 100000 in
theorem feeds_any (c : Int) (a : Option Addr) (len cap : Nat) (ss : List ByteArray) (w : World) (h : StrsAt w a len cap ss) (hsz : ∀ s ∈ ss, s.size ≤ maxLen) :
    Calls Try.prog 3 #[.int .i64 c, .slice a len cap] w fun e w' => e = .returned (.bool true) ∧ Below w.heap.size w w' := by
  have HS : Hid (∀ s ∈ ss, s.size ≤ maxLen) := hsz
  clear hsz
  go_enter Try.func3, Try.ntmps3
  go_wp2_with fail
  refine (lives_any w).mono ?_
  rintro e w1 ⟨rfl, hb1⟩
  go_wp2_with fail
  refine (new_any c w1).mono ?_
  rintro e w2 ⟨rfl, hr2, hb2, hz2⟩
  have B2 : Below w.heap.size w w2 := hb1.trans (hb2.mono hb1.size)
  go_wp2_with fail
  generalize hWb : w2.alloc _ = Wb
  have box : BoxAt Wb (w1.heap.size + 1) c ⟨[], 0⟩ := by
    rw [← hWb, ← hz2]
    refine ⟨⟨?_, ?_, ?_, ?_, ?_⟩, ?_⟩
    · simp [go_sem]
    · simp [go_sem]; rfl
    · simp [go_sem]
    · simp [go_sem]
    · simp [go_sem]
    · simp [go_sem]
  have hbb : Below w2.heap.size w2 Wb := by rw [← hWb]; exact (Below.refl _ _).alloc (Nat.le_refl _) _
  have hzb : Wb.heap.size = w1.heap.size + 2 := by rw [← hWb]; simp; omega
  have hrb := hr2.below hbb
  have Bb : Below w.heap.size w Wb := B2.trans (hbb.mono B2.size)
  refine (few_named a len cap ss Wb (h.below Bb) HS.out).mono ?_
  rintro e w3 ⟨a3, n, c3, l, rfl, hn, h60, hS3, hx3, hb3⟩
  have hr3 := hrb.below hb3
  have box3 := box.below hb3
  have B3 : Below w.heap.size w w3 := Bb.trans (hb3.mono Bb.size)
  have hg : w.heap.size ≤ w1.heap.size := hb1.size
  have hxg : ∀ x, a3 = some x → w1.heap.size + 1 < x.block := fun x e => by have := hx3 x e; omega
  have hg3 : w1.heap.size + 1 < w3.heap.size := by have := hb3.size; omega
  clear hWb hbb hzb hrb Bb box B2 hb3 hb1 hb2 hz2 hr2 hx3 h HS
  generalize w1.heap.size = g at hr3 box3 hg hxg hg3
  clear Wb w1 w2
  have HX : Hid (∀ x, a3 = some x → g + 1 < x.block) := hxg
  have H60 : Hid (∀ j, (l.getD j ⟨#[]⟩).size ≤ 60) := h60
  have hc3 := hS3.hcap
  have hl3 := hS3.hle
  unfold maxLen at hc3
  clear hxg h60
  go_wp2
  go_loopw [7] (fun i wr => ∃ (k : Nat) (r : Rd), k ≤ n ∧ i = .int .i64 k ∧ RAt wr g c r ∧ BoxAt wr (g + 1) c r ∧ Hid (r.h.length ≤ 60 * k) ∧ StrsAt wr a3 n c3 l ∧ Below w.heap.size w wr)
    (fun i _ => n - (intOf i).toNat)
  case atStart => exact ⟨0, ⟨[], 0⟩, Nat.zero_le _, rfl, hr3, box3, Nat.zero_le _, hS3, B3⟩
  case round =>
    obtain ⟨k, r, hk, rfl, hr, hbox, hrl, hS, hbel⟩ := hrel
    clear hr3 hS3 B3 box3
    by_cases hlt : k < n
    · obtain ⟨b, off, rfl, hb, hc⟩ := hS.at_ k hlt
      have hgb : g + 1 < b := HX.out _ rfl
      have h60 := H60.out k
      have hkn : (k : Int) < (n : Int) := by omega
      have hk0 : (0 : Int) ≤ (k : Int) := Int.natCast_nonneg _
      generalize l.getD k ⟨#[]⟩ = f at hc h60
      have hl2k : r.h.length + f.size ≤ 2000 := by have := hrl.out; omega
      go_wp2_with fail
      refine (feed_named g c r f wr hr hl2k).mono ?_
      rintro e w5 ⟨v5, r5, l5, rfl, hf5, ho5, hr5, hg5⟩
      obtain ⟨a5, c5, rfl, hF5, hx5⟩ := owns_frames' ho5
      have HX5 : Hid (∀ x, a5 = some x → g + 1 < x.block) := fun x e => by have h1 := (hx5 x e).1; have h2 := hbox.at_.lt; omega
      have hS5 := hS.kept hg5 (fun x e => by cases e; show some b ≠ some g; intro e; cases e; omega)
      have hc5 : w5.cell? ⟨b, off + k, none⟩ = some (.string f) := hg5.cell hc (by show some b ≠ some g; intro e; cases e; omega)
      have box5 := hbox.kept hg5 (by intro e; have := Option.some.inj e; omega)
      have B5 : Below w.heap.size w w5 := hbel.grown hg5 hbel.size (fun j hj => by cases hj; exact hg)
      have hrl5 : Hid (r5.h.length ≤ 60 * (k + 1)) := by
        have h1 := feedB_len c r f.data.toList
        rw [hf5, data_len] at h1
        have h2 := hrl.out
        show r5.h.length ≤ 60 * (k + 1)
        have h3 : r5.h.length ≤ r.h.length + f.size := h1
        omega
      have hl5 : r5.h.length ≤ 2000 := by have := hrl5.out; omega
      have HF : Hid (feedB c r f.data.toList = (r5, l5)) := hf5
      have hs5 : g + 1 < w5.heap.size := box5.at_.lt
      clear hr hbox hrl hS hbel hf5 ho5 hc hb hg5 hx5
      go_wp2_with fail
      have S0 : SF w5 (g + 1) c r b (off + k) f w5.drew := SF.mk' box5 hc5 (Below.refl _ _).drew
      unfold SF at S0
      go_cut [10, 11, 12] from 21 to 77 (fun s10 s11 s12 wc => ∃ (gn : Nat) (a6 : Option Addr) (c6 : Nat), s10 = .pointer (some ⟨gn, 0, none⟩) ∧ s11 = .slice a6 l5.length c6 ∧ s12 = .int .i64 r5.e ∧ wc.cell? ⟨gn, 0, none⟩ = some (.int .i64 c) ∧ wc.cell? ⟨gn, 1, none⟩ = some (.string (mkS r5.h)) ∧ wc.cell? ⟨gn, 2, none⟩ = some (.int .i64 r5.e) ∧ FramesAt wc a6 l5.length c6 l5 ∧ (∀ x, a6 = some x → g + 1 < x.block) ∧ g + 1 < gn ∧ Below w5.heap.size w5 wc)
      case first =>
        go_region_held (fun w' => w'.cell? ⟨g + 1, 0, none⟩ = some (.int .i64 c) ∧ w'.cell? ⟨g + 1, 1, none⟩ = some (.string (mkS r.h)) ∧ w'.cell? ⟨g + 1, 2, none⟩ = some (.int .i64 r.e) ∧ w'.cell? ⟨b, off + k, none⟩ = some (.string f) ∧ Below w5.heap.size w5 w')
          (first | assumption | exact sf_call box5 hc5 (by assumption) hb6 | exact sf_alloc box5 hc5 (by assumption) _ | exact sf_alloc box5 hc5 (sf_call box5 hc5 S0 hb6) _ | exact sf_set box5 hc5 (sf_set box5 hc5 (sf_set box5 hc5 (by assumption) (Nat.le_refl _) _ _) (Nat.le_refl _) _ _) (Nat.le_refl _) _ _ | go_keep)
          (first
            | (go_at_call 14; refine (rfeed_named c r f w5.drew hl2k).mono ?_; rintro e w6 ⟨v6, r6, l6, rfl, hf6, ho6, hb6⟩)
            | (go_at_call 14; refine (rfeed_named c r f (w5.alloc (.cells #[.int .i64 0, .string ⟨#[]⟩, .int .i64 0] 28)).drew hl2k).mono ?_; rintro e w6 ⟨v6, r6, l6, rfl, hf6, ho6, hb6⟩; obtain ⟨n0, n1, n2, m0, m1, m2⟩ := new_box (w := w5) hb6))
        · obtain ⟨rfl, rfl⟩ := Prod.mk.inj (hf6.symm.trans HF.out)
          obtain ⟨a6, c6, rfl, hF6, hx6⟩ := owns_frames' ho6
          have S6 := (sf_call box5 hc5 S0 hb6).2.2.2.2
          have hz6 := S6.size
          have hx6' : ∀ x, a6 = some x → g + 1 < x.block := fun x e => by have h1 : w5.heap.size ≤ x.block := (hx6 x e).1; omega
          go_wp2_with fail
          go_meet
          refine ⟨w6.heap.size, a6, c6, rfl, rfl, rfl, ?_, ?_, ?_, hF6.below ((Below.refl _ _).alloc (Nat.le_refl _) _), hx6', by omega, S6.alloc hz6 _⟩
          all_goals simp [go_sem]
        · obtain ⟨rfl, rfl⟩ := Prod.mk.inj (hf6.symm.trans HF.out)
          obtain ⟨a6, c6, rfl, hF6, hx6⟩ := owns_frames' ho6
          have S6 : Below w5.heap.size w5 w6 := ((Below.refl w5.heap.size w5).alloc (Nat.le_refl _) _).drew.trans (hb6.mono (by show w5.heap.size ≤ (w5.alloc _).heap.size; simp))
          have hx6' : ∀ x, a6 = some x → w5.heap.size < x.block := fun x e => by have h1 : (w5.alloc (.cells #[.int .i64 0, .string ⟨#[]⟩, .int .i64 0] 28)).heap.size ≤ x.block := (hx6 x e).1; simp at h1; omega
          have hgs : ∀ (c' : Int) (S : ByteArray) (E : Int), w6.grownBy (((w6.setCell ⟨w5.heap.size, 0, none⟩ (.int .i64 c')).setCell ⟨w5.heap.size, 1, none⟩ (.string S)).setCell ⟨w5.heap.size, 2, none⟩ (.int .i64 E)) (some w5.heap.size) := fun c' S E => grown_set (grown_set (grown_set (World.grownBy.refl _ _) _ _) _ _) _ _
          go_wp2_with fail
          go_meet
          refine ⟨w5.heap.size, a6, c6, rfl, rfl, rfl, ?_, ?_, ?_, hF6.kept (hgs _ _ _) (fun x e h => by have h1 := hx6' x e; have h2 := Option.some.inj h; omega), fun x e => by have h1 := hx6' x e; omega, hs5, ((S6.setCell (Nat.le_refl _) _).setCell (Nat.le_refl _) _).setCell (Nat.le_refl _) _⟩
          all_goals simp [go_sem, n0, n1, n2]
      case rest =>
        obtain ⟨gn, a6, c6, rfl, rfl, rfl, k0, k1, k2, hF6, hx6, hgn, hwc⟩ := hcut
        have boxc := box5.below hwc
        have hrc := hr5.below hwc
        have hFc := hF5.below hwc
        have hSc := hS5.below hwc
        have Bc : Below w.heap.size w wc := B5.trans (hwc.mono B5.size)
        have x0 := boxc.at_.c0
        have x1 := boxc.at_.c1
        have x2 := boxc.at_.c2
        have y0 := boxc.f0
        have y1 := boxc.at_.f1
        have y2 := boxc.at_.f2
        go_wp2
        generalize hwd : (World.setCell (World.setCell (World.setCell wc _ _) _ _) _ _) = wd
        have boxd : BoxAt wd (g + 1) c r5 := by rw [← hwd]; exact boxc.set r5
        have hgd : wc.grownBy wd (some (g + 1)) := by rw [← hwd]; exact grown_set (grown_set (grown_set (World.grownBy.refl _ _) _ _) _ _) _ _
        have hrd := hrc.kept hgd (by intro e; have := Option.some.inj e; omega)
        have hFd := hFc.kept hgd (fun x e h => by have h1 := HX5.out x e; have h2 := Option.some.inj h; omega)
        have hGd := hF6.kept hgd (fun x e h => by have h1 := hx6 x e; have h2 := Option.some.inj h; omega)
        have hSd := hSc.kept hgd (fun x e h => by have h1 := HX.out x e; have h2 := Option.some.inj h; omega)
        have Bd : Below w.heap.size w wd := Bc.grown hgd Bc.size (fun j hj => by cases hj; omega)
        have L0 : LF w g (g + 1) c r5 a5 a6 l5.length c5 c6 l5 (some ⟨b, off, none⟩) n c3 l wd.drew := (show LF w g (g + 1) c r5 a5 a6 l5.length c5 c6 l5 (some ⟨b, off, none⟩) n c3 l wd from ⟨boxd, hrd, hFd, hGd, hSd, Bd, Bd.size⟩).step (Below.refl _ _).drew
        have S1 := L0.held
        clear hwd boxc hrc hFc hSc Bc x0 x1 x2 y0 y1 y2 k0 k1 k2 hF6 hwc hgd hrd hFd hGd hSd Bd boxd S0 hc5 box5 B5 HF hF5 hS5 hr5 L0
        go_region_held (fun w' => w'.cell? ⟨g + 1, 0, none⟩ = some (.int .i64 c) ∧ w'.cell? ⟨g + 1, 1, none⟩ = some (.string (mkS r5.h)) ∧ w'.cell? ⟨g + 1, 2, none⟩ = some (.int .i64 r5.e) ∧ LF w g (g + 1) c r5 a5 a6 l5.length c5 c6 l5 (some ⟨b, off, none⟩) n c3 l w')
          (first | assumption | exact (lf_of (by assumption)).held_step hbx | go_keep)
          (first
            | (go_at_call 15; refine (same_any a5 a6 l5.length c5 c6 l5 _ ?_ ?_).mono ?_; (refine lf_f1 (w := w) (g := g) (gw := g + 1) (c := c) (r := r5) (a6 := a6) (c6 := c6) (a3 := some ⟨b, off, none⟩) (n := n) (c3 := c3) (ls := l) ?_; assumption); (refine lf_f2 (w := w) (g := g) (gw := g + 1) (c := c) (r := r5) (a5 := a5) (c5 := c5) (a3 := some ⟨b, off, none⟩) (n := n) (c3 := c3) (ls := l) ?_; assumption); rintro e w' ⟨rfl, hbx⟩)
            | (go_at_call 16; refine (left_sz g c r5 _ ?_).mono ?_; (refine lf_r (w := w) (gw := g + 1) (a5 := a5) (a6 := a6) (m := l5.length) (c5 := c5) (c6 := c6) (l5 := l5) (a3 := some ⟨b, off, none⟩) (n := n) (c3 := c3) (ls := l) ?_; assumption); rintro e w' ⟨rfl, rfl⟩)
            | (go_at_call 17; refine (err_any g c r5 _ ?_).mono ?_; (refine lf_r (w := w) (gw := g + 1) (a5 := a5) (a6 := a6) (m := l5.length) (c5 := c5) (c6 := c6) (l5 := l5) (a3 := some ⟨b, off, none⟩) (n := n) (c3 := c3) (ls := l) ?_; assumption); rintro e w' ⟨rfl, rfl⟩)
            | (go_at_call 18; refine (want_any g c r5 _ ?_ hl5).mono ?_; (refine lf_r (w := w) (gw := g + 1) (a5 := a5) (a6 := a6) (m := l5.length) (c5 := c5) (c6 := c6) (l5 := l5) (a3 := some ⟨b, off, none⟩) (n := n) (c3 := c3) (ls := l) ?_; assumption); rintro e w' ⟨rfl, hbx⟩)
            | (go_at_call 19; refine (rwant_any c r5 _ hl5).mono ?_; rintro e w' ⟨rfl, hbx⟩))
        have LE : LF w g (g + 1) c r5 a5 a6 l5.length c5 c6 l5 (some ⟨b, off, none⟩) n c3 l w' := lf_of (by assumption)
        go_wp2
        go_roundw
        case rel => first | exact ⟨k + 1, r5, by omega, by go_num, LE.2.1, LE.1, hrl5, LE.2.2.2.2.1, LE.2.2.2.2.2.1⟩ | ((repeat apply Exists.intro); exact ⟨⟨k + 1, r5, by omega, by go_num, LE.2.1, LE.1, hrl5, LE.2.2.2.2.1, LE.2.2.2.2.2.1⟩, rfl⟩)
        case measure => simp [intOf]; omega
    · go_wp2
      go_ret
      exact ⟨rfl, hbel⟩

end Go.Proofs.Ytbpflpngaipckaa
