/-
  WheelPlays's walk: what a wheel answers, and has, in whatever row, is what the document's wheel says. Conditions: the steps lie where they are said to lie; their keys are ints.
-/
import Derived.Test.YtahdeliopmkpmaaRSort
import Derived.Test.YtahdeliopmkpmaaRDue
import Derived.Test.YtahdeliopmkpmaaOnceW
import Derived.Deep.CutBlock
namespace Go.Proofs.Ytahdeliopmkpmaa
open Go.ChangeShapes Go.WideShapes Go.ChangeAt Go.RowKit Go.Maps

/-- A step's kind. -/
def kindI (z : Int) : Int := wrap64 ((IntKind.u64.wrap z).tmod 5)
theorem kindI_of (z : Int) : (kindI z = 0 ∨ kindI z = 1) ∨ kindI z = 2 ∨ kindI z = 3 ∨ kindI z = 4 := by
  have := um_bd 5 z (by decide) (by decide)
  unfold kindI
  omega

set_option maxRecDepth 100000 in
theorem kind_step (kd key at_ : Int) (w : World) :
    Calls Try.prog 12 #[.agg #[.int .i64 kd, .int .i64 key, .int .i64 at_]] w fun e w' => e = .returned (.int .i64 (kindI kd)) ∧ Below w.heap.size w w' := by
  have hb : Below w.heap.size w (w.alloc (.cells #[.int .i64 kd, .int .i64 key, .int .i64 at_] 31)) := (Below.refl _ w).alloc (Nat.le_refl _) _
  have HX : Hid (wrap64 ((IntKind.u64.wrap kd).tmod 5) = kindI kd) := rfl
  go_enter Try.func12, Try.ntmps12
  go_wp2
  go_ret
  exact ⟨by first | rfl | (rw [← HX.out]), hb⟩

set_option maxRecDepth 100000 in
theorem early_any (a : Option Addr) (len cap n : Nat) (hl : len ≤ cap) (hc : cap ≤ maxLen) (hn : min len 100 = n) (w : World) :
    Calls Try.prog 11 #[.slice a len cap] w fun e w' => e = .returned (.slice a n cap) ∧ w' = w := by
  unfold maxLen at hc
  have hn2 : min (len : Int) 100 = (n : Int) := by omega
  have hn3 : n ≤ 100 := by omega
  have hn4 : n ≤ len := by omega
  clear hn
  go_enter Try.func11, Try.ntmps11
  go_wp2
  go_ret
  exact ⟨rfl, rfl⟩

/-- The wheel at g has R, the document's at b reads as R'; the wheel's blocks are none of A. -/
structure PS (w1 wr : World) (A : Nat → Prop) (g b : Nat) (R R' : List (Int × Int)) (kv av : Value) : Prop where
  wat : WAt wr A g R
  low : ∀ k, k < w1.heap.size → A k
  ab : A b
  hb : w1.heap.size ≤ b
  blk : wr.heap[b]? = some (.cells #[kv, av] 28 (0, 0))
  rd : WvAt wr kv av R'
  inA : ∀ k, kv.ownBlock = some k ∨ av.ownBlock = some k → A k
  keep : Keep (fun k => k < w1.heap.size) w1 wr

section
variable {w1 wr w' : World} {A : Nat → Prop} {g b : Nat} {R R' : List (Int × Int)} {kv av : Value}
theorem PS.lt (h : PS w1 wr A g b R R' kv av) : b < wr.heap.size := (Array.getElem?_eq_some_iff.1 h.blk).1
theorem PS.below (h : PS w1 wr A g b R R' kv av) (hb : Below wr.heap.size wr w') : PS w1 w' (fun k => A k ∨ (wr.heap.size ≤ k ∧ k < w'.heap.size)) g b R R' kv av :=
  ⟨h.wat.below hb, fun k hk => .inl (h.low k hk), .inl h.ab, h.hb, (hb.block b h.lt).trans h.blk, h.rd.below hb, fun k e => .inl (h.inA k e), h.keep.trans (keep_below hb)⟩
theorem PS.fewer {B : Nat → Prop} (h : PS w1 wr A g b R R' kv av) (hB : ∀ k, B k → A k) (hl : ∀ k, k < w1.heap.size → B k) (hb : B b) (hi : ∀ k, kv.ownBlock = some k ∨ av.ownBlock = some k → B k) : PS w1 wr B g b R R' kv av :=
  ⟨h.wat.fewer hB, hl, hb, h.hb, h.blk, h.rd, hi, h.keep⟩
theorem PS.same (h : PS w1 wr A g b R R' kv av) (hb : Below wr.heap.size wr w') : PS w1 w' A g b R R' kv av :=
  (h.below hb).fewer (fun _ h => .inl h) h.low h.ab h.inA
theorem PS.wheel {R2 : List (Int × Int)} (h : PS w1 wr A g b R R' kv av) (hW : WAt w' A g R2) (hk : Keep A wr w') : PS w1 w' A g b R2 R' kv av :=
  ⟨hW, h.low, h.ab, h.hb, (hk.block b h.lt h.ab).trans h.blk, h.rd.keep hk h.inA, h.inA, h.keep.trans (hk.mono fun k _ hk => h.low k hk)⟩
theorem PS.put {kv' av' : Value} {R2 : List (Int × Int)} (h : PS w1 wr A g b R R' kv av) (hv : WvAt wr kv' av' R2) (hin : ∀ k, kv'.ownBlock = some k ∨ av'.ownBlock = some k → A k) :
    PS w1 ((wr.setCell ⟨b, 0, none⟩ kv').setCell ⟨b, 1, none⟩ av') A g b R R2 kv' av' := by
  have k9 : Keep (fun k => k ≠ b) wr ((wr.setCell ⟨b, 0, none⟩ kv').setCell ⟨b, 1, none⟩ av') := ((Keep.refl _ _).setCell (fun hn => hn rfl) _).setCell (fun hn => hn rfl) _
  have hb := h.hb
  exact ⟨(h.wat.others (k9.mono fun k _ hn e => hn (e ▸ h.ab))).fewer (fun _ h => .inl h), h.low, h.ab, h.hb, heap_set1 (heap_set0 h.blk), hv.far h.rd h.blk k9, hin, h.keep.trans (k9.mono fun k _ hk => by omega)⟩
theorem PS.c0 (h : PS w1 wr A g b R R' kv av) : wr.cell? ⟨b, 0, none⟩ = some kv := blk_c0 h.blk
theorem PS.c1 (h : PS w1 wr A g b R R' kv av) : wr.cell? ⟨b, 1, none⟩ = some av := blk_c1 h.blk
theorem PS.fz (h : PS w1 wr A g b R R' kv av) (o : Nat) : wr.frozen? ⟨b, o, none⟩ = false := by simp [World.frozen?, h.blk]
theorem PS.ris (h : PS w1 wr A g b R R kv av) : Ris R := h.wat.ris

/-- The same, and the step lies at b6. -/
structure PQ (w1 wr : World) (A : Nat → Prop) (g b b6 : Nat) (R R' : List (Int × Int)) (kv av : Value) (kd key at_ : Int) : Prop where
  ps : PS w1 wr A g b R R' kv av
  a6 : A b6
  blk6 : wr.heap[b6]? = some (.cells #[.int .i64 kd, .int .i64 key, .int .i64 at_] 31 (0, 0))

variable {b6 : Nat} {kd key at_ : Int}
theorem PQ.lt6 (h : PQ w1 wr A g b b6 R R' kv av kd key at_) : b6 < wr.heap.size := (Array.getElem?_eq_some_iff.1 h.blk6).1
theorem PQ.below (h : PQ w1 wr A g b b6 R R' kv av kd key at_) (hb : Below wr.heap.size wr w') : PQ w1 w' (fun k => A k ∨ (wr.heap.size ≤ k ∧ k < w'.heap.size)) g b b6 R R' kv av kd key at_ :=
  ⟨h.ps.below hb, .inl h.a6, (hb.block b6 h.lt6).trans h.blk6⟩
theorem PQ.same (h : PQ w1 wr A g b b6 R R' kv av kd key at_) (hb : Below wr.heap.size wr w') : PQ w1 w' A g b b6 R R' kv av kd key at_ :=
  ⟨h.ps.same hb, h.a6, (hb.block b6 h.lt6).trans h.blk6⟩
theorem PQ.wheel {R2 : List (Int × Int)} (h : PQ w1 wr A g b b6 R R' kv av kd key at_) (hW : WAt w' A g R2) (hk : Keep A wr w') : PQ w1 w' A g b b6 R2 R' kv av kd key at_ :=
  ⟨h.ps.wheel hW hk, h.a6, (hk.block b6 h.lt6 h.a6).trans h.blk6⟩
theorem PQ.ne (h : PQ w1 wr A g b b6 R R' kv av kd key at_) : b6 ≠ b := by
  rintro rfl
  have := h.blk6
  rw [h.ps.blk] at this
  simp at this
theorem PQ.put {kv' av' : Value} {R2 : List (Int × Int)} (h : PQ w1 wr A g b b6 R R' kv av kd key at_) (hv : WvAt wr kv' av' R2) (hin : ∀ k, kv'.ownBlock = some k ∨ av'.ownBlock = some k → A k) :
    PQ w1 ((wr.setCell ⟨b, 0, none⟩ kv').setCell ⟨b, 1, none⟩ av') A g b b6 R R2 kv' av' kd key at_ := by
  have k9 : Keep (fun k => k ≠ b) wr ((wr.setCell ⟨b, 0, none⟩ kv').setCell ⟨b, 1, none⟩ av') := ((Keep.refl _ _).setCell (fun hn => hn rfl) _).setCell (fun hn => hn rfl) _
  exact ⟨h.ps.put hv hin, h.a6, (k9.block b6 h.lt6 h.ne).trans h.blk6⟩
theorem PQ.x0 (h : PQ w1 wr A g b b6 R R' kv av kd key at_) : wr.cell? ⟨b6, 0, none⟩ = some (.int .i64 kd) := by simp [World.cell?, h.blk6]
theorem PQ.x1 (h : PQ w1 wr A g b b6 R R' kv av kd key at_) : wr.cell? ⟨b6, 1, none⟩ = some (.int .i64 key) := by simp [World.cell?, h.blk6]
theorem PQ.x2 (h : PQ w1 wr A g b b6 R R' kv av kd key at_) : wr.cell? ⟨b6, 2, none⟩ = some (.int .i64 at_) := by simp [World.cell?, h.blk6]
end

/-- Next's answer, whether the wheel has a key or not. -/
theorem next_u (w : World) (A : Nat → Prop) (g : Nat) (R : List (Int × Int)) (h : WAt w A g R) :
    ∃ m, (R.length = 0 → m = 0) ∧ (0 < R.length → getR R ((keysR R).getD 0 0) = m) ∧ Calls Try.prog 23 #[.pointer (some ⟨g, 0, none⟩)] w fun e w' => e = .returned (.tuple #[.int .i64 m, .bool (decide (0 < R.length))]) ∧ w' = w := by
  by_cases h0 : 0 < R.length
  · obtain ⟨m, hm, hmin, hc⟩ := next_w w A g R h h0
    rw [decide_eq_true h0]
    exact ⟨m, fun e => by omega, fun _ => (first_least h.ris hm hmin).2, hc⟩
  · obtain rfl : R = [] := List.length_eq_zero_iff.1 (by omega)
    exact ⟨0, fun _ => rfl, fun e => absurd e h0, next_w0 w A g h⟩

/-- What holds all through the look at both. -/
structure LP (w1 w5 : World) (A : Nat → Prop) (g b b6 : Nat) (R : List (Int × Int)) (kv av : Value) (kd key at_ : Int) (a5 : Option Addr) (n s5 : Nat) (w' : World) : Prop where
  q : PQ w1 w' A g b b6 R R kv av kd key at_
  ks : IntsAt w' a5 n s5 (keysR R)
  bel : Below w5.heap.size w5 w'

section
variable {w1 w5 w' w'' : World} {A : Nat → Prop} {g b b6 n s5 : Nat} {R : List (Int × Int)} {kv av : Value} {kd key at_ : Int} {a5 : Option Addr}
theorem LP.step (h : LP w1 w5 A g b b6 R kv av kd key at_ a5 n s5 w') (hb : Below w'.heap.size w' w'') : LP w1 w5 A g b b6 R kv av kd key at_ a5 n s5 w'' :=
  ⟨h.q.same hb, h.ks.below hb, h.bel.trans (hb.mono h.bel.size)⟩
theorem LP.wat (h : LP w1 w5 A g b b6 R kv av kd key at_ a5 n s5 w') : WAt w' A g R := h.q.ps.wat
theorem LP.held (h : LP w1 w5 A g b b6 R kv av kd key at_ a5 n s5 w') (hb : Below w'.heap.size w' w'') : w''.cell? ⟨b, 0, none⟩ = some kv ∧ LP w1 w5 A g b b6 R kv av kd key at_ a5 n s5 w'' :=
  ⟨(h.step hb).q.ps.c0, h.step hb⟩
theorem lp_of (h : w'.cell? ⟨b, 0, none⟩ = some kv ∧ LP w1 w5 A g b b6 R kv av kd key at_ a5 n s5 w') : LP w1 w5 A g b b6 R kv av kd key at_ a5 n s5 w' := h.2
theorem lp3_of {b5 o5 : Nat} {z : Int} (h : w'.cell? ⟨b, 0, none⟩ = some kv ∧ w'.cell? ⟨b, 1, none⟩ = some av ∧ w'.cell? ⟨b5, o5, none⟩ = some (.int .i64 z) ∧ LP w1 w5 A g b b6 R kv av kd key at_ a5 n s5 w') : LP w1 w5 A g b b6 R kv av kd key at_ a5 n s5 w' := h.2.2.2
theorem lp3_c {b5 o5 : Nat} {z : Int} (h : w'.cell? ⟨b, 0, none⟩ = some kv ∧ w'.cell? ⟨b, 1, none⟩ = some av ∧ w'.cell? ⟨b5, o5, none⟩ = some (.int .i64 z) ∧ LP w1 w5 A g b b6 R kv av kd key at_ a5 n s5 w') : w'.cell? ⟨b5, o5, none⟩ = some (.int .i64 z) := h.2.2.1
theorem LP.held3 {b5 o5 : Nat} {z : Int} (h : LP w1 w5 A g b b6 R kv av kd key at_ a5 n s5 w') (hc : w'.cell? ⟨b5, o5, none⟩ = some (.int .i64 z)) (hb : Below w'.heap.size w' w'') :
    w''.cell? ⟨b, 0, none⟩ = some kv ∧ w''.cell? ⟨b, 1, none⟩ = some av ∧ w''.cell? ⟨b5, o5, none⟩ = some (.int .i64 z) ∧ LP w1 w5 A g b b6 R kv av kd key at_ a5 n s5 w'' :=
  ⟨(h.step hb).q.ps.c0, (h.step hb).q.ps.c1, (hb.cell (World.block_lt_of_cell? _ _ hc)).trans hc, h.step hb⟩
end

set_option maxHeartbeats 8000000 in
set_option maxRecDepth 100000 in
theorem plays_walk (a : Option Addr) (len cap : Nat) (ss : List Stp) (w : World) (hs : StepsAt w a len cap ss) :
    Calls Try.prog 3 #[.slice a len cap] w fun e w' => e = .returned (.bool true) ∧ Below w.heap.size w w' := by
  have l1 := hs.hle
  have c1 := hs.hcap
  obtain ⟨n, hn⟩ : ∃ n, min len 100 = n := ⟨_, rfl⟩
  have hea := early_any a len cap n l1 c1 hn
  have hn3 : n ≤ 100 := by omega
  have hn4 : n ≤ len := by omega
  have hnc : n ≤ cap := by omega
  unfold maxLen at c1
  clear hn
  go_enter Try.func3, Try.ntmps3
  go_wp2_with fail
  refine (lives_any _).mono ?_
  rintro e w1 ⟨rfl, hb1⟩
  go_wp2_with fail
  refine (new_w w1).mono ?_
  rintro e w2 ⟨rfl, hW2, hb2, hz2⟩
  go_wp2_with fail
  refine (hea _).mono ?_
  rintro e w3 ⟨rfl, hw3⟩
  have HS : Hid (StepsAt w1 a len cap ss) := hs.keep (keep_below hb1 (A := fun _ => True)) (fun _ _ => trivial)
  have HB : Hid (Below w.heap.size w w1) := hb1
  have hps : PS w1 w3 (fun k => k < w1.heap.size ∨ (w2.heap.size ≤ k ∧ k < w3.heap.size)) w1.heap.size w2.heap.size [] [] (.slice none 0 0) (.slice none 0 0) := by
    subst hw3
    have hb3 : Below w2.heap.size w2 (w2.alloc (.cells #[.slice none 0 0, .slice none 0 0] 28)) := (Below.refl _ w2).alloc (Nat.le_refl _) _
    exact ⟨hW2.below hb3, fun k hk => .inl hk, .inr ⟨Nat.le_refl _, by simp⟩, hb2.size, heap_alloc_new _ _, WvAt.nil _, fun k e => by simp [Value.ownBlock] at e, (keep_below hb2).trans (keep_below hb3)⟩
  rw [hz2] at hps
  clear hea hs hb1 hb2 hz2 hW2 hw3
  generalize hg : w1.heap.size = g at *
  have HG : Hid (w1.heap.size = g) := hg
  clear hg
  generalize g + 1 = b at *
  go_wp2
  go_loopw [5] (fun vi wr => ∃ (i : Nat) (R : List (Int × Int)) (A : Nat → Prop) (kv av : Value), vi = .int .i64 i ∧ i ≤ n ∧ R.length ≤ i ∧ PS w1 wr A g b R R kv av) (fun vi _ => n - (intOf vi).toNat)
  case atStart => exact ⟨0, [], _, _, _, rfl, Nat.zero_le _, Nat.le_refl _, hps⟩
  case round =>
    clear hps
    obtain ⟨i, R, A, kv, av, rfl, hi1, hRl, hps⟩ := hrel
    by_cases hc : i < n
    · obtain ⟨bq, off, rfl, hlt, x0, x1, x2⟩ := HS.out.rd i (by omega)
      have hwf : Wf (ss.getD i s0).key := by
        have hi' : i < ss.length := by have := HS.out.hlen; omega
        refine (HS.out.wf _ ?_).2.1
        rw [List.getD_eq_getElem?_getD, List.getElem?_eq_getElem hi']
        exact List.getElem_mem hi'
      obtain ⟨kd, key, at_, hst⟩ : ∃ kd key at_, ss.getD i s0 = ⟨kd, key, at_⟩ := ⟨_, _, _, rfl⟩
      rw [hst] at x0 x1 x2 hwf
      dsimp only at x0 x1 x2 hwf
      have HWF : Hid (Wf key) := hwf
      clear hst hwf
      have x0 := hps.keep.cell x0 hlt
      have x1 := hps.keep.cell x1 hlt
      have x2 := hps.keep.cell x2 hlt
      have HPS : Hid (PS w1 wr A g b R R kv av) := hps
      clear hps
      go_upto_region 10 with fail
      have hb6 : Below wr.heap.size wr (wr.alloc (.cells #[.int .i64 kd, .int .i64 key, .int .i64 at_] 31)) := (Below.refl _ wr).alloc (Nat.le_refl _) _
      have hq : PQ w1 (wr.alloc (.cells #[.int .i64 kd, .int .i64 key, .int .i64 at_] 31)) (fun k => A k ∨ (wr.heap.size ≤ k ∧ k < (wr.alloc (.cells #[.int .i64 kd, .int .i64 key, .int .i64 at_] 31)).heap.size)) g b wr.heap.size R R kv av kd key at_ := ⟨HPS.out.below hb6, .inr ⟨Nat.le_refl _, by simp⟩, heap_alloc_new _ _⟩
      generalize (fun k => A k ∨ (wr.heap.size ≤ k ∧ k < (wr.alloc (.cells #[.int .i64 kd, .int .i64 key, .int .i64 at_] 31)).heap.size)) = A6 at hq
      clear hb6 HPS x0 x1 x2
      generalize wr.alloc (.cells #[.int .i64 kd, .int .i64 key, .int .i64 at_] 31) = w6 at *
      generalize wr.heap.size = b6 at *
      have y0 := hq.x0
      have y1 := hq.x1
      have y2 := hq.x2
      have HQ : Hid (PQ w1 w6 A6 g b b6 R R kv av kd key at_) := hq
      clear hq
      go_upto_block 2 with (go_at_call 12; refine (kind_step kd key at_ _).mono ?_; rintro e w7 ⟨rfl, hb7⟩)
      have hq7 := HQ.out.same hb7
      clear HQ y0 y1 y2 hb7
      go_cut [7, 8, 9, 10, 11, 12, 13] from 29 to 165 (fun s7 _ _ _ _ _ _ wx => ∃ (R2 : List (Int × Int)) (A2 : Nat → Prop) (kv2 av2 : Value), s7 = .bool true ∧ R2.length ≤ i + 1 ∧ PQ w1 wx A2 g b b6 R2 R2 kv2 av2 kd key at_)
      case first =>
        have y1 := hq7.x1
        have y2 := hq7.x2
        have c0 := hq7.ps.c0
        have c1' := hq7.ps.c1
        have hl7 := hq7.ps.lt
        have hris := hq7.ps.ris
        have HQ : Hid (PQ w1 w7 A6 g b b6 R R kv av kd key at_) := hq7
        obtain ⟨⟨a1, s1, rfl, _⟩, ⟨a2, s2, rfl, _⟩⟩ := hq7.ps.rd
        clear hq7
        have hkk := kindI_of kd
        generalize kindI kd = kk at *
        rcases hkk with hkk | hkk | hkk | hkk
        · rcases hkk with rfl | rfl
          all_goals (
            have hl := setR_length R key (cut at_)
            have hrs := rset_any w7 _ _ R HQ.out.ps.rd hris (by omega) key at_
            generalize hhad : hasR R key = had at *
            have HHAD : Hid (hasR R key = had) := hhad
            clear hhad
            generalize hS : setR R key (cut at_) = S at *
            have HSS : Hid (setR R key (cut at_) = S) := hS
            clear hS
            go_wp2_with fail
            refine hrs.mono ?_
            rintro e w8 ⟨kv1, av1, rfl, hv8, hfr8, hb8⟩
            have hq8 := HQ.out.below hb8
            have HIN : Hid (∀ k, kv1.ownBlock = some k ∨ av1.ownBlock = some k → (A6 k ∨ (w7.heap.size ≤ k ∧ k < w8.heap.size))) := fun k e => .inr (hfr8 k e)
            have HV : Hid (WvAt w8 kv1 av1 S) := hv8
            obtain ⟨⟨a3, s3, rfl, _⟩, ⟨a4, s4, rfl, _⟩⟩ := hv8
            have hb9 : Below w8.heap.size w8 (w8.alloc (.cells #[.slice a3 S.length s3, .slice a4 S.length s4] 28)) := (Below.refl _ w8).alloc (Nat.le_refl _) _
            have hq9 := hq8.same hb9
            have hv9 := HV.out.below hb9
            have z8 := heap_alloc_new w8 (.cells #[.slice a3 S.length s3, .slice a4 S.length s4] 28)
            clear hrs y1 y2 c0 c1' hq8 hb8 hb9 hfr8 HV
            go_upto_region 15 with fail
            generalize w8.alloc (.cells #[.slice a3 S.length s3, .slice a4 S.length s4] 28) = w9 at *
            have z0 := blk_c0 z8
            have z1 := blk_c1 z8
            have d0 := hq9.ps.c0
            have d1 := hq9.ps.c1
            have f0 := hq9.ps.fz 0
            have f1 := hq9.ps.fz 1
            have hq10 := hq9.put hv9 HIN.out
            have HQ10 : Hid (PQ w1 ((w9.setCell ⟨b, 0, none⟩ (.slice a3 S.length s3)).setCell ⟨b, 1, none⟩ (.slice a4 S.length s4)) (fun k => A6 k ∨ (w7.heap.size ≤ k ∧ k < w8.heap.size)) g b b6 R S (.slice a3 S.length s3) (.slice a4 S.length s4) kd key at_) := hq10
            clear hq10 hq9 hv9 z8
            go_upto_region 16 with fail
            generalize (w9.setCell ⟨b, 0, none⟩ (.slice a3 S.length s3)).setCell ⟨b, 1, none⟩ (.slice a4 S.length s4) = w10 at *
            have x1 := HQ10.out.x1
            have x2 := HQ10.out.x2
            have hsw := set_w w10 _ g R key at_ HWF.out (by omega) HQ10.out.ps.wat
            rw [HHAD.out, HSS.out] at hsw
            clear z0 z1 d0 d1 f0 f1
            go_wp2_with fail
            refine hsw.mono ?_
            rintro e w11 ⟨rfl, hW11, hk11⟩
            have HQ11 : Hid (PQ w1 w11 (fun k => A6 k ∨ (w7.heap.size ≤ k ∧ k < w8.heap.size)) g b b6 S S (.slice a3 S.length s3) (.slice a4 S.length s4) kd key at_) := HQ10.out.wheel hW11 hk11
            clear hsw hW11 hk11 x1 x2
            go_wp2_with fail
            go_meet
            exact ⟨S, _, _, _, by simp, by omega, HQ11.out⟩)
        · subst hkk
          have hl := delR_length R key
          have hrs := rcancel_any w7 _ _ R HQ.out.ps.rd hris (by omega) key
          generalize hhad : hasR R key = had at *
          have HHAD : Hid (hasR R key = had) := hhad
          clear hhad
          generalize hS : delR R key = S at *
          have HSS : Hid (delR R key = S) := hS
          clear hS
          go_wp2_with fail
          refine hrs.mono ?_
          rintro e w8 ⟨kv1, av1, rfl, hv8, hfr8, hb8⟩
          have hq8 := HQ.out.below hb8
          have HIN : Hid (∀ k, kv1.ownBlock = some k ∨ av1.ownBlock = some k → (A6 k ∨ (w7.heap.size ≤ k ∧ k < w8.heap.size))) := fun k e => by
            rcases hfr8 k e with h | h
            · exact .inl (HQ.out.ps.inA k h)
            · exact .inr h
          have HV : Hid (WvAt w8 kv1 av1 S) := hv8
          obtain ⟨⟨a3, s3, rfl, _⟩, ⟨a4, s4, rfl, _⟩⟩ := hv8
          have hb9 : Below w8.heap.size w8 (w8.alloc (.cells #[.slice a3 S.length s3, .slice a4 S.length s4] 28)) := (Below.refl _ w8).alloc (Nat.le_refl _) _
          have hq9 := hq8.same hb9
          have hv9 := HV.out.below hb9
          have z8 := heap_alloc_new w8 (.cells #[.slice a3 S.length s3, .slice a4 S.length s4] 28)
          clear hrs y1 y2 c0 c1' hq8 hb8 hb9 hfr8 HV
          go_upto_region 19 with fail
          generalize w8.alloc (.cells #[.slice a3 S.length s3, .slice a4 S.length s4] 28) = w9 at *
          have z0 := blk_c0 z8
          have z1 := blk_c1 z8
          have d0 := hq9.ps.c0
          have d1 := hq9.ps.c1
          have f0 := hq9.ps.fz 0
          have f1 := hq9.ps.fz 1
          have hq10 := hq9.put hv9 HIN.out
          have HQ10 : Hid (PQ w1 ((w9.setCell ⟨b, 0, none⟩ (.slice a3 S.length s3)).setCell ⟨b, 1, none⟩ (.slice a4 S.length s4)) (fun k => A6 k ∨ (w7.heap.size ≤ k ∧ k < w8.heap.size)) g b b6 R S (.slice a3 S.length s3) (.slice a4 S.length s4) kd key at_) := hq10
          clear hq10 hq9 hv9 z8
          go_upto_region 20 with fail
          generalize (w9.setCell ⟨b, 0, none⟩ (.slice a3 S.length s3)).setCell ⟨b, 1, none⟩ (.slice a4 S.length s4) = w10 at *
          have x1 := HQ10.out.x1
          have hsw := cancel_w w10 _ g R key HWF.out HQ10.out.ps.wat
          rw [HHAD.out, HSS.out] at hsw
          clear z0 z1 d0 d1 f0 f1
          go_wp2_with fail
          refine hsw.mono ?_
          rintro e w11 ⟨rfl, hW11, hk11⟩
          have HQ11 : Hid (PQ w1 w11 (fun k => A6 k ∨ (w7.heap.size ≤ k ∧ k < w8.heap.size)) g b b6 S S (.slice a3 S.length s3) (.slice a4 S.length s4) kd key at_) := HQ10.out.wheel hW11 hk11
          clear hsw hW11 hk11 x1
          go_wp2_with fail
          go_meet
          exact ⟨S, _, _, _, by simp, by omega, HQ11.out⟩
        · subst hkk
          have hl := restR_length R at_
          have hl2 := dueR_length R at_
          have hrs := rdue_any w7 _ _ R HQ.out.ps.rd (by omega) at_
          generalize hS : restR R at_ = S at *
          have HSS : Hid (restR R at_ = S) := hS
          clear hS
          generalize hD : (dueR R at_).map (fun x => x.1) = D at *
          have HDD : Hid ((dueR R at_).map (fun x => x.1) = D) := hD
          clear hD
          generalize hd : (dueR R at_).length = d at *
          have HD2 : Hid ((dueR R at_).length = d) := hd
          clear hd
          go_wp2_with fail
          refine hrs.mono ?_
          rintro e w8 ⟨kv1, av1, v8, rfl, hv8, hfr8, ho8, hb8⟩
          have hq8 := HQ.out.below hb8
          have HIN : Hid (∀ k, kv1.ownBlock = some k ∨ av1.ownBlock = some k → (A6 k ∨ (w7.heap.size ≤ k ∧ k < w8.heap.size))) := fun k e => .inr (hfr8 k e)
          have HV : Hid (WvAt w8 kv1 av1 S) := hv8
          obtain ⟨⟨a3, s3, rfl, _⟩, ⟨a4, s4, rfl, _⟩⟩ := hv8
          have hb9 : Below w8.heap.size w8 (w8.alloc (.cells #[.slice a3 S.length s3, .slice a4 S.length s4] 28)) := (Below.refl _ w8).alloc (Nat.le_refl _) _
          have hq9 := hq8.same hb9
          have hv9 := HV.out.below hb9
          have z8 := heap_alloc_new w8 (.cells #[.slice a3 S.length s3, .slice a4 S.length s4] 28)
          have HO9 : Hid ((w8.alloc (.cells #[.slice a3 S.length s3, .slice a4 S.length s4] 28)).ownsRow w7.heap.size 3 1 v8 d (ic D)) := owns_keep ho8 (keep_below hb9 (A := fun _ => True)) (fun _ _ => trivial)
          have HV8 : Hid (∀ k, v8.ownBlock = some k → w7.heap.size ≤ k ∧ k < w8.heap.size) := fun k e => ho8.lt k e
          clear hrs y1 y2 c0 c1' hq8 hb8 hb9 hfr8 HV ho8
          go_upto_region 23 with fail
          generalize w8.alloc (.cells #[.slice a3 S.length s3, .slice a4 S.length s4] 28) = w9 at *
          have z0 := blk_c0 z8
          have z1 := blk_c1 z8
          have d0 := hq9.ps.c0
          have d1 := hq9.ps.c1
          have f0 := hq9.ps.fz 0
          have f1 := hq9.ps.fz 1
          have hq10 := hq9.put hv9 HIN.out
          have HQ10 : Hid (PQ w1 ((w9.setCell ⟨b, 0, none⟩ (.slice a3 S.length s3)).setCell ⟨b, 1, none⟩ (.slice a4 S.length s4)) (fun k => A6 k ∨ (w7.heap.size ≤ k ∧ k < w8.heap.size)) g b b6 R S (.slice a3 S.length s3) (.slice a4 S.length s4) kd key at_) := hq10
          have HO10 : Hid (((w9.setCell ⟨b, 0, none⟩ (.slice a3 S.length s3)).setCell ⟨b, 1, none⟩ (.slice a4 S.length s4)).ownsRow w7.heap.size 3 1 v8 d (ic D)) := owns_keep HO9.out (((Keep.refl (fun k => k ≠ b) w9).setCell (fun hn => hn rfl) _).setCell (fun hn => hn rfl) _) (fun k e => by have := HV8.out k e; omega)
          clear hq10 hq9 hv9 z8 HO9
          go_upto_region 24 with fail
          generalize (w9.setCell ⟨b, 0, none⟩ (.slice a3 S.length s3)).setCell ⟨b, 1, none⟩ (.slice a4 S.length s4) = w10 at *
          have x2 := HQ10.out.x2
          have hsw := due_w w10 _ g R at_ HQ10.out.ps.wat
          rw [HSS.out, HDD.out, HD2.out] at hsw
          clear z0 z1 d0 d1 f0 f1
          go_wp2_with fail
          refine hsw.mono ?_
          rintro e w11 ⟨v11, rfl, hW11, ho11, hk11⟩
          have hq11 : PQ w1 w11 (fun k => A6 k ∨ (w7.heap.size ≤ k ∧ k < w8.heap.size)) g b b6 S S (.slice a3 S.length s3) (.slice a4 S.length s4) kd key at_ := HQ10.out.wheel (hW11.fewer (fun _ h => .inl h)) hk11
          obtain ⟨a9, s9, rfl, hi9, _⟩ := owns_ints (owns_keep HO10.out hk11 (fun k e => .inr (HV8.out k e)))
          obtain ⟨a11, s11, rfl, hi11, _⟩ := owns_ints ho11
          have HQ11 : Hid (PQ w1 w11 (fun k => A6 k ∨ (w7.heap.size ≤ k ∧ k < w8.heap.size)) g b b6 S S (.slice a3 S.length s3) (.slice a4 S.length s4) kd key at_) := hq11
          have hsm := same_b a11 a9 d s11 s9 D w11 hi11 hi9
          clear hsw hW11 hk11 x2 hq11 ho11 hi9 hi11 HO10 HV8
          go_wp2_with fail
          refine hsm.mono ?_
          rintro e w12 ⟨rfl, hb12⟩
          have HQ12 : Hid (PQ w1 w12 (fun k => A6 k ∨ (w7.heap.size ≤ k ∧ k < w8.heap.size)) g b b6 S S (.slice a3 S.length s3) (.slice a4 S.length s4) kd key at_) := HQ11.out.same hb12
          clear HQ11 hb12 hsm
          go_wp2_with fail
          go_meet
          exact ⟨S, _, _, _, by simp, by omega, HQ12.out⟩
        · subst hkk
          go_wp2_with fail
          go_meet
          exact ⟨R, _, _, _, rfl, by omega, HQ.out⟩
      case rest =>
        clear hRl
        obtain ⟨R2, A2, kv2, av2, rfl, hR2, hq⟩ := hcut
        clear hq7
        have hris := hq.ps.ris
        have x1 := hq.x1
        have c0 := hq.ps.c0
        have c1' := hq.ps.c1
        have hat := at_w wc _ g R2 key HWF.out hq.ps.wat
        have hra := rat_any wc _ _ R2 hq.ps.rd hris (by omega) key
        have HQ : Hid (PQ w1 wc A2 g b b6 R2 R2 kv2 av2 kd key at_) := hq
        obtain ⟨⟨a2, s2, rfl, _⟩, ⟨a3, s3, rfl, _⟩⟩ := hq.ps.rd
        clear hq
        generalize getR R2 key = gv at *
        generalize hasR R2 key = hv at *
        go_wp2_with fail
        refine hat.mono ?_
        rintro e w4 ⟨rfl, hw4⟩
        obtain rfl : wc = w4 := hw4.symm
        clear hat hw4
        go_wp2_with fail
        refine hra.mono ?_
        rintro e w4 ⟨rfl, hb4⟩
        have hq4 := HQ.out.same hb4
        clear hra c0 c1' x1 HQ hb4
        have c0 := hq4.ps.c0
        have c1' := hq4.ps.c1
        have hso := sorted_any w4 _ _ R2 hq4.ps.rd hris (by omega)
        have HQ : Hid (PQ w1 w4 A2 g b b6 R2 R2 (.slice a2 R2.length s2) (.slice a3 R2.length s3) kd key at_) := hq4
        clear hq4
        go_wp2_with fail
        refine hso.mono ?_
        rintro e w5 ⟨v5, rfl, ho5, hb5⟩
        have hq5 := HQ.out.same hb5
        obtain ⟨a5, s5, rfl, hi5, _⟩ := owns_ints ho5
        have hle5 := hi5.hle
        have hcp5 := hi5.hcap
        unfold maxLen at hcp5
        have hlp : LP w1 w5 A2 g b b6 R2 (.slice a2 R2.length s2) (.slice a3 R2.length s3) kd key at_ a5 R2.length s5 w5 := ⟨hq5, hi5, Below.refl _ _⟩
        have HL : Hid (LP w1 w5 A2 g b b6 R2 (.slice a2 R2.length s2) (.slice a3 R2.length s3) kd key at_ a5 R2.length s5 w5) := hlp
        have HRIS : Hid (Ris R2) := hris
        obtain ⟨m, hm0, hm1, hnx⟩ := next_u w5 _ g R2 hlp.wat
        have HM : Hid ((R2.length = 0 → m = 0) ∧ (0 < R2.length → getR R2 ((keysR R2).getD 0 0) = m)) := ⟨hm0, hm1⟩
        clear hso c0 c1' HQ ho5 hb5 hq5 hi5 hlp hm0 hm1 hris
        go_wp2_with fail
        refine hnx.mono ?_
        rintro e w6 ⟨rfl, hw6⟩
        obtain rfl : w5 = w6 := hw6.symm
        clear hnx hw6
        go_upto_if 117 with fail
        go_cut [18, 20, 21] from 29 to 165 (fun v18 v20 v21 w6 => v18 = .slice a5 R2.length s5 ∧ v20 = .bool (decide (0 < R2.length)) ∧ v21 = .int .i64 m ∧ Below w5.heap.size w5 w6)
        case first =>
          by_cases h0 : 0 < R2.length
          · obtain ⟨b5, o5, rfl, hlt5, k5⟩ := HL.out.ks.at_ 0 h0
            rw [Nat.add_zero] at k5
            have hra := fun (w' : World) (hv : WvAt w' (.slice a2 R2.length s2) (.slice a3 R2.length s3) R2) => rat_any w' _ _ R2 hv HRIS.out (by omega) ((keysR R2).getD 0 0)
            rw [HM.out.2 h0] at hra
            have hS := HL.out.held3 k5 (Below.refl _ w5).drew
            generalize (keysR R2).getD 0 0 = kk at *
            generalize hasR R2 kk = hk at *
            have HS5 : Hid (w5.drew.cell? ⟨b, 0, none⟩ = some (.slice a2 R2.length s2) ∧ w5.drew.cell? ⟨b, 1, none⟩ = some (.slice a3 R2.length s3) ∧ w5.drew.cell? ⟨b5, o5, none⟩ = some (.int .i64 kk) ∧ LP w1 w5 A2 g b b6 R2 (.slice a2 R2.length s2) (.slice a3 R2.length s3) kd key at_ (some ⟨b5, o5, none⟩) R2.length s5 w5.drew) := hS
            clear hS k5
            go_wp2_with fail
            have hS := HS5.out
            go_region_held3 (fun w' => w'.cell? ⟨b, 0, none⟩ = some (.slice a2 R2.length s2) ∧ w'.cell? ⟨b, 1, none⟩ = some (.slice a3 R2.length s3) ∧ w'.cell? ⟨b5, o5, none⟩ = some (.int .i64 kk) ∧ LP w1 w5 A2 g b b6 R2 (.slice a2 R2.length s2) (.slice a3 R2.length s3) kd key at_ (some ⟨b5, o5, none⟩) R2.length s5 w')
              (first | assumption | exact (lp3_of (by assumption)).held3 (lp3_c (by assumption)) hbx | go_keep)
              (first | (go_at_call 21; refine (hra _ (PS.rd (PQ.ps (LP.q (lp3_of (by assumption)))))).mono ?_; rintro e w' ⟨rfl, hbx⟩))
            all_goals (
              have HBE : Hid (Below w5.heap.size w5 w') := (lp3_of (by assumption)).bel
              go_wp2_with fail
              go_meet
              exact ⟨rfl, by simp [h0], rfl, HBE.out⟩)
          · have h00 : R2.length = 0 := by omega
            have hm := HM.out.1 h00
            subst hm
            rw [h00]
            go_wp2_with fail
            go_meet
            exact ⟨by simp [h00], by simp [h00], rfl, Below.refl _ _⟩
        case rest =>
          obtain ⟨rfl, rfl, rfl, hb6⟩ := hcut
          have hl6 := (HL.out.step hb6).held (Below.refl _ wc).drew
          clear HL hb6
          obtain ⟨N, hN⟩ : ∃ N, R2.length = N := ⟨_, rfl⟩
          have HN : Hid (R2.length = N) := hN
          rw [hN] at hl6 hle5 hR2 ⊢
          have HS6 : Hid (wc.drew.cell? ⟨b, 0, none⟩ = some (.slice a2 N s2) ∧ LP w1 w5 A2 g b b6 R2 (.slice a2 N s2) (.slice a3 N s3) kd key at_ a5 N s5 wc.drew) := hl6
          clear hl6 hN HM
          go_wp2_with fail
          have hS := HS6.out
          go_region_held3 (fun w' => w'.cell? ⟨b, 0, none⟩ = some (.slice a2 N s2) ∧ LP w1 w5 A2 g b b6 R2 (.slice a2 N s2) (.slice a3 N s3) kd key at_ a5 N s5 w')
            (first | assumption | exact (lp_of (by assumption)).held hbx | go_keep)
            (first
              | (go_at_call 24; refine (len_e _ _ g R2 N HN.out (LP.wat (lp_of (by assumption)))).mono ?_; rintro e w' ⟨rfl, rfl⟩)
              | (go_at_call 25; refine (keys_b _ _ g R2 N HN.out (LP.wat (lp_of (by assumption)))).mono ?_; rintro e w6 ⟨a6, c6, rfl, hi6, hbx⟩)
              | (go_at_call 18; refine (same_b _ _ N _ _ _ _ hi6 (LP.ks (lp_of (by assumption)))).mono ?_; rintro e w' ⟨rfl, hbx⟩))
          have LE := (lp_of (w' := w') (by assumption)).q.ps
          have HE : Hid (PS w1 w' A2 g b R2 R2 (.slice a2 N s2) (.slice a3 N s3)) := LE
          clear LE HS6 hS
          go_wp2
          first
            | exact ⟨⟨i + 1, R2, A2, _, _, by simp, by omega, by rw [HN.out]; exact hR2, HE.out⟩, by simp [intOf]; omega⟩
            | (go_roundw
               case rel => ((repeat apply Exists.intro); exact ⟨⟨i + 1, R2, A2, _, _, by simp, by omega, by rw [HN.out]; exact hR2, HE.out⟩, rfl⟩)
               case measure => simp [intOf]; omega)
    · obtain rfl : n = i := by omega
      have HEND : Hid (Below w.heap.size w wr) := HB.out.trans (hps.keep.below HB.out.size (fun k hk => Nat.lt_of_lt_of_le hk HB.out.size))
      clear hps hc
      go_wp2
      go_ret
      exact ⟨rfl, HEND.out⟩

end Go.Proofs.Ytahdeliopmkpmaa
