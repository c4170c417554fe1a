/-
  WindowPlays's walk: what a window answers, and has, in whatever row, is what the document's window says. Conditions: the steps lie where they are said to lie.
-/
import Derived.Test.YtjnacpcdkkfdgaaRefA
import Derived.Test.YtjnacpcdkkfdgaaOpens
import Derived.Deep.CutBlock
namespace Go.Proofs.Ytjnacpcdkkfdgaa
open Go.ChangeShapes Go.WideShapes Go.ChangeAt Go.RowKit

/-- The document's window has the ticks R, told up to t; L is what it says that there are. -/
structure Ply (s t : Int) (L R : List Int) : Prop where
  s1 : 1 ≤ s
  s2 : s ≤ 1048576
  row : Row R
  tk : Tk t
  eq : allR s t R = L

theorem Ply.len {s t : Int} {L R : List Int} (h : Ply s t L R) : L.length ≤ R.length := by rw [← h.eq]; exact all_length _ _ _
theorem Ply.add {s t : Int} {L R : List Int} (h : Ply s t L R) (x y T : Int) (hy : max (cut x) (lastI L) = y) (hT : max t (cut y) = T) : cntL s T (L ++ [y]) = allR s T (L ++ [y]) ∧ Ply s T (allR s T (L ++ [y])) (L ++ [y]) := by
  have hr : Row L := by rw [← h.eq]; exact h.row.all s t
  have h1 := last_tk hr
  have h2 := tk_cut x
  have hle : lastI L ≤ y := by omega
  have hyt : Tk y := by
    rcases Int.le_total (cut x) (lastI L) with h | h
    · rw [← hy, Int.max_eq_right h]; exact h1
    · rw [← hy, Int.max_eq_left h]; exact h2
  have hTt : Tk T := by
    rw [hyt.cut] at hT
    have := h.tk
    unfold Tk at *
    omega
  have hry : Row (L ++ [y]) := hr.snoc hyt (fun z hz => by have := last_le hr.up z hz; omega)
  exact ⟨cnt_all h.s1 hTt hry, h.s1, h.s2, hry, hTt, rfl⟩
theorem Ply.count {s t : Int} {L R : List Int} (h : Ply s t L R) (x T : Int) (hT : max t (cut x) = T) : cntL s T L = allR s T R ∧ Ply s T (allR s T R) R := by
  have hr : Row L := by rw [← h.eq]; exact h.row.all s t
  have h2 := tk_cut x
  have hTt : Tk T := by
    have := h.tk
    unfold Tk at *
    omega
  refine ⟨?_, h.s1, h.s2, h.row, hTt, rfl⟩
  rw [cnt_all h.s1 hTt hr, ← h.eq]
  exact all_all s (by omega) R
theorem Ply.reset {s t : Int} {L R : List Int} (h : Ply s t L R) : Ply s t [] [] := ⟨h.s1, h.s2, Row.nil, h.tk, rfl⟩

/-- A step's kind. -/
def kindI (z : Int) : Int := wrap64 ((IntKind.u64.wrap z).tmod 4)
theorem kindI_of (z : Int) : (kindI z = 0 ∨ kindI z = 1) ∨ kindI z = 2 ∨ kindI z = 3 := by
  have := um_bd 4 z (by decide) (by decide)
  unfold kindI
  omega

set_option maxRecDepth 100000 in
theorem kind_step (kd at_ : Int) (w : World) :
    Calls Try.prog 12 #[.agg #[.int .i64 kd, .int .i64 at_]] w fun e w' => e = .returned (.int .i64 (kindI kd)) ∧ Below w.heap.size w w' := by
  have hb : Below w.heap.size w (w.alloc (.cells #[.int .i64 kd, .int .i64 at_] 32)) := (Below.refl _ w).alloc (Nat.le_refl _) _
  have HX : Hid (wrap64 ((IntKind.u64.wrap kd).tmod 4) = kindI kd) := rfl
  go_enter Try.func12, Try.ntmps12
  go_wp2
  go_ret
  exact ⟨by first | rfl | (rw [← HX.out]), hb⟩

set_option maxRecDepth 100000 in
theorem early_any (a : Option Addr) (len cap n : Nat) (hl : len ≤ cap) (hc : cap ≤ maxLen) (hn : min len 100 = n) (w : World) :
    Calls Try.prog 11 #[.slice a len cap] w fun e w' => e = .returned (.slice a n cap) ∧ w' = w := by
  unfold maxLen at hc
  have hn2 : (if (100 : Int) < (len : Int) then (100 : Int) else (len : Int)) = (n : Int) := by split <;> omega
  have hn3 : n ≤ 100 := by omega
  have hn4 : n ≤ len := by omega
  clear hn
  go_enter Try.func11, Try.ntmps11
  go_wp2
  go_ret
  exact ⟨rfl, rfl⟩

theorem WAt.below {w w' : World} {A : Nat → Prop} {g : Nat} {s t : Int} {L : List Int} (h : WAt w A g s t L) (hb : Below w.heap.size w w') : WAt w' (fun k => A k ∨ (w.heap.size ≤ k ∧ k < w'.heap.size)) g s t L :=
  h.keep (keep_below hb) (fun _ hk => hk.imp id (fun h => h.1)) (fun k hk => by
    rcases hk with h5 | h5
    · exact Nat.lt_of_lt_of_le (h.guard k h5) hb.size
    · exact h5.2)
theorem WAt.others {w w' : World} {A : Nat → Prop} {g : Nat} {s t : Int} {L : List Int} (h : WAt w A g s t L) (hk : Keep (fun k => ¬ A k) w w') : WAt w' A g s t L :=
  h.keep hk (fun _ hk => .inl hk) (fun k hA => Nat.lt_of_lt_of_le (h.guard k hA) hk.size)

/-- The window at g has L, told up to t; the document's at b has R, told up to t'; the window's blocks are none of A. -/
structure PS (w1 wr : World) (A : Nat → Prop) (g b : Nat) (s t : Int) (L : List Int) (t' : Int) (a : Option Addr) (n c : Nat) (R : List Int) : Prop where
  wat : WAt wr A g s t L
  low : ∀ k, k < w1.heap.size → A k
  ab : A b
  hb : w1.heap.size ≤ b
  blk : wr.heap[b]? = some (.cells #[.int .i64 s, .slice a n c, .int .i64 t'] 28 (0, 0))
  rd : IntsAt wr a n c R
  inA : ∀ p, a = some p → A p.block ∧ p.block ≠ b
  keep : Keep (fun k => k < w1.heap.size) w1 wr

/-- The same, and the step lies at b6. -/
structure PQ (w1 wr : World) (A : Nat → Prop) (g b b6 : Nat) (s t : Int) (L : List Int) (t' : Int) (a : Option Addr) (n c : Nat) (R : List Int) (kd at_ : Int) : Prop where
  ps : PS w1 wr A g b s t L t' a n c R
  a6 : A b6
  ne6 : b6 ≠ b
  blk6 : wr.heap[b6]? = some (.cells #[.int .i64 kd, .int .i64 at_] 32 (0, 0))

section
variable {w1 wr w' : World} {A : Nat → Prop} {g b b6 : Nat} {s t t' : Int} {L R : List Int} {a : Option Addr} {n c : Nat} {kd at_ : Int}
theorem PS.lt (h : PS w1 wr A g b s t L t' a n c R) : b < wr.heap.size := (Array.getElem?_eq_some_iff.1 h.blk).1
theorem PS.below (h : PS w1 wr A g b s t L t' a n c R) (hb : Below wr.heap.size wr w') : PS w1 w' (fun k => A k ∨ (wr.heap.size ≤ k ∧ k < w'.heap.size)) g b s t L t' a n c R :=
  ⟨h.wat.below hb, fun k hk => .inl (h.low k hk), .inl h.ab, h.hb, (hb.block b h.lt).trans h.blk, h.rd.below hb, fun p hp => ⟨.inl (h.inA p hp).1, (h.inA p hp).2⟩, h.keep.trans (keep_below hb)⟩
theorem PS.same (h : PS w1 wr A g b s t L t' a n c R) (hb : Below wr.heap.size wr w') : PS w1 w' A g b s t L t' a n c R :=
  ⟨h.wat.others (keep_below hb), h.low, h.ab, h.hb, (hb.block b h.lt).trans h.blk, h.rd.below hb, h.inA, h.keep.trans (keep_below hb)⟩
theorem PS.win {t2 : Int} {L2 : List Int} (h : PS w1 wr A g b s t L t' a n c R) (hW : WAt w' A g s t2 L2) (hk : Keep A wr w') : PS w1 w' A g b s t2 L2 t' a n c R :=
  ⟨hW, h.low, h.ab, h.hb, (hk.block b h.lt h.ab).trans h.blk, h.rd.keep hk (fun p hp _ => (h.inA p hp).1), h.inA, h.keep.trans (hk.mono fun k _ hk => h.low k hk)⟩
theorem PS.put {t2 : Int} {a2 : Option Addr} {n2 c2 : Nat} {R2 : List Int} (h : PS w1 wr A g b s t L t' a n c R) (hv : IntsAt wr a2 n2 c2 R2) (hin : ∀ p, a2 = some p → A p.block ∧ p.block ≠ b) :
    PS w1 (((wr.setCell ⟨b, 0, none⟩ (.int .i64 s)).setCell ⟨b, 1, none⟩ (.slice a2 n2 c2)).setCell ⟨b, 2, none⟩ (.int .i64 t2)) A g b s t L t2 a2 n2 c2 R2 := by
  have k9 : Keep (fun k => k ≠ b) wr (((wr.setCell ⟨b, 0, none⟩ (.int .i64 s)).setCell ⟨b, 1, none⟩ (.slice a2 n2 c2)).setCell ⟨b, 2, none⟩ (.int .i64 t2)) := (((Keep.refl _ _).setCell (fun hn => hn rfl) _).setCell (fun hn => hn rfl) _).setCell (fun hn => hn rfl) _
  have hb := h.hb
  exact ⟨h.wat.others (k9.mono fun k _ hn e => hn (e ▸ h.ab)), h.low, h.ab, h.hb, (heap_set3 (heap_set3 (heap_set3 h.blk).1).2.1).2.2, hv.keep k9 (fun p hp _ => (hin p hp).2), hin, h.keep.trans (k9.mono fun k _ hk => by omega)⟩
theorem PS.drop (h : PS w1 wr A g b s t L t' a n c R) : PS w1 (wr.setCell ⟨b, 1, none⟩ (.slice none 0 0)) A g b s t L t' none 0 0 [] := by
  have k9 : Keep (fun k => k ≠ b) wr (wr.setCell ⟨b, 1, none⟩ (.slice none 0 0)) := (Keep.refl _ _).setCell (fun hn => hn rfl) _
  have hb := h.hb
  exact ⟨h.wat.others (k9.mono fun k _ hn e => hn (e ▸ h.ab)), h.low, h.ab, h.hb, (heap_set3 h.blk).2.1, ⟨rfl, Nat.le_refl _, Nat.zero_le _, fun _ hj => absurd hj (Nat.not_lt_zero _)⟩, fun p hp => (by cases hp), h.keep.trans (k9.mono fun k _ hk => by omega)⟩

theorem PQ.lt6 (h : PQ w1 wr A g b b6 s t L t' a n c R kd at_) : b6 < wr.heap.size := (Array.getElem?_eq_some_iff.1 h.blk6).1
theorem PQ.below (h : PQ w1 wr A g b b6 s t L t' a n c R kd at_) (hb : Below wr.heap.size wr w') : PQ w1 w' (fun k => A k ∨ (wr.heap.size ≤ k ∧ k < w'.heap.size)) g b b6 s t L t' a n c R kd at_ :=
  ⟨h.ps.below hb, .inl h.a6, h.ne6, (hb.block b6 h.lt6).trans h.blk6⟩
theorem PQ.same (h : PQ w1 wr A g b b6 s t L t' a n c R kd at_) (hb : Below wr.heap.size wr w') : PQ w1 w' A g b b6 s t L t' a n c R kd at_ :=
  ⟨h.ps.same hb, h.a6, h.ne6, (hb.block b6 h.lt6).trans h.blk6⟩
theorem PQ.win {t2 : Int} {L2 : List Int} (h : PQ w1 wr A g b b6 s t L t' a n c R kd at_) (hW : WAt w' A g s t2 L2) (hk : Keep A wr w') : PQ w1 w' A g b b6 s t2 L2 t' a n c R kd at_ :=
  ⟨h.ps.win hW hk, h.a6, h.ne6, (hk.block b6 h.lt6 h.a6).trans h.blk6⟩
theorem PQ.put {t2 : Int} {a2 : Option Addr} {n2 c2 : Nat} {R2 : List Int} (h : PQ w1 wr A g b b6 s t L t' a n c R kd at_) (hv : IntsAt wr a2 n2 c2 R2) (hin : ∀ p, a2 = some p → A p.block ∧ p.block ≠ b) :
    PQ w1 (((wr.setCell ⟨b, 0, none⟩ (.int .i64 s)).setCell ⟨b, 1, none⟩ (.slice a2 n2 c2)).setCell ⟨b, 2, none⟩ (.int .i64 t2)) A g b b6 s t L t2 a2 n2 c2 R2 kd at_ := by
  have k9 : Keep (fun k => k ≠ b) wr (((wr.setCell ⟨b, 0, none⟩ (.int .i64 s)).setCell ⟨b, 1, none⟩ (.slice a2 n2 c2)).setCell ⟨b, 2, none⟩ (.int .i64 t2)) := (((Keep.refl _ _).setCell (fun hn => hn rfl) _).setCell (fun hn => hn rfl) _).setCell (fun hn => hn rfl) _
  exact ⟨h.ps.put hv hin, h.a6, h.ne6, (k9.block b6 h.lt6 h.ne6).trans h.blk6⟩
theorem PQ.drop (h : PQ w1 wr A g b b6 s t L t' a n c R kd at_) : PQ w1 (wr.setCell ⟨b, 1, none⟩ (.slice none 0 0)) A g b b6 s t L t' none 0 0 [] kd at_ :=
  ⟨h.ps.drop, h.a6, h.ne6, (heap_setCell_other wr _ b6 _ h.ne6).trans h.blk6⟩
theorem PQ.x0 (h : PQ w1 wr A g b b6 s t L t' a n c R kd at_) : wr.cell? ⟨b6, 0, none⟩ = some (.int .i64 kd) := by simp [World.cell?, h.blk6]
theorem PQ.x1 (h : PQ w1 wr A g b b6 s t L t' a n c R kd at_) : wr.cell? ⟨b6, 1, none⟩ = some (.int .i64 at_) := by simp [World.cell?, h.blk6]
end

set_option maxHeartbeats 8000000 in
set_option maxRecDepth 100000 in
theorem plays_walk (sp : Int) (a : Option Addr) (len cap : Nat) (ss : List Stp) (w : World) (hs : StepsAt w a len cap ss) :
    Calls Try.prog 3 #[.int .i64 sp, .slice a len cap] w fun e w' => e = .returned (.bool true) ∧ Below w.heap.size w w' := by
  have l1 := hs.hle
  have c1 := hs.hcap
  obtain ⟨n, hn⟩ : ∃ n, min len 100 = n := ⟨_, rfl⟩
  have hea := early_any a len cap n l1 c1 hn
  have hn3 : n ≤ 100 := by omega
  have hn4 : n ≤ len := by omega
  have hnc : n ≤ cap := by omega
  unfold maxLen at c1
  have hs1 := span_lo sp
  have hs2 := span_hi sp
  clear hn
  go_enter Try.func3, Try.ntmps3
  go_wp2_with fail
  refine (lives_any _).mono ?_
  rintro e w1 ⟨rfl, hb1⟩
  go_wp2_with fail
  refine (new_any sp w1).mono ?_
  rintro e w2 ⟨rfl, hW2, hb2, -⟩
  go_wp2_with fail
  refine (rnew_any sp w2).mono ?_
  rintro e w3 ⟨rfl, hb3⟩
  go_wp2_with fail
  refine (hea _).mono ?_
  rintro e w4 ⟨rfl, hw4⟩
  have HS : Hid (StepsAt w1 a len cap ss) := hs.below hb1
  have HB : Hid (Below w.heap.size w w1) := hb1
  have hb4 : Below w3.heap.size w3 (w3.alloc (.cells #[.int .i64 (spanI sp), .slice none 0 0, .int .i64 0] 28)) := (Below.refl _ w3).alloc (Nat.le_refl _) _
  have hps : PS w1 w4 (fun k => k < w1.heap.size ∨ (w2.heap.size ≤ k ∧ k < w4.heap.size)) w1.heap.size w3.heap.size (spanI sp) 0 [] 0 none 0 0 [] := by
    subst hw4
    have hb24 := hb3.trans (hb4.mono hb3.size)
    have h23 := hb3.size
    exact ⟨hW2.below hb24, fun k hk => .inl hk, .inr ⟨h23, by simp⟩, by have := hb2.size; omega, heap_alloc_new _ _, ⟨rfl, Nat.le_refl _, Nat.zero_le _, fun _ hj => absurd hj (Nat.not_lt_zero _)⟩, fun p hp => (by cases hp), (keep_below hb2).trans (keep_below hb24)⟩
  have hply : Ply (spanI sp) 0 [] [] := ⟨hs1, hs2, Row.nil, ⟨by omega, by omega⟩, rfl⟩
  clear hea hs hb1 hb2 hb3 hb4 hW2 hw4
  generalize hg : w1.heap.size = g at *
  have HG : Hid (w1.heap.size = g) := hg
  clear hg
  generalize w3.heap.size = b at *
  generalize spanI sp = S at *
  go_wp2
  go_loopw [7] (fun vi wr => ∃ (i : Nat) (t : Int) (L R : List Int) (A : Nat → Prop) (a' : Option Addr) (m c' : Nat), vi = .int .i64 i ∧ i ≤ n ∧ R.length = m ∧ m ≤ i ∧ Ply S t L R ∧ PS w1 wr A g b S t L t a' m c' R) (fun vi _ => n - (intOf vi).toNat)
  case atStart => exact ⟨0, 0, [], [], _, _, _, _, rfl, Nat.zero_le _, rfl, Nat.le_refl _, hply, hps⟩
  case round =>
    clear hps hply
    obtain ⟨i, t, L, R, A, a', m, c', rfl, hi1, hRm, hmi, hply, hps⟩ := hrel
    by_cases hc : i < n
    · obtain ⟨bq, off, rfl, hlt, x0, x1⟩ := HS.out.rd i (by omega)
      obtain ⟨kd, at_, hst⟩ : ∃ kd at_, ss.getD i s0 = ⟨kd, at_⟩ := ⟨_, _, rfl⟩
      rw [hst] at x0 x1
      dsimp only at x0 x1
      clear hst
      have x0 := hps.keep.cell x0 hlt
      have x1 := hps.keep.cell x1 hlt
      have HPS : Hid (PS w1 wr A g b S t L t a' m c' R) := hps
      have HPLY : Hid (Ply S t L R) := hply
      clear hps hply
      go_upto_region 9 with fail
      have hb6 : Below wr.heap.size wr (wr.alloc (.cells #[.int .i64 kd, .int .i64 at_] 32)) := (Below.refl _ wr).alloc (Nat.le_refl _) _
      have hq : PQ w1 (wr.alloc (.cells #[.int .i64 kd, .int .i64 at_] 32)) (fun k => A k ∨ (wr.heap.size ≤ k ∧ k < (wr.alloc (.cells #[.int .i64 kd, .int .i64 at_] 32)).heap.size)) g b wr.heap.size S t L t a' m c' R kd at_ := ⟨HPS.out.below hb6, .inr ⟨Nat.le_refl _, by simp⟩, (by have := HPS.out.lt; omega), heap_alloc_new _ _⟩
      generalize (fun k => A k ∨ (wr.heap.size ≤ k ∧ k < (wr.alloc (.cells #[.int .i64 kd, .int .i64 at_] 32)).heap.size)) = A6 at hq
      clear hb6 HPS x0 x1
      generalize wr.alloc (.cells #[.int .i64 kd, .int .i64 at_] 32) = w6 at *
      generalize wr.heap.size = b6 at *
      have y0 := hq.x0
      have y1 := hq.x1
      have HQ : Hid (PQ w1 w6 A6 g b b6 S t L t a' m c' R kd at_) := hq
      clear hq
      go_upto_block 2 with (go_at_call 12; refine (kind_step kd at_ _).mono ?_; rintro e w7 ⟨rfl, hb7⟩)
      have hq7 := HQ.out.same hb7
      clear HQ y0 y1 hb7
      go_cut [9, 10, 11, 12, 13] from 26 to 116 (fun s9 _ _ _ _ wx => ∃ (t2 : Int) (L2 R2 : List Int) (A2 : Nat → Prop) (a2 : Option Addr) (m2 c2 : Nat), s9 = .bool true ∧ R2.length = m2 ∧ m2 ≤ i + 1 ∧ Ply S t2 L2 R2 ∧ PQ w1 wx A2 g b b6 S t2 L2 t2 a2 m2 c2 R2 kd at_)
      case first =>
        have y1 := hq7.x1
        obtain ⟨c0, c1', c2', hl7⟩ := blk3 hq7.ps.blk
        have HQ : Hid (PQ w1 w7 A6 g b b6 S t L t a' m c' R kd at_) := hq7
        have hLl := HPLY.out.len
        have hlr := hq7.ps.rd
        have hbs := hq7.ps.lt
        clear hq7
        have hkk := kindI_of kd
        generalize kindI kd = kk at *
        rcases hkk with hkk | hkk | hkk
        · rcases hkk with rfl | rfl
          all_goals (
            obtain ⟨y, hy⟩ : ∃ y, max (cut at_) (lastI L) = y := ⟨_, rfl⟩
            obtain ⟨T, hT⟩ : ∃ T, max t (cut y) = T := ⟨_, rfl⟩
            obtain ⟨hcm, hply2⟩ := HPLY.out.add at_ y T hy hT
            obtain ⟨M, hM⟩ : ∃ M, allR S T (L ++ [y]) = M := ⟨_, rfl⟩
            have hra := rraise_any w7 S t a' m c' R at_ hlr ⟨HPLY.out.s1, HPLY.out.s2⟩ HPLY.out.row (by omega) L HPLY.out.eq y T hy hT M.length (by rw [hM])
            rw [hM] at hcm hply2
            have HA : Hid (max (cut at_) (lastI L) = y ∧ max t (cut y) = T ∧ cntL S T (L ++ [y]) = M ∧ Ply S T M (L ++ [y])) := ⟨hy, hT, hcm, hply2⟩
            clear hy hT hcm hply2 hM hlr
            go_wp2_with fail
            refine hra.mono ?_
            rintro e w8 ⟨a8, c8, rfl, hi8, hfr8, hb8⟩
            have hq8 := HQ.out.below hb8
            have HIN : Hid (∀ p, a8 = some p → (A6 p.block ∨ (w7.heap.size ≤ p.block ∧ p.block < w8.heap.size)) ∧ p.block ≠ b) := fun p hp => ⟨.inr (hfr8 p hp), by have := (hfr8 p hp).1; omega⟩
            have hb9 : Below w8.heap.size w8 (w8.alloc (.cells #[.int .i64 S, .slice a8 (L.length + 1) c8, .int .i64 T] 28)) := (Below.refl _ w8).alloc (Nat.le_refl _) _
            have hq9 := hq8.same hb9
            have hi9 := hi8.below hb9
            have z8 := heap_alloc_new w8 (.cells #[.int .i64 S, .slice a8 (L.length + 1) c8, .int .i64 T] 28)
            clear hra y1 c0 c1' c2' hq8 hb8 hb9 hfr8 hi8
            go_upto_region 14 with fail
            generalize w8.alloc (.cells #[.int .i64 S, .slice a8 (L.length + 1) c8, .int .i64 T] 28) = w9 at *
            obtain ⟨z0, z1, z2, -⟩ := blk3 z8
            obtain ⟨d0, d1, d2, hd⟩ := blk3 hq9.ps.blk
            have f0 := fz3 hq9.ps.blk 0
            have f1 := fz3 hq9.ps.blk 1
            have f2 := fz3 hq9.ps.blk 2
            have hq10 := hq9.put (t2 := T) hi9 HIN.out
            have HQ10 : Hid (PQ w1 (((w9.setCell ⟨b, 0, none⟩ (.int .i64 S)).setCell ⟨b, 1, none⟩ (.slice a8 (L.length + 1) c8)).setCell ⟨b, 2, none⟩ (.int .i64 T)) (fun k => A6 k ∨ (w7.heap.size ≤ k ∧ k < w8.heap.size)) g b b6 S t L T a8 (L.length + 1) c8 (L ++ [y]) kd at_) := hq10
            clear hq10 hq9 hi9 z8
            go_upto_region 15 with fail
            generalize ((w9.setCell ⟨b, 0, none⟩ (.int .i64 S)).setCell ⟨b, 1, none⟩ (.slice a8 (L.length + 1) c8)).setCell ⟨b, 2, none⟩ (.int .i64 T) = w10 at *
            have x1 := HQ10.out.x1
            obtain ⟨k1, k2, k3, k4⟩ := HA.out
            have hadd := add_n w10 _ g S t L at_ y T M M.length HQ10.out.ps.wat (by omega) k1 k2 k3 rfl
            clear z0 z1 z2 d0 d1 d2 f0 f1 f2 hd k1 k2 k3 k4
            go_wp2_with fail
            refine hadd.mono ?_
            rintro e w11 ⟨rfl, hW11, hk11⟩
            have HQ11 : Hid (PQ w1 w11 (fun k => A6 k ∨ (w7.heap.size ≤ k ∧ k < w8.heap.size)) g b b6 S T M T a8 (L.length + 1) c8 (L ++ [y]) kd at_) := HQ10.out.win hW11 hk11
            clear hadd hW11 hk11 x1
            go_wp2_with fail
            go_meet
            exact ⟨T, M, L ++ [y], _, _, _, _, by simp, by simp, by omega, HA.out.2.2.2, HQ11.out⟩)
        · subst hkk
          obtain ⟨T, hT⟩ : ∃ T, max t (cut at_) = T := ⟨_, rfl⟩
          obtain ⟨hcm, hply2⟩ := HPLY.out.count at_ T hT
          have hra := rcount_any w7 S t a' m c' R at_ hlr ⟨HPLY.out.s1, HPLY.out.s2⟩ HPLY.out.row.tk (by omega)
          rw [hT] at hra
          generalize allR S T R = M at *
          have HA : Hid (max t (cut at_) = T ∧ cntL S T L = M ∧ Ply S T M R) := ⟨hT, hcm, hply2⟩
          clear hT hcm hply2 hlr
          go_wp2_with fail
          refine hra.mono ?_
          rintro e w8 ⟨rfl, hb8⟩
          have hb9 : Below w8.heap.size w8 (w8.alloc (.cells #[.int .i64 S, .slice a' m c', .int .i64 T] 28)) := (Below.refl _ w8).alloc (Nat.le_refl _) _
          have hq9 := (HQ.out.same hb8).same hb9
          have z8 := heap_alloc_new w8 (.cells #[.int .i64 S, .slice a' m c', .int .i64 T] 28)
          clear hra y1 c0 c1' c2' hb8 hb9
          go_upto_region 18 with fail
          generalize w8.alloc (.cells #[.int .i64 S, .slice a' m c', .int .i64 T] 28) = w9 at *
          obtain ⟨z0, z1, z2, -⟩ := blk3 z8
          obtain ⟨d0, d1, d2, hd⟩ := blk3 hq9.ps.blk
          have f0 := fz3 hq9.ps.blk 0
          have f1 := fz3 hq9.ps.blk 1
          have f2 := fz3 hq9.ps.blk 2
          have hq10 := hq9.put (t2 := T) hq9.ps.rd hq9.ps.inA
          have HQ10 : Hid (PQ w1 (((w9.setCell ⟨b, 0, none⟩ (.int .i64 S)).setCell ⟨b, 1, none⟩ (.slice a' m c')).setCell ⟨b, 2, none⟩ (.int .i64 T)) A6 g b b6 S t L T a' m c' R kd at_) := hq10
          clear hq10 hq9 z8
          go_upto_region 19 with fail
          generalize ((w9.setCell ⟨b, 0, none⟩ (.int .i64 S)).setCell ⟨b, 1, none⟩ (.slice a' m c')).setCell ⟨b, 2, none⟩ (.int .i64 T) = w10 at *
          have x1 := HQ10.out.x1
          obtain ⟨k1, k2, k3⟩ := HA.out
          have hadd := count_n w10 _ g S t L at_ T M M.length HQ10.out.ps.wat (by omega) k1 k2 rfl
          clear z0 z1 z2 d0 d1 d2 f0 f1 f2 hd k1 k2 k3
          go_wp2_with fail
          refine hadd.mono ?_
          rintro e w11 ⟨rfl, hW11, hk11⟩
          have HQ11 : Hid (PQ w1 w11 A6 g b b6 S T M T a' m c' R kd at_) := HQ10.out.win hW11 hk11
          clear hadd hW11 hk11 x1
          go_wp2_with fail
          go_meet
          exact ⟨T, M, R, _, _, _, _, by simp, hRm, by omega, HA.out.2.2, HQ11.out⟩
        · subst hkk
          have f1 := fz3 HQ.out.ps.blk 1
          clear hlr
          by_cases hodd : at_.tmod 2 = 0
          · have hb1 : (at_.tmod 2 != 0) = false := by simpa using hodd
            go_wp2_with fail
            go_meet
            exact ⟨t, L, R, _, _, _, _, rfl, hRm, by omega, HPLY.out, HQ.out⟩
          · have hb1 : (at_.tmod 2 != 0) = true := by simpa using hodd
            have HQ8 : Hid (PQ w1 (w7.setCell ⟨b, 1, none⟩ (.slice none 0 0)) A6 g b b6 S t L t none 0 0 [] kd at_) := HQ.out.drop
            have hres := reset_w _ _ g S t L HQ8.out.ps.wat
            go_wp2_with fail
            refine hres.mono ?_
            rintro e w11 ⟨rfl, hW11, hk11⟩
            have HQ11 : Hid (PQ w1 w11 A6 g b b6 S t [] t none 0 0 [] kd at_) := HQ8.out.win hW11 hk11
            clear hres hW11 hk11
            go_wp2_with fail
            go_meet
            exact ⟨t, [], [], _, none, 0, 0, rfl, rfl, by omega, HPLY.out.reset, HQ11.out⟩
      case rest =>
        clear hmi hRm HPLY hq7
        obtain ⟨t2, L2, R2, A2, a2, m2, c2, rfl, hRm, hm2, hply, hq⟩ := hcut
        obtain ⟨c0, c1', c2', hl7⟩ := blk3 hq.ps.blk
        have hal := rall_any wc S t2 a2 m2 c2 R2 hq.ps.rd ⟨hply.s1, hply.s2⟩ hply.row.tk (by omega)
        rw [hply.eq] at hal
        have hLl := hply.len
        have HQ : Hid (PQ w1 wc A2 g b b6 S t2 L2 t2 a2 m2 c2 R2 kd at_) := hq
        have HPLY : Hid (Ply S t2 L2 R2 ∧ R2.length = m2) := ⟨hply, hRm⟩
        clear hq hply
        go_wp2_with fail
        refine hal.mono ?_
        rintro e w4 ⟨v4, rfl, ho4, hb4⟩
        have hq4 := HQ.out.same hb4
        obtain ⟨a4, s4, rfl, hi4, -⟩ := owns_ints ho4
        have h41 := hi4.hle
        have h42 := hi4.hcap
        unfold maxLen at h42
        have hla := last_w w4 _ g S t2 L2 hq4.ps.wat
        have HQ4 : Hid (PS w1 w4 A2 g b S t2 L2 t2 a2 m2 c2 R2 ∧ IntsAt w4 a4 L2.length s4 L2) := ⟨hq4.ps, hi4⟩
        clear hal ho4 hb4 hq4 hi4 c0 c1' c2' HQ
        go_wp2_with fail
        refine hla.mono ?_
        rintro e w5 ⟨rfl, q, rfl⟩
        have hdr : Below w4.heap.size w4 (w4.drewN q) := ⟨rfl, rfl, rfl, Nat.le_refl _, fun _ _ => rfl⟩
        have hps5 := HQ4.out.1.same hdr
        have hi5 := HQ4.out.2.below hdr
        have hlen := len_w (w4.drewN q) _ g S t2 L2 hps5.wat
        have HPS5 : Hid (PS w1 (w4.drewN q) A2 g b S t2 L2 t2 a2 m2 c2 R2) := hps5
        by_cases h0 : 0 < L2.length
        · obtain ⟨b5, o5, rfl, -, hc5⟩ := hi5.at_ (L2.length - 1) (by omega)
          rw [last_nth] at hc5
          have hd0 : decide (0 < L2.length) = true := decide_eq_true h0
          clear hla HQ4 hdr hps5 hi5
          generalize w4.drewN q = w5 at *
          generalize lastI L2 = la at *
          go_wp2_with (first | (go_at_call 20; refine hlen.mono ?_; rintro e w' ⟨rfl, hw'⟩; obtain rfl : w5 = w' := hw'.symm; clear hw'))
          exact ⟨⟨i + 1, t2, L2, R2, A2, a2, m2, c2, by simp, by omega, HPLY.out.2, by omega, HPLY.out.1, HPS5.out⟩, by simp [intOf]; omega⟩
        · obtain hL0 : L2 = [] := List.length_eq_zero_iff.1 (by omega)
          subst hL0
          clear hla HQ4 hdr hps5 hi5
          generalize w4.drewN q = w5 at *
          go_wp2_with (first | (go_at_call 20; refine hlen.mono ?_; rintro e w' ⟨rfl, hw'⟩; obtain rfl : w5 = w' := hw'.symm; clear hw'))
          exact ⟨⟨i + 1, t2, [], R2, A2, a2, m2, c2, by simp, by omega, HPLY.out.2, by omega, HPLY.out.1, HPS5.out⟩, by simp [intOf]; omega⟩
    · obtain rfl : n = i := by omega
      have HEND : Hid (Below w.heap.size w wr) := HB.out.trans (hps.keep.below HB.out.size (fun k hk => Nat.lt_of_lt_of_le hk HB.out.size))
      clear hps hc
      go_wp2
      go_ret
      exact ⟨rfl, HEND.out⟩

end Go.Proofs.Ytjnacpcdkkfdgaa
