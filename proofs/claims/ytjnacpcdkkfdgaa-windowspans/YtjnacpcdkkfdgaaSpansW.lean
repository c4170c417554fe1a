/-
  WindowSpans's walk: of the same ticks a longer window has no fewer of late; one that is reset is as a new one: it returns true and turns nothing that was there. Conditions: the slice lies where it is said to lie.
-/
import Derived.Test.YtjnacpcdkkfdgaaStrs
namespace Go.Proofs.Ytjnacpcdkkfdgaa
open Go.ChangeShapes Go.WideShapes Go.ChangeAt Go.RowKit

/-- Two windows that share no block; what lies below G is neither's. -/
structure Two (w1 w : World) (G g1 g2 : Nat) (s1 t1 : Int) (L1 : List Int) (s2 t2 : Int) (L2 : List Int) : Prop where
  ex : ∃ A B, WAt w A g1 s1 t1 L1 ∧ WAt w B g2 s2 t2 L2 ∧ (∀ k, k < w.heap.size → A k ∨ B k) ∧ (∀ k, k < G → A k ∧ B k)
  keep : Keep (fun k => k < G) w1 w

section
variable {w1 w w' : World} {G g1 g2 : Nat} {s1 t1 s2 t2 : Int} {L1 L2 : List Int}
theorem Two.fst (h : Two w1 w G g1 g2 s1 t1 L1 s2 t2 L2) : ∃ A, WAt w A g1 s1 t1 L1 ∧ ∀ w' t' L', WAt w' A g1 s1 t' L' → Keep A w w' → Two w1 w' G g1 g2 s1 t' L' s2 t2 L2 := by
  obtain ⟨A, B, h1, h2, h3, h4⟩ := h.ex
  refine ⟨A, h1, fun w' t' L' hW hk => ⟨⟨A, fun k => B k ∨ (w.heap.size ≤ k ∧ k < w'.heap.size), hW, ?_, fun k hk' => ?_, fun k hk' => ⟨(h4 k hk').1, .inl (h4 k hk').2⟩⟩, h.keep.trans (hk.mono fun k _ hk' => (h4 k hk').1)⟩⟩
  · refine h2.keep (hk.mono fun k hk' hb => (h3 k hk').resolve_right hb) (fun k hk' => hk'.imp id (fun h => h.1)) (fun k hk' => ?_)
    rcases hk' with h5 | h5
    · exact Nat.lt_of_lt_of_le (h2.guard k h5) hk.size
    · exact h5.2
  · by_cases h5 : k < w.heap.size
    · exact (h3 k h5).imp id .inl
    · exact .inr (.inr ⟨by omega, hk'⟩)
theorem Two.swap (h : Two w1 w G g1 g2 s1 t1 L1 s2 t2 L2) : Two w1 w G g2 g1 s2 t2 L2 s1 t1 L1 := by
  obtain ⟨A, B, h1, h2, h3, h4⟩ := h.ex
  exact ⟨⟨B, A, h2, h1, fun k hk => (h3 k hk).symm, fun k hk => (h4 k hk).symm⟩, h.keep⟩
theorem Two.snd (h : Two w1 w G g1 g2 s1 t1 L1 s2 t2 L2) : ∃ B, WAt w B g2 s2 t2 L2 ∧ ∀ w' t' L', WAt w' B g2 s2 t' L' → Keep B w w' → Two w1 w' G g1 g2 s1 t1 L1 s2 t' L' := by
  obtain ⟨B, h1, h2⟩ := h.swap.fst
  exact ⟨B, h1, fun w' t' L' hW hk => (h2 w' t' L' hW hk).swap⟩
theorem Two.make {A : Nat → Prop} (h : WAt w A g1 s1 t1 L1) (hA : ∀ k, k < G → A k) (hk : Keep (fun k => k < G) w1 w) (hW : WAt w' (fun k => k < w.heap.size) g2 s2 t2 L2) (hb : Below w.heap.size w w') (hG : G ≤ w.heap.size) : Two w1 w' G g1 g2 s1 t1 L1 s2 t2 L2 := by
  refine ⟨⟨fun k => A k ∨ (w.heap.size ≤ k ∧ k < w'.heap.size), fun k => k < w.heap.size, h.keep (keep_below hb) (fun k hk' => hk'.imp id (fun h => h.1)) (fun k hk' => ?_), hW, fun k hk' => ?_, fun k hk' => ⟨.inl (hA k hk'), by omega⟩⟩, hk.trans (keep_below hb)⟩
  · rcases hk' with h5 | h5
    · exact Nat.lt_of_lt_of_le (h.guard k h5) hb.size
    · exact h5.2
  · by_cases h5 : k < w.heap.size
    · exact .inr h5
    · exact .inl (.inr ⟨by omega, hk'⟩)
end

theorem one_left {s y : Int} (hs : 1 ≤ s) (hy : Tk y) : cntL s y [y] = [y] := by
  have h : Row [y] := Row.nil.snoc hy (fun _ h => by simp at h)
  rw [cnt_all hs hy h]
  exact all_own s y hs

set_option maxHeartbeats 4000000 in
set_option maxRecDepth 100000 in
theorem spans_ord (p q lo hi : Int) (hlo : (if q < p then q else p) = lo) (hhi : (if p < q then q else p) = hi) (hle : lo ≤ hi) (a1 : Option Addr) (l1 c1 : Nat) (zs : List Int) (w : World) (hz : IntsAt w a1 l1 c1 zs) :
    Calls Try.prog 7 #[.int .i64 p, .int .i64 q, .slice a1 l1 c1] w fun e w' => e = .returned (.bool true) ∧ Below w.heap.size w w' := by
  have q1 := hz.hle
  have q2 := hz.hcap
  unfold maxLen at q2
  have hss := span_mono hle
  have hs1 := span_lo lo
  have hs2 := span_lo hi
  go_enter Try.func7, Try.ntmps7
  go_wp2_with fail
  refine (lives_any _).mono ?_
  rintro e w1 ⟨rfl, hb1⟩
  go_wp2_with fail
  refine (new_any lo w1).mono ?_
  rintro e w2 ⟨rfl, hW2, hb2, -⟩
  go_wp2_with fail
  refine (new_any hi w2).mono ?_
  rintro e w3 ⟨rfl, hW3, hb3, -⟩
  have hTw : Two w1 w3 w1.heap.size w1.heap.size w2.heap.size (spanI lo) 0 [] (spanI hi) 0 [] := Two.make hW2 (fun _ h => h) (keep_below hb2) hW3 hb3 hb2.size
  have HZ : Hid (IntsAt w1 a1 l1 c1 zs) := hz.below hb1
  have HB : Hid (Below w.heap.size w w1) := hb1
  clear hz hb1 hb2 hb3 hW2 hW3
  generalize hg : w1.heap.size = g at *
  have HG : Hid (w1.heap.size = g) := hg
  clear hg
  generalize w2.heap.size = g2 at *
  generalize spanI lo = S1 at *
  obtain ⟨S2, hS2⟩ : ∃ S, spanI hi = S := ⟨_, rfl⟩
  have HS2 : Hid (spanI hi = S2) := hS2
  rw [hS2] at hTw hss hs2
  clear hS2 hle
  go_wp2
  go_loopw [9, 10] (fun va vi wr => ∃ (i : Nat) (y : Int) (own L M : List Int), vi = .int .i64 i ∧ va = .int .i64 y ∧ i ≤ l1 ∧ i ≤ 40 ∧ own.length = i ∧ y ≤ 29 * i ∧ 0 ≤ y ∧ Inv S1 own y L ∧ Inv S2 own y M ∧ Two w1 wr g g g2 S1 y L S2 y M) (fun _ vi _ => 40 - (intOf vi).toNat)
  case atStart => exact ⟨0, 0, [], [], [], rfl, rfl, Nat.zero_le _, by omega, rfl, by omega, by omega, Inv.nil hs1, Inv.nil hs2, hTw⟩
  case round =>
    clear hTw
    obtain ⟨i, y, own, L, M, rfl, rfl, hi1, hi2, hol, hy1, hy0, hI, hJ, hT⟩ := hrel
    by_cases hc : i < l1 ∧ i < 40
    · obtain ⟨hc1, hc2⟩ := hc
      have hzr := HZ.out.keep hT.keep (fun x _ hx => by rw [HG.out] at hx; exact hx)
      obtain ⟨b, off, rfl, hlt, hcell⟩ := hzr.at_ i hc1
      generalize zs.getD i 0 = z at hcell
      obtain ⟨v, hv⟩ : ∃ v, wrap64 ((IntKind.u64.wrap z).tmod 30) = v := ⟨_, rfl⟩
      have hvb := um_bd 30 z (by decide) (by decide)
      rw [hv] at hvb
      obtain ⟨hv0, hv1⟩ := hvb
      obtain ⟨Y, hY⟩ : ∃ Y, y + v = Y := ⟨_, rfl⟩
      have hY0 : y ≤ Y := by omega
      have hY1 : Y ≤ 29 * (i + 1 : Nat) := by omega
      obtain ⟨e1, e2, hI2⟩ := hI.add hY0 (by omega)
      obtain ⟨f1, f2, hJ2⟩ := hJ.add hY0 (by omega)
      have hl1 := hI.len
      have hl2 := hJ.len
      generalize hP : cntL S1 Y (L ++ [Y]) = P at hI2
      generalize hQ : cntL S2 Y (M ++ [Y]) = Q at hJ2
      have hP1 := hI2.pos
      have hPQ : P.length ≤ Q.length := by rw [hI2.eq, hJ2.eq]; exact all_span hss Y _
      have hP2 := hI2.len
      have hQ2 := hJ2.len
      rw [List.length_append] at hP2 hQ2
      simp at hP2 hQ2
      obtain ⟨A, hW, hT1⟩ := hT.fst
      have hadd := add_n wr A g S1 y L Y Y Y P P.length hW (by omega) e1 e2 hP rfl
      have HI : Hid (Inv S1 (own ++ [Y]) Y P ∧ Inv S2 (own ++ [Y]) Y Q) := ⟨hI2, hJ2⟩
      have HT1 : Hid (∀ w' t' L', WAt w' A g S1 t' L' → Keep A wr w' → Two w1 w' g g g2 S1 t' L' S2 y M) := hT1
      have HM : Hid (M.length ≤ 1000 ∧ max (cut Y) (lastI M) = Y ∧ max y (cut Y) = Y ∧ cntL S2 Y (M ++ [Y]) = Q) := ⟨by omega, f1, f2, hQ⟩
      clear hW hI hJ hI2 hJ2 hT hT1 hzr e1 e2 f1 f2 hP hQ hl1 hl2
      go_wp2_with fail
      refine hadd.mono ?_
      rintro e w3 ⟨rfl, hW3, hk3⟩
      have hT3 := HT1.out _ _ _ hW3 hk3
      obtain ⟨B, hV, hT2⟩ := hT3.snd
      have hadd2 := add_n w3 B g2 S2 y M Y Y Y Q Q.length hV HM.out.1 HM.out.2.1 HM.out.2.2.1 HM.out.2.2.2 rfl
      have HT2 : Hid (∀ w' t' L', WAt w' B g2 S2 t' L' → Keep B w3 w' → Two w1 w' g g g2 S1 Y P S2 t' L') := hT2
      clear hadd hW3 hk3 hT3 hT2 hV HT1 HM
      go_wp2_with fail
      refine hadd2.mono ?_
      rintro e w4 ⟨rfl, hW4, hk4⟩
      have hT4 := HT2.out _ _ _ hW4 hk4
      obtain ⟨A4, hWa, -⟩ := hT4.fst
      obtain ⟨B4, hWb, -⟩ := hT4.snd
      have hlen1 := len_w w4 A4 g S1 Y P hWa
      have hlen2 := len_w w4 B4 g2 S2 Y Q hWb
      have HT4 : Hid (Two w1 w4 g g g2 S1 Y P S2 Y Q) := hT4
      clear hadd2 hW4 hk4 hT4 HT2 hWa hWb
      go_wp2_with fail
      refine hlen1.mono ?_
      rintro e w' ⟨rfl, hw'⟩
      obtain rfl : w4 = w' := hw'.symm
      clear hlen1 hw'
      go_wp2_with fail
      refine hlen2.mono ?_
      rintro e w' ⟨rfl, hw'⟩
      obtain rfl : w4 = w' := hw'.symm
      clear hlen2 hw'
      go_wp2
      exact ⟨⟨i + 1, Y, own ++ [Y], P, Q, by simp, rfl, by omega, by omega, by simp [hol], hY1, by omega, HI.out.1, HI.out.2, HT4.out⟩, by simp [intOf]; omega⟩
    · have hexit : (i = 40 ∧ 40 < l1) ∨ l1 = i := by omega
      have hytk : Tk y := ⟨hy0, by omega⟩
      have hcy := hytk.cut
      obtain ⟨B, hV, -⟩ := hT.snd
      obtain ⟨A0, B0, -, hV0, -, hB0⟩ := hT.ex
      have hres := reset_w wr B0 g2 S2 y M hV0
      have HK : Hid (Keep (fun k => k < g) w1 wr ∧ (∀ k, k < g → B0 k)) := ⟨hT.keep, fun k hk => (hB0 k hk).2⟩
      have HE : Hid (1 ≤ S2 ∧ Tk y ∧ cut y = y ∧ max y (cut y) = y ∧ max 0 (cut y) = y ∧ max (cut y) (lastI []) = y ∧ cntL S2 y [y] = [y]) := ⟨hs2, hytk, hcy, by omega, by omega, by show max (cut y) 0 = y; omega, one_left hs2 hytk⟩
      clear hc hI hJ hT hV hV0 hB0 HZ hcy hytk hol
      rcases hexit with ⟨rfl, h1⟩ | rfl
      all_goals (
        go_wp2_with fail
        refine hres.mono ?_
        rintro e w3 ⟨rfl, hW3, hk3⟩
        have hk13 : Keep (fun k => k < g) w1 w3 := HK.out.1.trans (hk3.mono fun k _ hk => HK.out.2 k hk)
        have hg3 : g ≤ w3.heap.size := by have := hk13.size; have := HG.out; omega
        have HW3 : Hid (WAt w3 B0 g2 S2 y [] ∧ Keep (fun k => k < g) w1 w3 ∧ g ≤ w3.heap.size) := ⟨hW3, hk13, hg3⟩
        clear hres hW3 hk3 hk13 hg3
        go_wp2_with fail
        refine (new_any hi w3).mono ?_
        rintro e w4 ⟨rfl, hW4, hb4, -⟩
        rw [HS2.out] at hW4
        have hT4 : Two w1 w4 g g2 w3.heap.size S2 y [] S2 0 [] := Two.make HW3.out.1 HK.out.2 HW3.out.2.1 hW4 hb4 HW3.out.2.2
        generalize w3.heap.size = g3 at *
        obtain ⟨A4, hWa, -⟩ := hT4.fst
        have HT4 : Hid (Two w1 w4 g g2 g3 S2 y [] S2 0 []) := hT4
        clear hW4 hb4 hT4 HW3 HK
        go_wp2_with fail
        refine (last_none w4 A4 g2 S2 y hWa).mono ?_
        rintro e w' ⟨rfl, hw'⟩
        obtain rfl : w4 = w' := hw'.symm
        go_wp2_with fail
        refine (len_w w4 A4 g2 S2 y [] hWa).mono ?_
        rintro e w' ⟨rfl, hw'⟩
        obtain rfl : w4 = w' := hw'.symm
        clear hWa hw'
        obtain ⟨A5, hWb, hT5⟩ := HT4.out.fst
        go_wp2_with fail
        refine (count_n w4 A5 g2 S2 y [] y y [] 0 hWb (by decide) HE.out.2.2.2.1 rfl rfl).mono ?_
        rintro e w5 ⟨rfl, hW5, hk5⟩
        obtain ⟨B5, hWc, hT6⟩ := (hT5 _ _ _ hW5 hk5).snd
        clear hW5 hk5 hWb hT5
        go_wp2_with fail
        refine (count_n w5 B5 g3 S2 0 [] y y [] 0 hWc (by decide) HE.out.2.2.2.2.1 rfl rfl).mono ?_
        rintro e w6 ⟨rfl, hW6, hk6⟩
        obtain ⟨A6, hWd, hT7⟩ := (hT6 _ _ _ hW6 hk6).fst
        clear hW6 hk6 hWc hT6
        go_wp2_with fail
        refine (add_n w6 A6 g2 S2 y [] y y y [y] 1 hWd (by decide) HE.out.2.2.2.2.2.1 HE.out.2.2.2.1 HE.out.2.2.2.2.2.2 rfl).mono ?_
        rintro e w7 ⟨rfl, hW7, hk7⟩
        obtain ⟨B7, hWe, hT8⟩ := (hT7 _ _ _ hW7 hk7).snd
        clear hW7 hk7 hWd hT7
        go_wp2_with fail
        refine (add_n w7 B7 g3 S2 y [] y y y [y] 1 hWe (by decide) HE.out.2.2.2.2.2.1 HE.out.2.2.2.1 HE.out.2.2.2.2.2.2 rfl).mono ?_
        rintro e w8 ⟨rfl, hW8, hk8⟩
        have HK8 : Hid (Keep (fun k => k < g) w1 w8) := (hT8 _ _ _ hW8 hk8).keep
        clear hW8 hk8 hWe hT8 HT4
        go_wp2
        go_ret
        exact ⟨rfl, HB.out.trans (HK8.out.below HB.out.size (fun k hk => by have := HB.out.size; have := HG.out; omega))⟩)

theorem spans_walk (p q : Int) (a1 : Option Addr) (l1 c1 : Nat) (zs : List Int) (w : World) (hz : IntsAt w a1 l1 c1 zs) :
    Calls Try.prog 7 #[.int .i64 p, .int .i64 q, .slice a1 l1 c1] w fun e w' => e = .returned (.bool true) ∧ Below w.heap.size w w' :=
  spans_ord p q _ _ rfl rfl (by split <;> split <;> omega) a1 l1 c1 zs w hz

end Go.Proofs.Ytjnacpcdkkfdgaa
