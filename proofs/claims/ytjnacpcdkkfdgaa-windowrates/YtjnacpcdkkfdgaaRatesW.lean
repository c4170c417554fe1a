/-
  WindowRates's walk: it returns true and turns nothing that was there. Conditions: the slice lies where it is said to lie.
-/
import Derived.Test.YtjnacpcdkkfdgaaRateC
import Derived.Test.YtjnacpcdkkfdgaaApp
namespace Go.Proofs.Ytjnacpcdkkfdgaa
open Go.ChangeShapes Go.WideShapes Go.ChangeAt Go.RowKit

/-- A window, and a row of ints of the walk's own beside it. -/
structure Bes (w1 w : World) (G g : Nat) (s t : Int) (L : List Int) (v : Value) (n : Nat) (own : List Int) : Prop where
  ex : ∃ A, WAt w A g s t L ∧ (∀ k, k < G → A k) ∧ (∀ k, v.ownBlock = some k → A k)
  row : w.ownsRow G 3 1 v n (ic own)
  keep : Keep (fun k => k < G) w1 w

section
variable {w1 w w' : World} {G g : Nat} {s t : Int} {L : List Int} {v : Value} {n : Nat} {own : List Int}
theorem Bes.win (h : Bes w1 w G g s t L v n own) : ∃ A, WAt w A g s t L ∧ ∀ w' t' L', WAt w' A g s t' L' → Keep A w w' → Bes w1 w' G g s t' L' v n own := by
  obtain ⟨A, h1, h2, h3⟩ := h.ex
  exact ⟨A, h1, fun w' t' L' hW hk => ⟨⟨A, hW, h2, h3⟩, owns_keep h.row hk h3, h.keep.trans (hk.mono fun k _ hk' => h2 k hk')⟩⟩
theorem Bes.push {wa w3 : World} {gg cp : Nat} {x : Int} (h : Bes w1 w G g s t L v n own) (hk : Keep (fun _ => True) w wa) (hgr : wa.grownBy w3 v.ownBlock) (hown : w3.ownsRow G 3 1 (.slice (some ⟨gg, 0, none⟩) (n + 1) cp) (n + 1) (ic own ++ [.int .i64 x])) (hat : v.ownBlock = some gg ∨ gg = wa.heap.size) :
    Bes w1 w3 G g s t L (.slice (some ⟨gg, 0, none⟩) (n + 1) cp) (n + 1) (own ++ [x]) := by
  obtain ⟨A, h1, h2, h3⟩ := h.ex
  have k1 : Keep (fun k => v.ownBlock ≠ some k) wa w3 := keep_grown hgr (fun k e hn => hn e)
  have hkA : Keep (fun k => ¬ A k) w w3 := (hk.mono fun _ _ _ => trivial).trans (k1.mono fun k _ hk' e => hk' (h3 k e))
  have hkG : Keep (fun k => k < G) w w3 := (hk.mono fun _ _ _ => trivial).trans (k1.mono fun k _ hk' e => by have := (h.row.lt k e).1; omega)
  have hs := hk.size
  have hlt := (hown.lt gg rfl).2
  refine ⟨⟨fun k => A k ∨ (w.heap.size ≤ k ∧ k < w3.heap.size), h1.keep hkA (fun k hk' => hk'.imp id (fun h => h.1)) (fun k hk' => ?_), fun k hk' => .inl (h2 k hk'), fun k e => ?_⟩, ?_, h.keep.trans hkG⟩
  · rcases hk' with h5 | h5
    · exact Nat.lt_of_lt_of_le (h1.guard k h5) hkA.size
    · exact h5.2
  · have e3 : gg = k := by simpa [Value.ownBlock] using e
    subst e3
    rcases hat with h5 | h5
    · exact .inl (h3 _ h5)
    · exact .inr ⟨by omega, hlt⟩
  · have e1 : ic (own ++ [x]) = ic own ++ [.int .i64 x] := by simp [ic]
    rw [e1]
    exact hown
end

set_option maxHeartbeats 1000000 in
set_option maxRecDepth 100000 in
theorem rates_walk (a : Option Addr) (len cap : Nat) (zs : List Int) (sp now : Int) (w : World) (hz : IntsAt w a len cap zs) :
    Calls Try.prog 4 #[.slice a len cap, .int .i64 sp, .int .i64 now] w fun e w' => e = .returned (.bool true) ∧ Below w.heap.size w w' := by
  have q1 := hz.hle
  have q2 := hz.hcap
  unfold maxLen at q2
  obtain ⟨n, hn⟩ : ∃ n, min len 40 = n := ⟨_, rfl⟩
  have hn2 : (if (40 : Int) < (len : Int) then (40 : Int) else (len : Int)) = (n : Int) := by split <;> omega
  have hn3 : n ≤ 40 := by omega
  have hn4 : n ≤ len := by omega
  have hnc : n ≤ cap := by omega
  have hzn := hz.take hn4
  generalize zs.take n = ys at hzn
  have hs1 := span_lo sp
  clear hn hz
  go_enter Try.func4, Try.ntmps4
  go_wp2_with fail
  refine (lives_any _).mono ?_
  rintro e w1 ⟨rfl, hb1⟩
  have hz1' := hzn.below hb1
  have hra := rate_any a n cap ys sp now w1 hz1'
  have hrb := rrate_any a n cap ys sp now w1 hz1'
  have HZ : Hid (IntsAt w1 a n cap ys) := hz1'
  have HB : Hid (Below w.heap.size w w1) := hb1
  clear hzn hz1' hb1
  go_wp2_with (first
    | (go_at_call 21; refine hra.mono ?_; rintro e w' ⟨rfl, hw'⟩; obtain rfl : w1 = w' := hw'.symm)
    | (go_at_call 22; refine hrb.mono ?_; rintro e w' ⟨rfl, hw'⟩; obtain rfl : w1 = w' := hw'.symm)
    | (go_at_call 9; fail))
  refine (new_any sp w1).mono ?_
  rintro e w2 ⟨rfl, hW2, hb2, -⟩
  have hBe : Bes w1 w2 w1.heap.size w1.heap.size (spanI sp) 0 [] (.slice none 0 0) 0 [] := ⟨⟨_, hW2, fun _ h => h, fun k e => by simp [Value.ownBlock] at e⟩, World.ownsRow_nil _ _ _ _, keep_below hb2⟩
  clear hra hrb hW2 hb2 hn2
  generalize hg : w1.heap.size = g at *
  have HG : Hid (w1.heap.size = g) := hg
  clear hg
  generalize hS : spanI sp = S at *
  have HS : Hid (spanI sp = S) := hS
  clear hS
  go_wp2
  go_loopw [8, 9, 10] (fun va vo vi wr => ∃ (i : Nat) (y : Int) (own L : List Int), vi = .int .i64 i ∧ va = .int .i64 y ∧ i ≤ n ∧ own.length = i ∧ Inv S own y L ∧ Bes w1 wr g g S y L vo i own) (fun _ _ vi _ => n - (intOf vi).toNat)
  case atStart => exact ⟨0, 0, [], [], rfl, rfl, Nat.zero_le _, rfl, Inv.nil hs1, hBe⟩
  case round =>
    clear hBe
    obtain ⟨i, y, own, L, rfl, rfl, hi1, hol, hI, hBe⟩ := hrel
    by_cases hc : i < n
    · have hzr := HZ.out.keep hBe.keep (fun x _ hx => by rw [HG.out] at hx; exact hx)
      obtain ⟨b, off, rfl, hlt, hcell⟩ := hzr.at_ i hc
      generalize ys.getD i 0 = z at hcell
      obtain ⟨v, hv⟩ : ∃ v, wrap64 ((IntKind.u64.wrap z).tmod 50) = v := ⟨_, rfl⟩
      obtain ⟨hY0, hY1⟩ := addI_ge hI.tk v
      have hadd1 := radd_any y v
      obtain ⟨Y, hY⟩ : ∃ Y, addI y v = Y := ⟨_, rfl⟩
      rw [hY] at hY0 hY1 hadd1
      obtain ⟨e1, e2, hI2⟩ := hI.add hY0 hY1
      have hLl := hI.len
      generalize hM : cntL S Y (L ++ [Y]) = M at hI2
      have hrow := hBe.row
      have hgl : g ≤ wr.heap.size := by have := hBe.keep.size; have := HG.out; omega
      have HE : Hid (Bes w1 wr g g S y L u9 i own ∧ max (cut Y) (lastI L) = Y ∧ max y (cut Y) = Y ∧ cntL S Y (L ++ [Y]) = M ∧ Inv S (own ++ [Y]) Y M ∧ L.length ≤ 1000) := ⟨hBe, e1, e2, hM, hI2, by omega⟩
      clear hBe hI hI2 hzr e1 e2 hM hY hLl
      go_wp2_with (first
        | (go_at_call 23; refine (hadd1 _).mono ?_; rintro e w' ⟨rfl, hw'⟩; obtain rfl : wr = w' := hw'.symm; clear hw')
        | (at_builtin; refine wpList_int rfl _ _ rfl g u9 i own Y rfl wr hrow rfl ((Keep.refl _ wr).alloc _) (heap_alloc_new _ _) (by omega) hgl ?_; intro gg cp w3 hown3 hgrow hat)
        | (go_at_call 14; fail))
      have hB3 := HE.out.1.push ((Keep.refl _ wr).alloc _) hgrow hown3 hat
      obtain ⟨A, hW, hB4⟩ := hB3.win
      obtain ⟨-, f1, f2, f3, f4, f5⟩ := HE.out
      have HI : Hid (Inv S (own ++ [Y]) Y M) := f4
      have HB4 : Hid (∀ w' t' L', WAt w' A g S t' L' → Keep A w3 w' → Bes w1 w' g g S t' L' (.slice (some ⟨gg, 0, none⟩) (i + 1) cp) (i + 1) (own ++ [Y])) := hB4
      have hadd := add_n w3 A g S y L Y Y Y M M.length hW f5 f1 f2 f3 rfl
      clear hown3 hgrow hat hB3 hW hB4 HE f1 f2 f3 f4 f5 hrow hadd1
      refine hadd.mono ?_
      rintro e w4 ⟨rfl, hW4, hk4⟩
      have HB5 : Hid (Bes w1 w4 g g S Y M (.slice (some ⟨gg, 0, none⟩) (i + 1) cp) (i + 1) (own ++ [Y])) := HB4.out _ _ _ hW4 hk4
      clear hadd hW4 hk4 HB4
      go_wp2
      exact ⟨⟨i + 1, Y, own ++ [Y], M, by simp, rfl, by omega, by simp [hol], HI.out, HB5.out⟩, by simp [intOf]; omega⟩
    · obtain rfl : n = i := by omega
      obtain ⟨hY0, hY1⟩ := addI_ge hI.tk now
      have hadd1 := radd_any y now
      obtain ⟨Y, hY⟩ : ∃ Y, addI y now = Y := ⟨_, rfl⟩
      rw [hY] at hY0 hY1 hadd1
      obtain ⟨e2, hI2⟩ := hI.count hY0 hY1
      have hLl := hI.len
      generalize hM : cntL S Y L = M at hI2
      have hrt : rateL S Y own = M.length := by rw [hI2.eq]; exact rate_all hs1 hI2.tk hI2.row.tk
      obtain ⟨A, hW, hB4⟩ := hBe.win
      have hcnt := count_n wr A g S y L Y Y M M.length hW (by omega) e2 hM rfl
      have HB4 : Hid (∀ w' t' L', WAt w' A g S t' L' → Keep A wr w' → Bes w1 w' g g S t' L' u9 n own) := hB4
      have HRT : Hid (rateL S Y own = M.length) := hrt
      clear hc hI hI2 hBe hB4 hW e2 hM hY hrt HZ
      go_wp2_with (first
        | (go_at_call 23; refine (hadd1 _).mono ?_; rintro e w' ⟨rfl, hw'⟩; obtain rfl : wr = w' := hw'.symm; clear hw')
        | (go_at_call 16; fail))
      refine hcnt.mono ?_
      rintro e w4 ⟨rfl, hW4, hk4⟩
      have hB5 := HB4.out _ _ _ hW4 hk4
      obtain ⟨a5, c5, rfl, hi5, -⟩ := owns_ints hB5.row
      have hra := rate_any a5 n c5 own sp Y w4 hi5
      rw [HS.out, HRT.out] at hra
      have HK5 : Hid (Keep (fun k => k < g) w1 w4) := hB5.keep
      clear hcnt hW4 hk4 HB4 hB5 hi5
      go_wp2_with (first | (go_at_call 21; refine hra.mono ?_; rintro e w' ⟨rfl, rfl⟩))
      go_ret
      exact ⟨rfl, HB.out.trans (HK5.out.below HB.out.size (fun k hk => by have := HB.out.size; have := HG.out; omega))⟩

end Go.Proofs.Ytjnacpcdkkfdgaa
