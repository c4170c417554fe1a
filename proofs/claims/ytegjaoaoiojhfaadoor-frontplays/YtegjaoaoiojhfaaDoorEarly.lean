/-
  What kind and early answer: a step's kind, below 6; the first 100 steps, each frame's data cut to its first 10 bytes. Conditions: the steps lie where they are said to lie.
-/
import Derived.Test.YtegjaoaoiojhfaaDoorStrs
import Derived.Deep.AppendLies
namespace Go.Proofs.YtegjaoaoiojhfaaDoor
open Go.ChangeShapes Go.WideShapes Go.ChangeAt Go.RowKit

theorem um_bd (m z : Int) (h0 : 0 < m) (h1 : m ≤ 1000000) : 0 ≤ wrap64 ((IntKind.u64.wrap z).tmod m) ∧ wrap64 ((IntKind.u64.wrap z).tmod m) < m := by
  have e : IntKind.u64.wrap z = z % 18446744073709551616 := by simp [IntKind.wrap, IntKind.signed, IntKind.bits]
  have hnn : 0 ≤ z % 18446744073709551616 := Int.emod_nonneg _ (by decide)
  rw [e, Int.tmod_eq_emod_of_nonneg hnn]
  have a1 := Int.emod_nonneg (z % 18446744073709551616) (show m ≠ 0 by omega)
  have a2 := Int.emod_lt_of_pos (z % 18446744073709551616) h0
  generalize z % 18446744073709551616 % m = y at a1 a2
  have e2 : wrap64 y = y := by
    unfold wrap64
    omega
  rw [e2]
  exact ⟨a1, a2⟩

def kindI (k : Int) : Int := wrap64 ((IntKind.u64.wrap k).tmod 6)
theorem kindI_of (k : Int) : kindI k = 0 ∨ kindI k = 1 ∨ kindI k = 2 ∨ kindI k = 3 ∨ kindI k = 4 ∨ kindI k = 5 := by
  have := um_bd 6 k (by decide) (by decide)
  unfold kindI
  omega

theorem kind_any (a b : Int) (c : ByteArray) (w : World) : Calls Tryd.prog 12 #[.agg #[.int .i64 a, .int .i64 b, .string c]] w fun e w' => e = .returned (.int .i64 (kindI a)) ∧ Below w.heap.size w w' := by
  go_enter Tryd.func12, Tryd.ntmps12
  go_wp2
  go_ret
  exact ⟨rfl, (Below.refl _ _).alloc (Nat.le_refl _) _⟩

/-- A step with the first 10 bytes of its frame's data. -/
def tr (s : Stp) : Stp := ⟨s.kd, s.k, s.s.extract 0 (min s.s.size 10)⟩
def trs (l : List Stp) : List Stp := l.map tr
theorem trs_length (l : List Stp) : (trs l).length = l.length := List.length_map _
theorem trs_snoc {l : List Stp} {i : Nat} (h : i < l.length) : trs (l.take (i + 1)) = trs (l.take i) ++ [tr (l.getD i s0)] := by
  unfold trs
  rw [List.take_add_one, List.map_append]
  simp [List.getD, h]
/-- Steps as cells. -/
def sf : List Stp → List Value
  | [] => []
  | s :: l => cc s ++ sf l
theorem sf_append : ∀ l m, sf (l ++ m) = sf l ++ sf m
  | [], _ => rfl
  | s :: l, m => by simp [sf, sf_append l m]
theorem sf_length : ∀ l, (sf l).length = l.length * 3
  | [] => rfl
  | s :: l => by
    have := sf_length l
    simp [sf, cc, this]
    omega
theorem sf_get : ∀ (l : List Stp) (j i : Nat) (u : Value), j < l.length → i < 3 → (cc (l.getD j s0))[i]? = some u → (sf l)[j * 3 + i]? = some u
  | [], j, i, u, h, _, _ => by simp at h
  | s :: l, 0, i, u, h, hi, hu => by
    have : i < (cc s).length := hi
    simp only [sf, Nat.zero_mul, Nat.zero_add]
    rw [List.getElem?_append_left this]
    simpa using hu
  | s :: l, j + 1, i, u, h, hi, hu => by
    have e1 : (j + 1) * 3 + i = (cc s).length + (j * 3 + i) := by simp [cc]; omega
    simp only [sf]
    rw [e1, List.getElem?_append_right (by omega), Nat.add_sub_cancel_left]
    exact sf_get l j i u (by simpa using h) hi (by simpa using hu)
theorem cc_one (s : Stp) : ∀ u ∈ cc s, u.oneCell' = true := by
  intro u hu
  simp [cc] at hu
  rcases hu with rfl | rfl | rfl <;> rfl

set_option maxHeartbeats 2000000 in
set_option maxRecDepth 100000 in
theorem early_own (a : Option Addr) (len cap n : Nat) (ss : List Stp) (w : World) (h : StepsAt w a len cap ss) (hn : min len 100 = n) :
    Calls Tryd.prog 11 #[.slice a len cap] w fun e w' => ∃ v, e = .returned v ∧ w'.ownsRow w.heap.size 33 3 v n (sf (trs (ss.take n))) ∧ Below w.heap.size w w' := by
  obtain ⟨i0, hi, hz0, hz1, hz2⟩ := info_parts info33
  have hle := h.hle
  have hcap := h.hcap
  unfold maxLen at hcap
  have HL := Hid.mk' h.hlen
  have H : Hid (StepsAt w a len cap ss) := h
  have hn1 : n ≤ len := by omega
  have hn2 : n ≤ 100 := by omega
  have hn3 : len = n ∨ n = 100 := by omega
  clear h hn
  go_enter Tryd.func11, Tryd.ntmps11
  go_wp2
  go_loopw [4, 3] (fun v4 v wr => ∃ i : Nat, v4 = .int .i64 i ∧ i ≤ n ∧ wr.ownsRow w.heap.size 33 3 v i (sf (trs (ss.take i))) ∧ Below w.heap.size w wr) (fun v4 _ _ => n + 1 - (intOf v4).toNat)
  case atStart => exact ⟨0, rfl, Nat.zero_le _, by simpa [trs, sf] using World.ownsRow_nil _ _ _ _, Below.refl _ _⟩
  case round =>
    obtain ⟨i, rfl, hin0, hown, hbel⟩ := hrel
    by_cases hin : i < n
    · obtain ⟨b, off, rfl, hb, hcc, hsz⟩ := (H.out.below hbel).rd i (by omega)
      have x0 := hcc 0 _ rfl
      have x1 := hcc 1 _ rfl
      have x2 := hcc 2 _ rfl
      rw [Nat.add_zero] at x0
      have HS := Hid.mk' (trs_snoc (l := ss) (i := i) (by rw [HL.out]; omega))
      obtain ⟨⟨kd, k, s⟩, hst⟩ : ∃ q, ss.getD i s0 = q := ⟨_, rfl⟩
      rw [hst] at x0 x1 x2 hsz HS
      dsimp only at x0 x1 x2 hsz
      obtain ⟨m, hm⟩ : ∃ m : Nat, (if (10 : Int) < (s.size : Int) then (10 : Int) else (s.size : Int)) = (m : Int) := ⟨min s.size 10, by split <;> omega⟩
      have hm1 : m = min s.size 10 := by split at hm <;> omega
      have hm2 : m ≤ s.size := by omega
      have HT2 : Hid (cc (tr ⟨kd, k, s⟩) = [.int .i64 kd, .int .i64 k, .string (s.extract 0 m)]) := by rw [hm1]; rfl
      clear hst hcc hm1
      obtain ⟨av, cv, rfl⟩ : ∃ av cv, u3 = .slice av i cv := by
        rcases hown.2 with ⟨e, e2⟩ | ⟨g, cap, cur, e, _⟩
        · exact ⟨_, _, by rw [e, e2]⟩
        · exact ⟨_, _, e⟩
      have hi1 : (i : Int) < 100 := by omega
      have hi2 : (i : Int) < (len : Int) := by omega
      unfold maxLen at hsz
      go_upto_region 7 with fail
      generalize s.extract 0 m = T at *
      have hw1 : Below w.heap.size w (wr.alloc (.cells #[.int .i64 kd, .int .i64 k, .string T] 33)) := hbel.alloc hbel.size _
      have ho1 := hown.alloc (.cells #[.int .i64 kd, .int .i64 k, .string T] 33)
      have hnw : Hid (∀ j u, [Value.int .i64 kd, .int .i64 k, .string T][j]? = some u → ((wr.alloc (.cells #[.int .i64 kd, .int .i64 k, .string T] 33)).alloc (.cells #[.int .i64 kd, .int .i64 k, .string T] 33)).cell? ((⟨wr.heap.size + 1, 0, none⟩ : Addr).add j) = some u) := by
        have hh := World.news_of_block (heap_alloc_new (wr.alloc (.cells #[.int .i64 kd, .int .i64 k, .string T] 33)) (.cells #[.int .i64 kd, .int .i64 k, .string T] 33))
        rw [World.size_alloc] at hh
        exact hh
      have h1c : Hid (∀ u ∈ [Value.int .i64 kd, .int .i64 k, .string T], u.oneCell' = true) := by
        have := cc_one (tr ⟨kd, k, s⟩)
        rwa [HT2.out] at this
      clear hown hm hm2
      go_wp2_with (first
        | (at_builtin; refine wpList_append_own _ rfl _ _ 22 rfl w.heap.size 33 i0 _ 3 32 Tryd.underlying22 hi hz0 hz1 hz2 rfl (by decide) _ i _ rfl (ho1.alloc _) ⟨wr.heap.size + 1, 0, none⟩ 1 1 [.int .i64 kd, .int .i64 k, .string T] rfl rfl hnw.out h1c.out (by unfold maxLen; omega) (by omega) (by have := hbel.size; simp; omega) ?_))
      intro v3 w3 hown3 hgrow3 _
      have hbel3 : Below w.heap.size w w3 := (hw1.alloc hw1.size _).grown hgrow3 (by have := hw1.size; simp at this; simp; omega) (fun j hj => (ho1.lt j hj).1)
      have hown4 : w3.ownsRow w.heap.size 33 3 v3 (i + 1) (sf (trs (ss.take (i + 1)))) := by
        rw [HS.out, sf_append]
        simp only [sf, List.append_nil]
        rw [HT2.out]
        exact hown3
      clear hown3 hgrow3 ho1 hbel hw1
      go_wp2
      exact ⟨⟨i + 1, by simp, by omega, hown4, hbel3⟩, by simp [intOf]; omega⟩
    · obtain rfl : n = i := by omega
      by_cases hlt : n < len
      · have h80 : ¬ (n : Int) < 100 := by omega
        have hlt' : (n : Int) < (len : Int) := by omega
        go_wp2
        go_ret
        exact ⟨_, rfl, hown, hbel⟩
      · go_wp2
        go_ret
        exact ⟨_, rfl, hown, hbel⟩

/-- The steps that early hands back, cell by cell. -/
theorem own_steps {w : World} {base n : Nat} {v : Value} {ts : List Stp} (h : w.ownsRow base 33 3 v n (sf ts)) (hn : ts.length = n) :
    ∃ a cap, v = .slice a n cap ∧ n ≤ cap ∧ cap ≤ maxLen ∧ ∀ j, j < n → ∃ g, a = some ⟨g, 0, none⟩ ∧ base ≤ g ∧ g < w.heap.size ∧ w.cell? ⟨g, j * 3, none⟩ = some (.int .i64 (ts.getD j s0).kd) ∧ w.cell? ⟨g, j * 3 + 1, none⟩ = some (.int .i64 (ts.getD j s0).k) ∧ w.cell? ⟨g, j * 3 + 2, none⟩ = some (.string (ts.getD j s0).s) := by
  have h0 := h
  obtain ⟨hl, hcase⟩ := h
  rcases hcase with ⟨rfl, rfl⟩ | ⟨g, cap, cur, rfl, hbg, hg, hnc, hcap, _, _⟩
  · exact ⟨_, _, rfl, Nat.le_refl _, Nat.zero_le _, fun j hj => absurd hj (Nat.not_lt_zero _)⟩
  · refine ⟨_, _, rfl, hnc, hcap, fun j hj => ⟨g, rfl, hbg, (Array.getElem?_eq_some_iff.1 hg).1, ?_, ?_, ?_⟩⟩
    · have := h0.cells (g := g) rfl (j * 3 + 0) _ (sf_get ts j 0 _ (by omega) (by decide) rfl)
      have e0 : ((⟨g, 0, none⟩ : Addr).add (j * 3 + 0)) = ⟨g, j * 3, none⟩ := by unfold Addr.add; split <;> simp_all
      rw [e0] at this
      exact this
    · have := h0.cells (g := g) rfl (j * 3 + 1) _ (sf_get ts j 1 _ (by omega) (by decide) rfl)
      have e0 : ((⟨g, 0, none⟩ : Addr).add (j * 3 + 1)) = ⟨g, j * 3 + 1, none⟩ := by unfold Addr.add; split <;> simp_all
      rw [e0] at this
      exact this
    · have := h0.cells (g := g) rfl (j * 3 + 2) _ (sf_get ts j 2 _ (by omega) (by decide) rfl)
      have e0 : ((⟨g, 0, none⟩ : Addr).add (j * 3 + 2)) = ⟨g, j * 3 + 2, none⟩ := by unfold Addr.add; split <;> simp_all
      rw [e0] at this
      exact this

end Go.Proofs.YtegjaoaoiojhfaaDoor
