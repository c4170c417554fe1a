/-
  What kind and early answer: a step's kind, below 8; the first 80 steps, each name cut to its first 20 bytes. Conditions: the steps lie where they are said to lie.
-/
import Derived.Test.YtmlkpfkeeifgeaaDoorSteps
import Derived.Deep.AppendLies
import Derived.Test.YtmlkpfkeeifgeaaDoorMem
namespace Go.Proofs.YtmlkpfkeeifgeaaDoor
open Go.ChangeShapes Go.WideShapes Go.ChangeAt Go.RowKit

def kindI (k : Int) : Int := wrap64 ((IntKind.u64.wrap k).tmod 8)
theorem kindI_of (k : Int) : kindI k = 0 ∨ kindI k = 1 ∨ kindI k = 2 ∨ kindI k = 3 ∨ kindI k = 4 ∨ kindI k = 5 ∨ kindI k = 6 ∨ kindI k = 7 := by
  have := um_bd 8 k (by decide) (by decide)
  unfold kindI
  omega

theorem kind_step (a b : Int) (c d : Value) (w : World) : Calls Tryd.prog 19 #[.agg #[.int .i64 a, .int .i64 b, c, d]] w fun e w' => e = .returned (.int .i64 (kindI a)) ∧ Below w.heap.size w w' := by
  go_enter Tryd.func19, Tryd.ntmps19
  go_wp2
  go_ret
  exact ⟨rfl, (Below.refl _ _).alloc (Nat.le_refl _) _⟩

/-- A step with the first 20 bytes of its name. -/
def tr (s : Stp) : Stp := ⟨s.kd, s.n, if s.nm.size ≤ 20 then s.nm else s.nm.extract 0 20, s.ma, min s.ml 20, s.mc, s.ms.take 20⟩
theorem tr_size (s : Stp) : (tr s).nm.size ≤ 20 := by
  unfold tr
  simp only
  split
  · assumption
  · rw [ByteArray.size_extract]
    omega
def trs (l : List Stp) : List Stp := l.map tr
theorem trs_length (l : List Stp) : (trs l).length = l.length := List.length_map _
theorem trs_snoc {l : List Stp} {i : Nat} (h : i < l.length) : trs (l.take (i + 1)) = trs (l.take i) ++ [tr (l.getD i s0)] := by
  unfold trs
  rw [List.take_add_one, List.map_append]
  simp [List.getD, h]
/-- Steps as cells. -/
def sf : List Stp → List Value
  | [] => []
  | s :: l => cc s ++ sf l
theorem sf_append : ∀ l m, sf (l ++ m) = sf l ++ sf m
  | [], _ => rfl
  | s :: l, m => by simp [sf, sf_append l m]
theorem sf_length : ∀ l, (sf l).length = l.length * 4
  | [] => rfl
  | s :: l => by
    have := sf_length l
    simp [sf, cc, this]
    omega
theorem sf_get : ∀ (l : List Stp) (j i : Nat) (u : Value), j < l.length → i < 4 → (cc (l.getD j s0))[i]? = some u → (sf l)[j * 4 + i]? = some u
  | [], j, i, u, h, _, _ => by simp at h
  | s :: l, 0, i, u, h, hi, hu => by
    have : i < (cc s).length := hi
    simp only [sf, Nat.zero_mul, Nat.zero_add]
    rw [List.getElem?_append_left this]
    simpa using hu
  | s :: l, j + 1, i, u, h, hi, hu => by
    have e1 : (j + 1) * 4 + i = (cc s).length + (j * 4 + i) := by simp [cc]; omega
    simp only [sf]
    rw [e1, List.getElem?_append_right (by omega), Nat.add_sub_cancel_left]
    exact sf_get l j i u (by simpa using h) hi (by simpa using hu)
theorem cc_one (s : Stp) : ∀ u ∈ cc s, u.oneCell' = true := by
  intro u hu
  simp [cc] at hu
  rcases hu with rfl | rfl | rfl | rfl <;> rfl

set_option maxHeartbeats 2000000 in
set_option maxRecDepth 100000 in
theorem early_own (a : Option Addr) (len cap n : Nat) (ss : List Stp) (w : World) (h : StepsAt w a len cap ss) (hn : min len 80 = n) :
    Calls Tryd.prog 13 #[.slice a len cap] w fun e w' => ∃ v, e = .returned v ∧ w'.ownsRow w.heap.size 36 4 v n (sf (trs (ss.take n))) ∧ Below w.heap.size w w' := by
  obtain ⟨i0, hi, hz0, hz1, hz2⟩ := info_parts info36
  have hle := h.hle
  have hcap := h.hcap
  unfold maxLen at hcap
  have HL := Hid.mk' h.hlen
  have H : Hid (StepsAt w a len cap ss) := h
  have hn1 : n ≤ len := by omega
  have hn2 : n ≤ 80 := by omega
  have hn3 : len = n ∨ n = 80 := by omega
  clear h hn
  go_enter Tryd.func13, Tryd.ntmps13
  go_wp2
  go_loopw [4, 3] (fun v4 v wr => ∃ i : Nat, v4 = .int .i64 i ∧ i ≤ n ∧ wr.ownsRow w.heap.size 36 4 v i (sf (trs (ss.take i))) ∧ Below w.heap.size w wr) (fun v4 _ _ => n + 1 - (intOf v4).toNat)
  case atStart => exact ⟨0, rfl, Nat.zero_le _, by simpa [trs, sf] using World.ownsRow_nil _ _ _ _, Below.refl _ _⟩
  case round =>
    obtain ⟨i, rfl, hin0, hown, hbel⟩ := hrel
    by_cases hin : i < n
    · obtain ⟨b, off, rfl, hb, hcc, hsz, hms⟩ := (H.out.below hbel).rd i (by omega)
      have x0 := hcc 0 _ rfl
      have x1 := hcc 1 _ rfl
      have x2 := hcc 2 _ rfl
      have x3 := hcc 3 _ rfl
      rw [Nat.add_zero] at x0
      have HS := Hid.mk' (trs_snoc (l := ss) (i := i) (by rw [HL.out]; omega))
      have HT : Hid (cc (tr (ss.getD i s0)) = [.int .i64 (ss.getD i s0).kd, .int .i64 (ss.getD i s0).n, .string (if (ss.getD i s0).nm.size ≤ 20 then (ss.getD i s0).nm else (ss.getD i s0).nm.extract 0 20), .slice (ss.getD i s0).ma (min (ss.getD i s0).ml 20) (ss.getD i s0).mc]) := rfl
      generalize htr : tr (ss.getD i s0) = st at *
      have hmle := hms.1.hle
      have hmcm := hms.1.hcap
      unfold maxLen at hmcm
      clear htr hcc hms
      generalize (ss.getD i s0).nm = nm at *
      generalize (ss.getD i s0).kd = kd at *
      generalize (ss.getD i s0).n = nn at *
      generalize (ss.getD i s0).ma = ma at *
      generalize (ss.getD i s0).ml = ml at *
      generalize (ss.getD i s0).mc = mc at *
      obtain ⟨av, cv, rfl⟩ : ∃ av cv, u3 = .slice av i cv := by
        rcases hown.2 with ⟨e, e2⟩ | ⟨g, cap, cur, e, _⟩
        · exact ⟨_, _, by rw [e, e2]⟩
        · exact ⟨_, _, e⟩
      have hi1 : (i : Int) < 80 := by omega
      have hi2 : (i : Int) < (len : Int) := by omega
      unfold maxLen at hsz
      by_cases hns : nm.size ≤ 20
      · by_cases hml : ml ≤ 20
        · have hns2 : (nm.size : Int) ≤ 20 := by omega
          have hml2 : (ml : Int) ≤ 20 := by omega
          have HT2 : Hid (cc st = [.int .i64 kd, .int .i64 nn, .string nm, .slice ma ml mc]) := by show _ = _; rw [HT.out]; simp [hns]; omega
          have hw1 : Below w.heap.size w (wr.alloc (.cells #[.int .i64 kd, .int .i64 nn, .string nm, .slice ma ml mc] 36)) := hbel.alloc hbel.size _
          have ho1 := hown.alloc (.cells #[.int .i64 kd, .int .i64 nn, .string nm, .slice ma ml mc] 36)
          have hnw : Hid (∀ j u, [Value.int .i64 kd, .int .i64 nn, .string nm, .slice ma ml mc][j]? = some u → ((wr.alloc (.cells #[.int .i64 kd, .int .i64 nn, .string nm, .slice ma ml mc] 36)).alloc (.cells #[.int .i64 kd, .int .i64 nn, .string nm, .slice ma ml mc] 36)).cell? ((⟨wr.heap.size + 1, 0, none⟩ : Addr).add j) = some u) := by
            have hh := World.news_of_block (heap_alloc_new (wr.alloc (.cells #[.int .i64 kd, .int .i64 nn, .string nm, .slice ma ml mc] 36)) (.cells #[.int .i64 kd, .int .i64 nn, .string nm, .slice ma ml mc] 36))
            rw [World.size_alloc] at hh
            exact hh
          have h1c : Hid (∀ u ∈ [Value.int .i64 kd, .int .i64 nn, .string nm, .slice ma ml mc], u.oneCell' = true) := by
            have := cc_one st
            rwa [HT2.out] at this
          clear hown HT
          go_wp2_with (first
            | (at_builtin; refine wpList_append_own _ rfl _ _ 22 rfl w.heap.size 36 i0 _ 4 56 Tryd.underlying22 hi hz0 hz1 hz2 rfl (by decide) _ i _ rfl (ho1.alloc _) ⟨wr.heap.size + 1, 0, none⟩ 1 1 [.int .i64 kd, .int .i64 nn, .string nm, .slice ma ml mc] rfl rfl hnw.out h1c.out (by unfold maxLen; omega) (by omega) (by have := hbel.size; simp; omega) ?_))
          intro v3 w3 hown3 hgrow3 _
          have hbel3 : Below w.heap.size w w3 := (hw1.alloc hw1.size _).grown hgrow3 (by have := hw1.size; simp at this; simp; omega) (fun j hj => (ho1.lt j hj).1)
          have hown4 : w3.ownsRow w.heap.size 36 4 v3 (i + 1) (sf (trs (ss.take (i + 1)))) := by
            rw [HS.out, sf_append]
            simp only [sf, List.append_nil]
            rw [HT2.out]
            exact hown3
          clear hown3 hgrow3 ho1 hbel hw1
          go_wp2
          exact ⟨⟨i + 1, by simp, by omega, hown4, hbel3⟩, by simp [intOf]; omega⟩
        · have hns2 : (nm.size : Int) ≤ 20 := by omega
          have hml2 : (20 : Int) < (ml : Int) := by omega
          have HT2 : Hid (cc st = [.int .i64 kd, .int .i64 nn, .string nm, .slice ma 20 mc]) := by show _ = _; rw [HT.out]; simp [hns]; omega
          have hw1 : Below w.heap.size w (wr.alloc (.cells #[.int .i64 kd, .int .i64 nn, .string nm, .slice ma 20 mc] 36)) := hbel.alloc hbel.size _
          have ho1 := hown.alloc (.cells #[.int .i64 kd, .int .i64 nn, .string nm, .slice ma 20 mc] 36)
          have hnw : Hid (∀ j u, [Value.int .i64 kd, .int .i64 nn, .string nm, .slice ma 20 mc][j]? = some u → ((wr.alloc (.cells #[.int .i64 kd, .int .i64 nn, .string nm, .slice ma 20 mc] 36)).alloc (.cells #[.int .i64 kd, .int .i64 nn, .string nm, .slice ma 20 mc] 36)).cell? ((⟨wr.heap.size + 1, 0, none⟩ : Addr).add j) = some u) := by
            have hh := World.news_of_block (heap_alloc_new (wr.alloc (.cells #[.int .i64 kd, .int .i64 nn, .string nm, .slice ma 20 mc] 36)) (.cells #[.int .i64 kd, .int .i64 nn, .string nm, .slice ma 20 mc] 36))
            rw [World.size_alloc] at hh
            exact hh
          have h1c : Hid (∀ u ∈ [Value.int .i64 kd, .int .i64 nn, .string nm, .slice ma 20 mc], u.oneCell' = true) := by
            have := cc_one st
            rwa [HT2.out] at this
          clear hown HT
          go_wp2_with (first
            | (at_builtin; refine wpList_append_own _ rfl _ _ 22 rfl w.heap.size 36 i0 _ 4 56 Tryd.underlying22 hi hz0 hz1 hz2 rfl (by decide) _ i _ rfl (ho1.alloc _) ⟨wr.heap.size + 1, 0, none⟩ 1 1 [.int .i64 kd, .int .i64 nn, .string nm, .slice ma 20 mc] rfl rfl hnw.out h1c.out (by unfold maxLen; omega) (by omega) (by have := hbel.size; simp; omega) ?_))
          intro v3 w3 hown3 hgrow3 _
          have hbel3 : Below w.heap.size w w3 := (hw1.alloc hw1.size _).grown hgrow3 (by have := hw1.size; simp at this; simp; omega) (fun j hj => (ho1.lt j hj).1)
          have hown4 : w3.ownsRow w.heap.size 36 4 v3 (i + 1) (sf (trs (ss.take (i + 1)))) := by
            rw [HS.out, sf_append]
            simp only [sf, List.append_nil]
            rw [HT2.out]
            exact hown3
          clear hown3 hgrow3 ho1 hbel hw1
          go_wp2
          exact ⟨⟨i + 1, by simp, by omega, hown4, hbel3⟩, by simp [intOf]; omega⟩
      · by_cases hml : ml ≤ 20
        · have hns2 : (20 : Int) < (nm.size : Int) := by omega
          have hml2 : (ml : Int) ≤ 20 := by omega
          have HT2 : Hid (cc st = [.int .i64 kd, .int .i64 nn, .string (nm.extract 0 20), .slice ma ml mc]) := by show _ = _; rw [HT.out]; simp [hns]; omega
          have hw1 : Below w.heap.size w (wr.alloc (.cells #[.int .i64 kd, .int .i64 nn, .string (nm.extract 0 20), .slice ma ml mc] 36)) := hbel.alloc hbel.size _
          have ho1 := hown.alloc (.cells #[.int .i64 kd, .int .i64 nn, .string (nm.extract 0 20), .slice ma ml mc] 36)
          have hnw : Hid (∀ j u, [Value.int .i64 kd, .int .i64 nn, .string (nm.extract 0 20), .slice ma ml mc][j]? = some u → ((wr.alloc (.cells #[.int .i64 kd, .int .i64 nn, .string (nm.extract 0 20), .slice ma ml mc] 36)).alloc (.cells #[.int .i64 kd, .int .i64 nn, .string (nm.extract 0 20), .slice ma ml mc] 36)).cell? ((⟨wr.heap.size + 1, 0, none⟩ : Addr).add j) = some u) := by
            have hh := World.news_of_block (heap_alloc_new (wr.alloc (.cells #[.int .i64 kd, .int .i64 nn, .string (nm.extract 0 20), .slice ma ml mc] 36)) (.cells #[.int .i64 kd, .int .i64 nn, .string (nm.extract 0 20), .slice ma ml mc] 36))
            rw [World.size_alloc] at hh
            exact hh
          have h1c : Hid (∀ u ∈ [Value.int .i64 kd, .int .i64 nn, .string (nm.extract 0 20), .slice ma ml mc], u.oneCell' = true) := by
            have := cc_one st
            rwa [HT2.out] at this
          clear hown HT
          go_wp2_with (first
            | (at_builtin; refine wpList_append_own _ rfl _ _ 22 rfl w.heap.size 36 i0 _ 4 56 Tryd.underlying22 hi hz0 hz1 hz2 rfl (by decide) _ i _ rfl (ho1.alloc _) ⟨wr.heap.size + 1, 0, none⟩ 1 1 [.int .i64 kd, .int .i64 nn, .string (nm.extract 0 20), .slice ma ml mc] rfl rfl hnw.out h1c.out (by unfold maxLen; omega) (by omega) (by have := hbel.size; simp; omega) ?_))
          intro v3 w3 hown3 hgrow3 _
          have hbel3 : Below w.heap.size w w3 := (hw1.alloc hw1.size _).grown hgrow3 (by have := hw1.size; simp at this; simp; omega) (fun j hj => (ho1.lt j hj).1)
          have hown4 : w3.ownsRow w.heap.size 36 4 v3 (i + 1) (sf (trs (ss.take (i + 1)))) := by
            rw [HS.out, sf_append]
            simp only [sf, List.append_nil]
            rw [HT2.out]
            exact hown3
          clear hown3 hgrow3 ho1 hbel hw1
          go_wp2
          exact ⟨⟨i + 1, by simp, by omega, hown4, hbel3⟩, by simp [intOf]; omega⟩
        · have hns2 : (20 : Int) < (nm.size : Int) := by omega
          have hml2 : (20 : Int) < (ml : Int) := by omega
          have HT2 : Hid (cc st = [.int .i64 kd, .int .i64 nn, .string (nm.extract 0 20), .slice ma 20 mc]) := by show _ = _; rw [HT.out]; simp [hns]; omega
          have hw1 : Below w.heap.size w (wr.alloc (.cells #[.int .i64 kd, .int .i64 nn, .string (nm.extract 0 20), .slice ma 20 mc] 36)) := hbel.alloc hbel.size _
          have ho1 := hown.alloc (.cells #[.int .i64 kd, .int .i64 nn, .string (nm.extract 0 20), .slice ma 20 mc] 36)
          have hnw : Hid (∀ j u, [Value.int .i64 kd, .int .i64 nn, .string (nm.extract 0 20), .slice ma 20 mc][j]? = some u → ((wr.alloc (.cells #[.int .i64 kd, .int .i64 nn, .string (nm.extract 0 20), .slice ma 20 mc] 36)).alloc (.cells #[.int .i64 kd, .int .i64 nn, .string (nm.extract 0 20), .slice ma 20 mc] 36)).cell? ((⟨wr.heap.size + 1, 0, none⟩ : Addr).add j) = some u) := by
            have hh := World.news_of_block (heap_alloc_new (wr.alloc (.cells #[.int .i64 kd, .int .i64 nn, .string (nm.extract 0 20), .slice ma 20 mc] 36)) (.cells #[.int .i64 kd, .int .i64 nn, .string (nm.extract 0 20), .slice ma 20 mc] 36))
            rw [World.size_alloc] at hh
            exact hh
          have h1c : Hid (∀ u ∈ [Value.int .i64 kd, .int .i64 nn, .string (nm.extract 0 20), .slice ma 20 mc], u.oneCell' = true) := by
            have := cc_one st
            rwa [HT2.out] at this
          clear hown HT
          go_wp2_with (first
            | (at_builtin; refine wpList_append_own _ rfl _ _ 22 rfl w.heap.size 36 i0 _ 4 56 Tryd.underlying22 hi hz0 hz1 hz2 rfl (by decide) _ i _ rfl (ho1.alloc _) ⟨wr.heap.size + 1, 0, none⟩ 1 1 [.int .i64 kd, .int .i64 nn, .string (nm.extract 0 20), .slice ma 20 mc] rfl rfl hnw.out h1c.out (by unfold maxLen; omega) (by omega) (by have := hbel.size; simp; omega) ?_))
          intro v3 w3 hown3 hgrow3 _
          have hbel3 : Below w.heap.size w w3 := (hw1.alloc hw1.size _).grown hgrow3 (by have := hw1.size; simp at this; simp; omega) (fun j hj => (ho1.lt j hj).1)
          have hown4 : w3.ownsRow w.heap.size 36 4 v3 (i + 1) (sf (trs (ss.take (i + 1)))) := by
            rw [HS.out, sf_append]
            simp only [sf, List.append_nil]
            rw [HT2.out]
            exact hown3
          clear hown3 hgrow3 ho1 hbel hw1
          go_wp2
          exact ⟨⟨i + 1, by simp, by omega, hown4, hbel3⟩, by simp [intOf]; omega⟩
    · obtain rfl : n = i := by omega
      by_cases hlt : n < len
      · have h80 : ¬ (n : Int) < 80 := by omega
        have hlt' : (n : Int) < (len : Int) := by omega
        go_wp2
        go_ret
        exact ⟨_, rfl, hown, hbel⟩
      · go_wp2
        go_ret
        exact ⟨_, rfl, hown, hbel⟩

theorem trs_getD {l : List Stp} {i : Nat} (h : i < l.length) : (trs l).getD i s0 = tr (l.getD i s0) := by
  unfold trs
  simp [List.getD, h]
theorem early_any (a : Option Addr) (len cap n : Nat) (ss : List Stp) (w : World) (h : StepsAt w a len cap ss) (hn : min len 80 = n) :
    Calls Tryd.prog 13 #[.slice a len cap] w fun e w' => ∃ a' c', e = .returned (.slice a' n c') ∧ StepsAt w' a' n c' (trs (ss.take n)) ∧ (∀ x, a' = some x → w.heap.size ≤ x.block ∧ x.block < w'.heap.size) ∧ Below w.heap.size w w' := by
  refine (early_own a len cap n ss w h hn).mono ?_
  rintro e w' ⟨v, rfl, ho, hb⟩
  have hl : ss.length = len := h.hlen
  have htl : (trs (ss.take n)).length = n := by rw [trs_length, List.length_take]; omega
  have ho' := ho
  rcases ho.2 with ⟨rfl, h0⟩ | ⟨g, c, cur, rfl, hg0, hg, hn1, hc, _, _⟩
  · subst h0
    exact ⟨none, 0, rfl, ⟨htl, Nat.le_refl _, Nat.zero_le _, fun j hj => absurd hj (Nat.not_lt_zero _)⟩, fun x hx => (by cases hx), hb⟩
  · refine ⟨_, c, rfl, ⟨htl, hn1, hc, fun j hj => ⟨g, 0, rfl, lt_of_heap hg, fun i u hu => ?_, ?_, ?_, ?_⟩⟩, fun x hx => (by cases hx; exact ⟨hg0, lt_of_heap hg⟩), hb⟩
    · have hi : i < 4 := (List.getElem?_eq_some_iff.1 hu).1
      have := ho'.cells (g := g) rfl (j * 4 + i) u (sf_get _ j i u (by omega) hi hu)
      have e0 : ((⟨g, 0, none⟩ : Addr).add (j * 4 + i)) = ⟨g, 0 + j * 4 + i, none⟩ := by unfold Addr.add; split <;> simp_all
      rw [e0] at this
      exact this
    all_goals
      have hjl : j < (ss.take n).length := by rw [List.length_take]; omega
      rw [trs_getD hjl]
      have e1 : (ss.take n).getD j s0 = ss.getD j s0 := by simp [List.getD, List.getElem?_take_of_lt hj]
      rw [e1]
      obtain ⟨b, off, e2, hlt, h1, h2, h3, h4⟩ := h.rd j (by omega)
    · have := tr_size (ss.getD j s0)
      unfold maxLen
      omega
    · have h3' := h3.below (Nat.le_refl _) hb
      have h5 := h3'.take (n := min (ss.getD j s0).ml 20) (Nat.min_le_left _ _)
      have e3 : (ss.getD j s0).ms.take (min (ss.getD j s0).ml 20) = (ss.getD j s0).ms.take 20 := by
        have h6 := h3.hlen
        by_cases h7 : (ss.getD j s0).ml ≤ 20
        · rw [Nat.min_eq_left h7, List.take_of_length_le (by omega), List.take_of_length_le (by omega)]
        · rw [Nat.min_eq_right (by omega)]
      rw [e3] at h5
      exact h5
    · intro x hx
      exact h4 x (List.mem_of_mem_take hx)

end Go.Proofs.YtmlkpfkeeifgeaaDoor
