/-
  What Sorted and All of the document do: the numbers, rising, in a new row. Conditions: the slices lie where they are said to lie; at most 100 numbers.
-/
import Derived.Test.YtedbiaopbfejfaaRefM
namespace Go.Proofs.Ytedbiaopbfejfaa
open Go.ChangeShapes Go.WideShapes Go.ChangeAt Go.RowKit

theorem getD_mem {l : List Int} {j : Nat} (h : j < l.length) : l.getD j 0 ∈ l := by simp [List.getD, h]
theorem mem_getD {l : List Int} {y : Int} (h : y ∈ l) : ∃ j, j < l.length ∧ l.getD j 0 = y := by
  obtain ⟨j, hj, e⟩ := List.getElem_of_mem h
  exact ⟨j, hj, by simp [List.getD, hj, e]⟩
theorem srt_nth {l : List Int} {i j : Nat} (hij : i ≤ j) (hj : j < (srt l).length) : (srt l).getD i 0 ≤ (srt l).getD j 0 := by
  rcases Nat.lt_or_eq_of_le hij with h | h
  · have := List.pairwise_iff_getElem.1 (srt_sorted l) i j (by omega) hj h
    simp [List.getD, hj, show i < (srt l).length by omega]
    simpa using this
  · rw [h]; exact Int.le_refl _
/-- One is put where it belongs. -/
theorem srt_ins {l : List Int} {x : Int} {k : Nat} (hk : k ≤ (srt l).length) (h1 : ∀ j, k ≤ j → j < (srt l).length → x < (srt l).getD j 0) (h0 : k = 0 ∨ (srt l).getD (k - 1) 0 ≤ x) :
    srt (l ++ [x]) = ((srt l).take k ++ [x]) ++ (srt l).drop k := by
  refine srt_uniq ?_ ?_
  · have e1 : (((srt l).take k ++ [x]) ++ (srt l).drop k).Perm (x :: srt l) := by
      rw [List.append_assoc]
      refine List.perm_middle.trans ?_
      show (x :: ((srt l).take k ++ (srt l).drop k)).Perm _
      rw [List.take_append_drop]
    refine e1.trans (((srt_perm l).cons x).trans ?_)
    exact (List.perm_append_singleton x l).symm
  · have hs := srt_sorted l
    have hd : ∀ b ∈ (srt l).drop k, x < b := by
      intro b hb
      obtain ⟨j, hj, e⟩ := mem_getD hb
      rw [List.length_drop] at hj
      have := h1 (k + j) (by omega) (by omega)
      have e2 : ((srt l).drop k).getD j 0 = (srt l).getD (k + j) 0 := by simp [List.getD]
      rw [e2] at e
      omega
    have ht : ∀ a ∈ (srt l).take k, a ≤ x := by
      intro a ha
      obtain ⟨j, hj, e⟩ := mem_getD ha
      rw [List.length_take] at hj
      have e2 : ((srt l).take k).getD j 0 = (srt l).getD j 0 := by simp [List.getD, show j < k by omega]
      rw [e2] at e
      rcases h0 with h0 | h0
      · omega
      · have := srt_nth (l := l) (i := j) (j := k - 1) (by omega) (by omega)
        omega
    rw [List.pairwise_append, List.pairwise_append]
    refine ⟨⟨hs.sublist (List.take_sublist _ _), List.pairwise_singleton _ _, fun a ha b hb => ?_⟩, hs.sublist (List.drop_sublist _ _), fun a ha b hb => ?_⟩
    · simp at hb
      subst hb
      simpa using ht a ha
    · have hb' := hd b hb
      rcases List.mem_append.1 ha with h | h
      · have := ht a h
        simp
        omega
      · simp at h
        simp
        omega

theorem drop_at {w : World} {b n c k : Nat} {zs : List Int} (h : IntsAt w (some ⟨b, 0, none⟩) n c zs) (hk : k ≤ n) : IntsAt w (some ⟨b, k, none⟩) (n - k) (c - k) (zs.drop k) := by
  have := h.hcap
  have := h.hle
  refine ⟨by rw [List.length_drop, h.hlen], by omega, by omega, fun j hj => ?_⟩
  obtain ⟨b', off', e, hlt, hc⟩ := h.at_ (k + j) (by omega)
  cases e
  refine ⟨b, k, rfl, hlt, ?_⟩
  rw [show 0 + (k + j) = k + j by omega] at hc
  rw [hc]
  simp [List.getD]

set_option maxHeartbeats 2000000 in
set_option maxRecDepth 100000 in
theorem rsorted_any (w : World) (a : Option Addr) (len cap : Nat) (zs : List Int) (h : IntsAt w a len cap zs) (h100 : len ≤ 100) :
    Calls Try.prog 30 #[.slice a len cap] w fun e w' => ∃ v, e = .returned v ∧ w'.ownsRow w.heap.size 3 1 v len (ic (srt zs)) ∧ Below w.heap.size w w' := by
  have hle := h.hle
  have hcp := h.hcap
  have hl := h.hlen
  unfold maxLen at hcp
  have HI := Hid.mk' h
  clear h
  go_enter Try.func30, Try.ntmps30
  go_wp2
  go_loopw [3, 4, 5, 6] (fun v3 v4 _ _ wr => ∃ i : Nat, v4 = .int .i64 i ∧ i ≤ len ∧ wr.ownsRow w.heap.size 3 1 v3 i (ic (srt (zs.take i))) ∧ Below w.heap.size w wr) (fun _ v4 _ _ _ => len + 1 - (intOf v4).toNat)
  case atStart => exact ⟨0, rfl, Nat.zero_le _, by rw [List.take_zero, show srt [] = [] by simp [srt]]; exact World.ownsRow_nil _ _ _ _, Below.refl _ _⟩
  case round =>
    obtain ⟨i, rfl, hi, hown, hbl⟩ := hrel
    by_cases hil : i < len
    · obtain ⟨b, off, rfl, _, hc⟩ := (HI.out.below hbl).at_ i hil
      have hsn := take_snoc (zs := zs) (j := i) (by omega)
      generalize hx : zs.getD i 0 = x at *
      obtain ⟨l, hlt⟩ : ∃ l, zs.take i = l := ⟨_, rfl⟩
      have hll : (srt l).length = i := by rw [srt_length, ← hlt, List.length_take]; omega
      rw [hlt] at hown hsn
      obtain ⟨ao, co, rfl, ho, hnn, _⟩ := owns_ints hown
      have o1 := ho.hle
      have o2 := ho.hcap
      unfold maxLen at o2
      have HX := Hid.mk' hx
      have HO : Hid (wr.ownsRow w.heap.size 3 1 (.slice ao i co) i (ic (srt l))) := hown
      have HB := Hid.mk' hbl
      have HOI := Hid.mk' ho
      have HSN := Hid.mk' hsn
      have HLL := Hid.mk' hll
      clear hx hlt hown hbl ho hsn hll
      go_wp2
      go_loopw [5] (fun v5 ws => ∃ k q : Nat, v5 = .int .i64 k ∧ k ≤ i ∧ (∀ j, k ≤ j → j < i → x < (srt l).getD j 0) ∧ ws = wr.drewN q) (fun v5 _ => (intOf v5).toNat)
      case atStart => exact ⟨i, 0, rfl, Nat.le_refl _, fun j h1 h2 => by omega, rfl⟩
      case round =>
        obtain ⟨k, q, rfl, hk, hgt, hws⟩ := hrel
        subst hws
        have HG := Hid.mk' hgt
        clear hgt
        by_cases hex : 0 < k ∧ x < (srt l).getD (k - 1) 0
        · obtain ⟨hk0, hgt⟩ := hex
          obtain ⟨k, rfl⟩ : ∃ m, k = m + 1 := ⟨k - 1, by omega⟩
          rw [Nat.add_sub_cancel] at hgt
          obtain ⟨bo, oo, rfl, _, hco⟩ := HOI.out.at_ k (by omega)
          have HGG := Hid.mk' hgt
          generalize (srt l).getD k 0 = y at hco hgt
          go_wp2
          go_quiet (fail)
          go_wp2
          refine ⟨⟨k, _, by simp, by omega, fun j h1 h2 => ?_, rfl⟩, by simp [intOf]⟩
          by_cases e : j = k
          · rw [e]; exact HGG.out
          · exact HG.out j (by omega) h2
        · have HK := Hid.mk' hk
          have HEX : Hid (k = 0 ∨ (srt l).getD (k - 1) 0 ≤ x) := Hid.mk' (by omega)
          have HK9 : Hid (∀ ws, Below wr.heap.size wr ws → IntsAt ws ao k co ((srt l).take k)) := fun ws hb => (HOI.out.below hb).take hk
          have HS9 : Hid (srt (l ++ [x]) = ((srt l).take k ++ [x]) ++ (srt l).drop k) := srt_ins (by have := HLL.out; omega) (fun j h1 h2 => HG.out j h1 (by have := HLL.out; omega)) HEX.out
          have hcase : k = 0 ∨ (0 < k ∧ ¬ x < (srt l).getD (k - 1) 0) := by omega
          clear hex
          have hbs : ∀ nq, Below wr.heap.size wr ((wr.drewN q).drewN nq) := fun nq => ⟨rfl, rfl, rfl, Nat.le_refl _, fun _ _ => rfl⟩
          have hszb := HB.out.size
          rcases hcase with rfl | ⟨hk0, hgt⟩
          · go_wp2
            go_quiet (fail)
            replace hbs := hbs nq
            generalize (wr.drewN q).drewN nq = ws at *
            have hI9 := HK9.out ws hbs
            have hsz := hbs.size
            go_upto_region 10 with (first | (at_builtin; refine wpList_ints _ rfl _ _ rfl wr.heap.size (.slice none 0 0) 0 [] _ _ rfl ⟨rfl, .inl ⟨rfl, rfl⟩⟩ _ _ co rfl hI9 (fun e => by have := hnn e; omega) (by omega) hsz (List.nil_append _) _ (Nat.zero_add _).symm ?_; intro v9 w9 o9 g9 _))
            have hb9 : Below wr.heap.size wr w9 := below_trans hbs ⟨g9.os, g9.tape, g9.output, g9.size, fun k hk => g9.block k hk (by simp [Value.ownBlock])⟩
            obtain ⟨b9, f9, e9, _, hc9⟩ := (HI.out.below (below_trans HB.out hb9)).at_ i hil
            cases e9
            rw [HX.out] at hc9
            have o10 := o9.alloc (.cells #[.int .i64 x] 3)
            have hone := one_at w9 x
            have hsz9 := hb9.size
            have HB9 := Hid.mk' hb9
            clear o9 g9 hI9 hbs hb9
            go_upto_region 11 with (first | (at_builtin; refine wpList_ints _ rfl _ _ rfl wr.heap.size v9 _ _ [x] _ rfl o10 _ 1 1 rfl hone (fun h => by cases h) (by omega) (by simp; omega) rfl _ rfl ?_; intro v10 w10 o11 g10 _))
            have hb10 : Below wr.heap.size wr w10 := below_grown o10 g10 (HB9.out.alloc hsz9 _) (Nat.le_refl _)
            have hsz10 := hb10.size
            have HB10 := Hid.mk' hb10
            have hoX := HOI.out.below hb10
            clear hb10 g10 o10 hone hc9
            rcases HO.out.2 with ⟨e1, e2⟩ | ⟨gg, cg, cur, e1, _⟩
            · cases e1
              have hD := hoX
              go_wp2_with (first | (at_builtin; refine wpList_ints _ rfl _ _ rfl wr.heap.size v10 _ _ _ (srt (l ++ [x])) rfl o11 _ _ _ rfl hD (fun _ => ⟨rfl, rfl⟩) (by omega) hsz10 HS9.out.symm (0 + 1) (by omega) ?_; intro v12 w12 o12 g12 _))
              rw [← HSN.out] at o12
              refine ⟨⟨0 + 1, by simp, by omega, owns_base o12 (by omega), ?_⟩, by simp [intOf] <;> omega⟩
              exact HB.out.trans ((below_grown o11 g12 HB10.out (by omega)).mono hszb)
            · cases e1
              have hD := hoX
              go_wp2_with (first | (at_builtin; refine wpList_ints _ rfl _ _ rfl wr.heap.size v10 _ _ _ (srt (l ++ [x])) rfl o11 _ _ _ rfl hD (fun h => by cases h) (by omega) hsz10 HS9.out.symm (i + 1) (by omega) ?_; intro v12 w12 o12 g12 _))
              rw [← HSN.out] at o12
              refine ⟨⟨i + 1, by simp, by omega, owns_base o12 (by omega), ?_⟩, by simp [intOf]; omega⟩
              exact HB.out.trans ((below_grown o11 g12 HB10.out (by omega)).mono hszb)
          · obtain ⟨m, rfl⟩ : ∃ m, k = m + 1 := ⟨k - 1, by omega⟩
            rw [Nat.add_sub_cancel] at hgt
            obtain ⟨bo, oo, rfl, _, hco⟩ := HOI.out.at_ m (by omega)
            generalize (srt l).getD m 0 = y at hco hgt
            go_wp2
            go_quiet (fail)
            replace hbs := hbs nq
            generalize (wr.drewN q).drewN nq = ws at *
            have hI9 := HK9.out ws hbs
            have hsz := hbs.size
            go_upto_region 10 with (first | (at_builtin; refine wpList_ints _ rfl _ _ rfl wr.heap.size (.slice none 0 0) 0 [] _ _ rfl ⟨rfl, .inl ⟨rfl, rfl⟩⟩ _ _ co rfl hI9 (fun e => by have := hnn e; omega) (by omega) hsz (List.nil_append _) _ (Nat.zero_add _).symm ?_; intro v9 w9 o9 g9 _))
            have hb9 : Below wr.heap.size wr w9 := below_trans hbs ⟨g9.os, g9.tape, g9.output, g9.size, fun k hk => g9.block k hk (by simp [Value.ownBlock])⟩
            obtain ⟨b9, f9, e9, _, hc9⟩ := (HI.out.below (below_trans HB.out hb9)).at_ i hil
            cases e9
            rw [HX.out] at hc9
            have o10 := o9.alloc (.cells #[.int .i64 x] 3)
            have hone := one_at w9 x
            have hsz9 := hb9.size
            have HB9 := Hid.mk' hb9
            clear o9 g9 hI9 hbs hb9
            go_upto_region 11 with (first | (at_builtin; refine wpList_ints _ rfl _ _ rfl wr.heap.size v9 _ _ [x] _ rfl o10 _ 1 1 rfl hone (fun h => by cases h) (by omega) (by simp; omega) rfl _ rfl ?_; intro v10 w10 o11 g10 _))
            have hb10 : Below wr.heap.size wr w10 := below_grown o10 g10 (HB9.out.alloc hsz9 _) (Nat.le_refl _)
            have hsz10 := hb10.size
            have HB10 := Hid.mk' hb10
            have hoX := HOI.out.below hb10
            clear hb10 g10 o10 hone hc9
            rcases HO.out.2 with ⟨e1, e2⟩ | ⟨gg, cg, cur, e1, _⟩
            · simp at e1
            · cases e1
              have hD := drop_at hoX HK.out
              by_cases hcc : m + 1 < co
              · go_wp2_with (first | (at_builtin; refine wpList_ints _ rfl _ _ rfl wr.heap.size v10 _ _ _ (srt (l ++ [x])) rfl o11 _ _ _ rfl hD (fun h => by cases h) (by omega) hsz10 HS9.out.symm (i + 1) (by omega) ?_; intro v12 w12 o12 g12 _))
                rw [← HSN.out] at o12
                refine ⟨⟨i + 1, by simp, by omega, owns_base o12 (by omega), ?_⟩, by simp [intOf]; omega⟩
                exact HB.out.trans ((below_grown o11 g12 HB10.out (by omega)).mono hszb)
              · obtain rfl : co = m + 1 := by omega
                obtain rfl : i = m + 1 := by omega
                have hD2 : IntsAt w10 (some ⟨bo, 0, none⟩) 0 0 [] := ⟨rfl, Nat.le_refl _, Nat.zero_le _, fun _ hj => absurd hj (Nat.not_lt_zero _)⟩
                have HS92 : Hid (srt (l ++ [x]) = ((srt l).take (m + 1) ++ [x]) ++ []) := Hid.mk' (by have := HLL.out; rw [HS9.out, List.drop_of_length_le (by omega)])
                go_wp2_with (first | (at_builtin; refine wpList_ints _ rfl _ _ rfl wr.heap.size v10 _ _ _ (srt (l ++ [x])) rfl o11 _ _ _ rfl hD2 (fun h => by cases h) (by omega) hsz10 HS92.out.symm (m + 1 + 1) (by omega) ?_; intro v12 w12 o12 g12 _))
                rw [← HSN.out] at o12
                refine ⟨⟨m + 1 + 1, by simp, by omega, owns_base o12 (by omega), ?_⟩, by simp [intOf]; omega⟩
                exact HB.out.trans ((below_grown o11 g12 HB10.out (by omega)).mono hszb)
    · obtain rfl : i = len := by omega
      rw [List.take_of_length_le (by omega)] at hown
      have HO := Hid.mk' hown
      have HB := Hid.mk' hbl
      clear hown hbl
      go_wp2
      go_ret
      exact ⟨_, rfl, HO.out, HB.out⟩

section
variable {w : World} {v0 v1 v2 : Value} {s : St}
set_option maxHeartbeats 1000000 in
set_option maxRecDepth 100000 in
theorem rall_any (S : Int) (h : Rv w v0 v1 v2 s) (hl : s.ids.length ≤ 100) (n : Nat) (hn : s.ids.length = n) :
    Calls Try.prog 34 #[.agg #[.int .i64 S, v0, v1, v2]] w fun e w' => ∃ a c, e = .returned (.slice a n c) ∧ IntsAt w' a n c (srt s.ids) ∧ Below w.heap.size w w' := by
  have hbl : Below w.heap.size w (w.alloc (.cells #[.int .i64 S, v0, v1, v2] 28)) := (Below.refl _ _).alloc (Nat.le_refl _) _
  have g1 : (w.alloc (.cells #[.int .i64 S, v0, v1, v2] 28)).heap[w.heap.size]? = some (.cells #[.int .i64 S, v0, v1, v2] 28 (0, 0)) := heap_alloc_new w _
  have h3 : s.M.length ≤ 100 ∧ s.I.length ≤ 100 ∧ s.B.length ≤ 100 := by simp [St.ids] at hl; omega
  obtain ⟨l0, l1, l2⟩ := h3
  have hrv := h.below hbl
  obtain ⟨n0, hn0⟩ : ∃ n, s.M.length = n := ⟨_, rfl⟩
  obtain ⟨n1, hn1⟩ : ∃ n, s.I.length = n := ⟨_, rfl⟩
  obtain ⟨n2, hn2⟩ : ∃ n, s.B.length = n := ⟨_, rfl⟩
  obtain ⟨a0, c0, rfl, hi0, hz0⟩ := hrv.m.openN n0 hn0
  obtain ⟨a1, c1, rfl, hi1, hz1⟩ := hrv.i.openN n1 hn1
  obtain ⟨a2, c2, rfl, hi2, hz2⟩ := hrv.b.openN n2 hn2
  have hsum : n0 + n1 + n2 = n := by rw [← hn]; simp [St.ids]; omega
  have hids : (s.M ++ s.I) ++ s.B = s.ids := rfl
  have hn100 : n ≤ 100 := by omega
  have m0 : n0 ≤ 100 ∧ n1 ≤ 100 ∧ n2 ≤ 100 := by omega
  obtain ⟨m0, m1, m2⟩ := m0
  obtain ⟨p0, p1, p2, p3, plt⟩ := blk4 g1
  have hq : ∀ wX, Below (w.alloc (.cells #[.int .i64 S, .slice a0 n0 c0, .slice a1 n1 c1, .slice a2 n2 c2] 28)).heap.size (w.alloc (.cells #[.int .i64 S, .slice a0 n0 c0, .slice a1 n1 c1, .slice a2 n2 c2] 28)) wX →
      wX.heap[w.heap.size]? = some (.cells #[.int .i64 S, .slice a0 n0 c0, .slice a1 n1 c1, .slice a2 n2 c2] 28 (0, 0)) ∧ IntsAt wX a1 n1 c1 s.I ∧ IntsAt wX a2 n2 c2 s.B := fun wX hX => ⟨(hX.block _ plt).trans g1, hi1.below hX, hi2.below hX⟩
  have HQ := Hid.mk' hq
  have HB := Hid.mk' hbl
  clear h hl hrv hi1 hi2 hq hbl hn0 hn1 hn2 hn g1 l0 l1 l2
  generalize hwq : w.alloc (.cells #[.int .i64 S, .slice a0 n0 c0, .slice a1 n1 c1, .slice a2 n2 c2] 28) = wq at *
  go_enter Try.func34, Try.ntmps34
  go_upto_region 3 with (first | (at_builtin; refine wpList_ints _ rfl _ _ rfl wq.heap.size (.slice none 0 0) 0 [] _ _ rfl ⟨rfl, .inl ⟨rfl, rfl⟩⟩ a0 n0 c0 rfl hi0 hz0 (by omega) (Nat.le_refl _) (List.nil_append _) n0 (by omega) ?_; intro v5 w5 o5 g5 _))
  have hb5 : Below wq.heap.size wq w5 := ⟨g5.os, g5.tape, g5.output, g5.size, fun k hk => g5.block k hk (by simp [Value.ownBlock])⟩
  obtain ⟨e5, e51, _⟩ := HQ.out w5 hb5
  obtain ⟨k0, k1, k2, k3, -⟩ := blk4 e5
  have hs5 := hb5.size
  have HB5 := Hid.mk' hb5
  clear p0 p1 p2 p3 hi0 hb5 e5 g5
  go_upto_region 4 with (first | (at_builtin; refine wpList_ints _ rfl _ _ rfl wq.heap.size v5 n0 s.M s.I _ rfl o5 a1 n1 c1 rfl e51 hz1 (by omega) hs5 rfl (n0 + n1) rfl ?_; intro v6 w6 o6 g6 _))
  have hb6 : Below wq.heap.size wq w6 := below_grown o5 g6 HB5.out (Nat.le_refl _)
  obtain ⟨e6, _, e62⟩ := HQ.out w6 hb6
  clear k0 k1 k2 k3
  obtain ⟨k0, k1, k2, k3, -⟩ := blk4 e6
  have hs6 := hb6.size
  have HB6 := Hid.mk' hb6
  have HO6 := Hid.mk' o6
  clear hb6 e6 g6 e51 o5
  have HS : Hid (∀ v7 w7, w7.ownsRow wq.heap.size 3 1 v7 n (ic s.ids) → w6.grownBy w7 v6.ownBlock → ∃ a7 c7, v7 = .slice a7 n c7 ∧ Calls Try.prog 30 #[.slice a7 n c7] w7 fun e w' => ∃ a c, e = .returned (.slice a n c) ∧ IntsAt w' a n c (srt s.ids) ∧ Below w.heap.size w w') := by
    intro v7 w7 o7 g7
    obtain ⟨a7, c7, e7, i7, _⟩ := owns_ints o7
    refine ⟨a7, c7, e7, (rsorted_any w7 a7 n c7 s.ids i7 (by have := i7.hlen; omega)).mono ?_⟩
    rintro e w' ⟨v, rfl, ho, hb⟩
    obtain ⟨a, c, e2, i2, _⟩ := owns_ints ho
    rw [e2]
    refine ⟨a, c, rfl, i2, ?_⟩
    have h67 : Below wq.heap.size wq w7 := below_grown HO6.out g7 HB6.out (Nat.le_refl _)
    exact below_trans (below_trans HB.out h67) hb
  go_wp2_with (first
    | (at_builtin; refine wpList_ints _ rfl _ _ rfl wq.heap.size v6 (n0 + n1) (s.M ++ s.I) s.B _ rfl o6 a2 n2 c2 rfl e62 hz2 (by omega) hs6 hids n hsum.symm ?_; intro v7 w7 o7 g7 _; obtain ⟨a7, c7, e7, hcs⟩ := HS.out v7 w7 o7 g7; subst e7)
    | (go_at_call 30; refine hcs.mono ?_; rintro e w8 ⟨a8, c8, rfl, i8, hb8⟩))
  go_ret
  exact ⟨a8, c8, rfl, i8, hb8⟩
end

end Go.Proofs.Ytedbiaopbfejfaa
