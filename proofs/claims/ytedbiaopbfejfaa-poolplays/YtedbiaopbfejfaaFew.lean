/-
  What the document's own answers for lists do, each as a contract: Has, Less, More, Same, the lengths of three lists. Conditions: the slices lie where they are said to lie; at most 900 ints.
-/
import Derived.Test.YtedbiaopbfejfaaStrs
namespace Go.Proofs.Ytedbiaopbfejfaa
open Go.ChangeShapes Go.WideShapes Go.ChangeAt Go.RowKit

set_option maxRecDepth 100000 in
theorem has_any (w : World) (a : Option Addr) (len cap : Nat) (zs : List Int) (v : Int) (h : IntsAt w a len cap zs) (b : Bool) (hb : decide (v ∈ zs) = b) :
    Calls Try.prog 35 #[.slice a len cap, .int .i64 v] w fun e w' => e = .returned (.bool b) ∧ w' = w := by
  have hl := h.hlen
  have hle := h.hle
  have hc := h.hcap
  have hat := h.at_
  unfold maxLen at hc
  subst hb
  have hf := fidx_le v zs
  have hlt := fidx_lt v zs
  have heq := fidx_at v zs
  have hm := fidx_mem v zs
  rw [hl] at *
  generalize fidx v zs = F at *
  have HLT := Hid.mk' hlt
  have HEQ := Hid.mk' heq
  have HAT := Hid.mk' hat
  have HP : Hid ((F < len → decide (v ∈ zs) = true) ∧ (¬ F < len → decide (v ∈ zs) = false)) := ⟨fun h => decide_eq_true (hm.1 h), fun h => decide_eq_false (fun h1 => h (hm.2 h1))⟩
  generalize decide (v ∈ zs) = P at *
  clear hlt heq hat h hm
  go_enter Try.func35, Try.ntmps35
  go_wp2
  go_loopw [5] (fun v5 wr => ∃ i : Nat, v5 = .int .i64 i ∧ i ≤ F ∧ wr = w) (fun v5 _ => len + 1 - (intOf v5).toNat)
  case atStart => exact ⟨0, rfl, Nat.zero_le _, rfl⟩
  case round =>
    obtain ⟨i, rfl, hi, rfl⟩ := hrel
    by_cases h1 : i < len
    · obtain ⟨b, off, rfl, hb, hx⟩ := HAT.out i h1
      by_cases h2 : i < F
      · have hne := HLT.out i h2
        generalize zs.getD i 0 = z at *
        have hb2 : (z == v) = false := by rw [beq_eq_false_iff_ne]; exact hne
        clear hne
        go_wp2
        exact ⟨⟨i + 1, by simp, by omega, by trivial⟩, by simp [intOf]; omega⟩
      · obtain rfl : F = i := by omega
        have he := HEQ.out h1
        rw [he] at hx
        clear he
        go_wp2
        go_ret
        exact ⟨ret_bool (HP.out.1 h1).symm, rfl⟩
    · go_wp2
      go_ret
      exact ⟨ret_bool (HP.out.2 (by omega)).symm, rfl⟩

theorem less_snoc (l : List Int) (x y : Int) : less (l ++ [y]) x = if y = x then less l x else less l x ++ [y] := by
  unfold less
  rw [List.filter_append]
  by_cases e : y = x
  · rw [if_pos e]; simp [e]
  · rw [if_neg e]; simp [e]
theorem take_snoc {zs : List Int} {j : Nat} (h : j < zs.length) : zs.take (j + 1) = zs.take j ++ [zs.getD j 0] := by
  rw [List.take_add_one]
  congr 1
  simp [List.getD, h]

set_option maxHeartbeats 1000000 in
set_option maxRecDepth 100000 in
theorem less_any (w : World) (a : Option Addr) (len cap : Nat) (zs : List Int) (x : Int) (h : IntsAt w a len cap zs) (h900 : len ≤ 900) (yy : List Int) (hy : less zs x = yy) :
    Calls Try.prog 36 #[.slice a len cap, .int .i64 x] w fun e w' => ∃ v, e = .returned v ∧ w'.ownsRow w.heap.size 3 1 v yy.length (ic yy) ∧ Below w.heap.size w w' := by
  have hle := h.hle
  have hc := h.hcap
  have hl := h.hlen
  unfold maxLen at hc
  have HI := Hid.mk' h
  have HY := Hid.mk' hy
  clear h hy
  go_enter Try.func36, Try.ntmps36
  go_wp2
  go_loopw [5, 6] (fun v5 v6 wr => ∃ (j nn : Nat), v6 = .int .i64 j ∧ j ≤ len ∧ nn ≤ j ∧ wr.ownsRow w.heap.size 3 1 v5 nn (ic (less (zs.take j) x)) ∧ Below w.heap.size w wr) (fun _ v6 _ => len + 1 - (intOf v6).toNat)
  case atStart => exact ⟨0, 0, rfl, Nat.zero_le _, Nat.le_refl _, ⟨rfl, .inl ⟨rfl, rfl⟩⟩, Below.refl _ _⟩
  case round =>
    obtain ⟨j, nn, rfl, hj, hnn, hown, hbl⟩ := hrel
    have hszb := hbl.size
    have HBL := Hid.mk' hbl
    by_cases hjl : j < len
    · obtain ⟨b, off, rfl, _, hcj⟩ := (HI.out.below hbl).at_ j hjl
      have hsn := less_snoc (zs.take j) x (zs.getD j 0)
      rw [← take_snoc (by omega)] at hsn
      generalize zs.getD j 0 = y at hcj hsn
      have HO : Hid (wr.ownsRow w.heap.size 3 1 u5 nn (ic (less (zs.take j) x))) := hown
      by_cases e : y = x
      · rw [if_pos e] at hsn
        have HS := Hid.mk' hsn
        subst e
        clear hown hbl hsn
        go_wp2
        exact ⟨⟨j + 1, nn, by simp, by omega, by omega, by rw [HS.out]; exact HO.out, HBL.out⟩, by simp [intOf]; omega⟩
      · rw [if_neg e] at hsn
        have HS := Hid.mk' hsn
        have hb2 : (y != x) = true := by rw [bne_iff_ne]; exact e
        have o2 := hown.alloc (.cells #[.int .i64 y] 3)
        have hone := one_at wr y
        clear hown hbl hsn
        go_wp2_with (first | (at_builtin; refine wpList_ints _ rfl _ _ rfl w.heap.size u5 nn _ [y] _ rfl o2 _ 1 1 rfl hone (fun h => by cases h) (by omega) (by simp; omega) rfl (nn + 1) rfl ?_; intro v' w7 o7 g7 _))
        refine ⟨⟨j + 1, nn + 1, by simp, by omega, by omega, by rw [HS.out]; exact o7, below_grown o2 g7 (HBL.out.alloc hszb _) (Nat.le_refl _)⟩, by simp [intOf]; omega⟩
    · obtain rfl : j = len := by omega
      rw [List.take_of_length_le (by omega), HY.out] at hown
      have hlen := hown.1
      rw [ic_length, Nat.mul_one] at hlen
      rw [← hlen] at hown
      have HO := Hid.mk' hown
      clear hown hbl
      go_wp2
      go_ret
      exact ⟨_, rfl, HO.out, HBL.out⟩

set_option maxHeartbeats 1000000 in
set_option maxRecDepth 100000 in
theorem more_any (w : World) (a : Option Addr) (len cap : Nat) (zs : List Int) (x : Int) (h : IntsAt w a len cap zs) (hn : a = none → len = 0 ∧ cap = 0) (h900 : len ≤ 900) (yy : List Int) (hy : zs ++ [x] = yy) :
    Calls Try.prog 37 #[.slice a len cap, .int .i64 x] w fun e w' => ∃ v, e = .returned v ∧ w'.ownsRow w.heap.size 3 1 v yy.length (ic yy) ∧ Below w.heap.size w w' := by
  have hle := h.hle
  have hc := h.hcap
  have hl := h.hlen
  unfold maxLen at hc
  have hyl : yy.length = len + 1 := by rw [← hy]; simp [hl]
  clear hc
  go_enter Try.func37, Try.ntmps37
  go_upto_region 3 with (first
    | (at_builtin; refine wpList_ints _ rfl _ _ rfl w.heap.size (.slice none 0 0) 0 [] zs zs rfl ⟨rfl, .inl ⟨rfl, rfl⟩⟩ a len cap rfl h hn (by omega) (Nat.le_refl _) (List.nil_append _) len (by omega) ?_; intro v' w5 o5 g5 _))
  have o6 := o5.alloc (.cells #[.int .i64 x] 3)
  have hone := one_at w5 x
  have hb5 : Below w.heap.size w w5 := ⟨g5.os, g5.tape, g5.output, g5.size, fun k hk => g5.block k hk (by simp [Value.ownBlock])⟩
  have HB := Hid.mk' hb5
  have hsz := hb5.size
  clear h o5 g5 hb5
  go_wp2_with (first
    | (at_builtin; refine wpList_ints _ rfl _ _ rfl w.heap.size v' len zs [x] yy rfl o6 _ 1 1 rfl hone (fun h => by cases h) (by omega) (by simp; omega) hy (len + 1) rfl ?_; intro v2 w7 o7 g7 _))
  go_ret
  rw [hyl]
  exact ⟨_, rfl, o7, below_grown o6 g7 (HB.out.alloc hsz _) (Nat.le_refl _)⟩

set_option maxRecDepth 100000 in
theorem same_q (a b : Option Addr) (len cap cap' : Nat) (zs : List Int) (w : World) (h : IntsAt w a len cap zs) (h' : IntsAt w b len cap' zs) :
    Calls Try.prog 28 #[.slice a len cap, .slice b len cap'] w fun e w' => e = .returned (.bool true) ∧ ∃ q, w' = w.drewN q := by
  have hl1 := h.hle
  have hc1 := h.hcap
  have hl2 := h'.hle
  have hc2 := h'.hcap
  unfold maxLen at hc1 hc2
  go_enter Try.func28, Try.ntmps28
  go_wp2
  go_loopw [5] (fun vi wr => ∃ (k q : Nat), k ≤ len ∧ vi = .int .i64 k ∧ wr = w.drewN q) (fun vi _ => len - (intOf vi).toNat)
  case atStart => exact ⟨0, 0, Nat.zero_le _, rfl, rfl⟩
  case round =>
    obtain ⟨k, q, hk, rfl, hwr⟩ := hrel
    subst hwr
    by_cases hlt : k < len
    · obtain ⟨b1, off1, rfl, _, c1⟩ := h.at_ k hlt
      obtain ⟨b2, off2, rfl, _, c2⟩ := h'.at_ k hlt
      generalize zs.getD k 0 = z at c1 c2
      have hkn : (k : Int) < (len : Int) := by omega
      clear h h'
      go_wp2
      go_quiet (fail)
      go_wp2
      refine ⟨⟨k + 1, _, by omega, by simp, rfl⟩, by simp [intOf]; omega⟩
    · go_wp2
      go_ret
      exact ⟨rfl, q, rfl⟩
theorem same_b (a b : Option Addr) (len cap cap' : Nat) (zs : List Int) (w : World) (h : IntsAt w a len cap zs) (h' : IntsAt w b len cap' zs) :
    Calls Try.prog 28 #[.slice a len cap, .slice b len cap'] w fun e w' => e = .returned (.bool true) ∧ Below w.heap.size w w' :=
  (same_q a b len cap cap' zs w h h').mono fun _ _ ⟨h1, q, h2⟩ => ⟨h1, by rw [h2]; exact below_drewN _ _⟩

end Go.Proofs.Ytedbiaopbfejfaa
