/-
  What Same, kind and early of the laws do, each as a contract; ids that are all different. Conditions: the slices lie where they are said to lie.
-/
import Derived.Test.YtcndgcfdopjjfaaLateW
namespace Go.Proofs.Ytcndgcfdopjjfaa
open Go.ChangeShapes Go.WideShapes Go.ChangeAt Go.RowKit

set_option maxRecDepth 100000 in
theorem same_q (a b : Option Addr) (len cap cap' : Nat) (zs : List Int) (w : World) (h : IntsAt w a len cap zs) (h' : IntsAt w b len cap' zs) :
    Calls Try.prog 20 #[.slice a len cap, .slice b len cap'] w fun e w' => e = .returned (.bool true) ∧ ∃ q, w' = w.drewN q := by
  have hl1 := h.hle
  have hc1 := h.hcap
  have hl2 := h'.hle
  have hc2 := h'.hcap
  unfold maxLen at hc1 hc2
  go_enter Try.func20, Try.ntmps20
  go_wp2
  go_loopw [5] (fun vi wr => ∃ (k q : Nat), k ≤ len ∧ vi = .int .i64 k ∧ wr = w.drewN q) (fun vi _ => len - (intOf vi).toNat)
  case atStart => exact ⟨0, 0, Nat.zero_le _, rfl, rfl⟩
  case round =>
    obtain ⟨k, q, hk, rfl, hwr⟩ := hrel
    subst hwr
    by_cases hlt : k < len
    · obtain ⟨b1, off1, rfl, _, c1⟩ := h.at_ k hlt
      obtain ⟨b2, off2, rfl, _, c2⟩ := h'.at_ k hlt
      generalize zs.getD k 0 = z at c1 c2
      have hkn : (k : Int) < (len : Int) := by omega
      clear h h'
      go_wp2
      go_quiet (fail)
      go_wp2
      refine ⟨⟨k + 1, _, by omega, by simp, rfl⟩, by simp [intOf]; omega⟩
    · go_wp2
      go_ret
      exact ⟨rfl, q, rfl⟩
theorem below_drewN (w : World) (q : Nat) : Below w.heap.size w (w.drewN q) := ⟨rfl, rfl, rfl, Nat.le_refl _, fun _ _ => rfl⟩
theorem same_b (a b : Option Addr) (len cap cap' : Nat) (zs : List Int) (w : World) (h : IntsAt w a len cap zs) (h' : IntsAt w b len cap' zs) :
    Calls Try.prog 20 #[.slice a len cap, .slice b len cap'] w fun e w' => e = .returned (.bool true) ∧ Below w.heap.size w w' :=
  (same_q a b len cap cap' zs w h h').mono fun _ _ ⟨h1, q, h2⟩ => ⟨h1, by rw [h2]; exact below_drewN _ _⟩

/-- A step's kind. -/
def kindI (z : Int) : Int := wrap64 ((IntKind.u64.wrap z).tmod 5)
theorem kindI_of (z : Int) : (kindI z = 0 ∨ kindI z = 1) ∨ kindI z = 2 ∨ kindI z = 3 ∨ kindI z = 4 := by
  have := um_bd 5 z (by decide) (by decide)
  unfold kindI
  omega

set_option maxRecDepth 100000 in
theorem kind_step (kd id now wt : Int) (w : World) :
    Calls Try.prog 12 #[.agg #[.int .i64 kd, .int .i64 id, .int .i64 now, .int .i64 wt]] w fun e w' => e = .returned (.int .i64 (kindI kd)) ∧ Below w.heap.size w w' := by
  have hb : Below w.heap.size w (w.alloc (.cells #[.int .i64 kd, .int .i64 id, .int .i64 now, .int .i64 wt] 32)) := (Below.refl _ w).alloc (Nat.le_refl _) _
  have HX : Hid (wrap64 ((IntKind.u64.wrap kd).tmod 5) = kindI kd) := rfl
  go_enter Try.func12, Try.ntmps12
  go_wp2
  go_ret
  exact ⟨by first | rfl | (rw [← HX.out]), hb⟩

set_option maxRecDepth 100000 in
theorem early_any (a : Option Addr) (len cap n : Nat) (hl : len ≤ cap) (hc : cap ≤ maxLen) (hn : min len 100 = n) (w : World) :
    Calls Try.prog 11 #[.slice a len cap] w fun e w' => e = .returned (.slice a n cap) ∧ w' = w := by
  unfold maxLen at hc
  have hn2 : (if (100 : Int) < (len : Int) then (100 : Int) else (len : Int)) = (n : Int) := by split <;> omega
  have hn3 : n ≤ 100 := by omega
  have hn4 : n ≤ len := by omega
  clear hn
  go_enter Try.func11, Try.ntmps11
  go_wp2
  go_ret
  exact ⟨rfl, rfl⟩

/-- All are different. -/
def Dst (l : List Int) : Prop := l.Pairwise (· ≠ ·)
theorem Dst.nil : Dst [] := List.Pairwise.nil
theorem Dst.filter {l : List Int} (h : Dst l) (p : Int → Bool) : Dst (l.filter p) := List.Pairwise.filter p h
theorem Dst.more {l : List Int} {x : Int} (h : Dst l) (hx : x ∉ l) : Dst (l ++ [x]) := by
  unfold Dst
  rw [List.pairwise_append]
  refine ⟨h, List.pairwise_singleton _ _, fun a ha b hb => ?_⟩
  rw [List.mem_singleton] at hb
  rintro rfl
  exact hx (hb ▸ ha)
theorem Dst.inj {l : List Int} (h : Dst l) {i j : Nat} (hi : i < l.length) (hj : j < l.length) (e : l.getD i 0 = l.getD j 0) : i = j := by
  have hp := List.pairwise_iff_getElem.1 h
  simp [List.getD, hi, hj] at e
  rcases Nat.lt_trichotomy i j with h1 | h1 | h1
  · exact absurd e (hp i j hi hj h1)
  · exact h1
  · exact absurd e.symm (hp j i hj hi h1)
theorem Dst.plc {l : List Int} (h : Dst l) {j : Nat} (hj : j < l.length) (x : Int) : l.getD j 0 = x ↔ ((j : Nat) : Int) = plc x l := by
  by_cases hx : x ∈ l
  · have hf := (fidx_mem x l).2 hx
    rw [plc_mem hx]
    constructor
    · intro e
      have := h.inj hj hf (e.trans (fidx_at x l hf).symm)
      omega
    · intro e
      have e1 : j = fidx x l := by omega
      rw [e1]
      exact fidx_at x l hf
  · rw [plc_not hx]
    constructor
    · intro e
      exfalso
      apply hx
      rw [← e]
      simp [List.getD, hj]
    · intro e
      omega
theorem Dst.tail {x : Int} {l : List Int} (h : Dst (x :: l)) : (x :: l).filter (fun y => !([x].contains y)) = l := by
  rw [List.filter_cons, if_neg (by simp), List.filter_eq_self.2]
  intro y hy
  have := (List.pairwise_cons.1 h).1 y hy
  simp
  exact fun e => this e.symm

end Go.Proofs.Ytcndgcfdopjjfaa
