/-
  What stands ahead of PoolLast's walk: the calls of the law, at the lists that it has. Conditions: the pool lies where it is said to lie.
-/
import Derived.Test.YtedbiaopbfejfaaFew
namespace Go.Proofs.Ytedbiaopbfejfaa
open Go.ChangeShapes Go.WideShapes Go.ChangeAt Go.RowKit Go.Maps

/-- 0, 1, .., one less than i. -/
def ri (i : Nat) : List Int := (List.range i).map (fun x : Nat => (x : Int))
theorem ri_succ (i : Nat) : ri (i + 1) = ri i ++ [(i : Int)] := by unfold ri; rw [List.range_succ, List.map_append]; rfl
theorem ri_length (i : Nat) : (ri i).length = i := by simp [ri]
theorem mem_ri {i : Nat} {x : Int} : x ∈ ri i ↔ 0 ≤ x ∧ x < i := by
  unfold ri
  rw [List.mem_map]
  constructor
  · rintro ⟨y, hy, rfl⟩
    have := List.mem_range.1 hy
    omega
  · rintro ⟨h1, h2⟩
    exact ⟨x.toNat, List.mem_range.2 (by omega), by omega⟩

theorem getD_snoc (l : List Int) (x : Int) : (l ++ [x]).getD ((l ++ [x]).length - 1) 0 = x := by simp [List.getD]
theorem less_end {l : List Int} {x : Int} (h : (l ++ [x]).Nodup) : less (l ++ [x]) x = l := by
  have hx : x ∉ l := fun hx => by
    have := (List.nodup_append.1 h).2.2 x hx x (by simp)
    exact this rfl
  rw [less_snoc, if_pos rfl, less_not hx]

section
variable {w : World} {A : Nat → Prop} {g R K : Nat} {M l B : List Int} {x : Int}
theorem take_end (h : PAt w A g R ⟨M, l ++ [x], B⟩ K) :
    Calls Try.prog 18 #[.pointer (some ⟨g, 0, none⟩)] w fun e w' => e = .returned (.tuple #[.int .i64 x, .bool true]) ∧ PAt w' A g R ⟨M, l, B ++ [x]⟩ K ∧ Keep A w w' := by
  have ht := take_w h
  obtain ⟨cn, hi⟩ := h.q.inv
  have e1 : tkI ⟨M, l ++ [x], B⟩ = x := getD_snoc l x
  have e2 : takeS ⟨M, l ++ [x], B⟩ = ⟨M, l, B ++ [x]⟩ := by
    unfold takeS
    rw [if_neg (by simp), e1]
    unfold tk
    show St.mk M (less (l ++ [x]) x) (B ++ [x]) = _
    rw [less_end hi.nI]
  have e3 : decide (0 < (⟨M, l ++ [x], B⟩ : St).I.length) = true := by simp
  rw [e1, e2, e3] at ht
  exact ht
theorem take_empty (h : PAt w A g R ⟨M, [], B⟩ K) :
    Calls Try.prog 18 #[.pointer (some ⟨g, 0, none⟩)] w fun e w' => e = .returned (.tuple #[.int .i64 0, .bool false]) ∧ PAt w' A g R ⟨M, [], B⟩ K ∧ Keep A w w' := take_w h
end

section
variable {w : World} {A : Nat → Prop} {g N K i : Nat}
theorem make_next (h : PAt w A g N ⟨[], ri i, []⟩ K) (hi : i < N) (hN : N ≤ 8) :
    Calls Try.prog 14 #[.pointer (some ⟨g, 0, none⟩), .int .i64 i] w fun e w' => e = .returned (.int .i64 0) ∧ PAt w' A g N ⟨[(i : Int)], ri i, []⟩ K ∧ Keep A w w' := by
  have hm := make_w h (small_wf (n := (i : Int)) (by omega) (by omega))
  have h1 : (i : Int) ∉ (⟨[], ri i, []⟩ : St).ids := by
    rw [mem_ids]
    simp [mem_ri]
  have h2 : ¬ N ≤ (⟨[], ri i, []⟩ : St).ids.length := by
    simp [St.ids, ri_length]
    omega
  unfold makeE makeS at hm
  rw [if_neg h1, if_neg h2, if_neg h1, if_neg h2] at hm
  exact hm
theorem ready_next (h : PAt w A g N ⟨[(i : Int)], ri i, []⟩ K) (hi : i ≤ 8) (hK : K ≤ 1000000) :
    Calls Try.prog 16 #[.pointer (some ⟨g, 0, none⟩), .int .i64 i] w fun e w' => e = .returned (.bool true) ∧ PAt w' A g N ⟨[], ri (i + 1), []⟩ (K + 1) ∧ Keep A w w' := by
  have hm := ready_w h hK (small_wf (n := (i : Int)) (by omega) (by omega))
  have h1 : (i : Int) ∈ (⟨[(i : Int)], ri i, []⟩ : St).M := by simp
  unfold readyS at hm
  rw [if_pos h1, decide_eq_true h1] at hm
  have e : rdy ⟨[(i : Int)], ri i, []⟩ i = ⟨[], ri (i + 1), []⟩ := by
    unfold rdy
    rw [ri_succ]
    congr 1
    unfold less
    simp
  rw [e] at hm
  exact hm

/-- The third loop's pool: G was given back, the others are busy. -/
structure GB (w : World) (A : Nat → Prop) (g N : Nat) (G B : List Int) (K : Nat) : Prop where
  p : PAt w A g N ⟨[], G, B⟩ K
  mem : ∀ x, x ∈ B ↔ (0 ≤ x ∧ x < N) ∧ x ∉ G
  len : G.length + B.length = N

theorem GB.give {G B : List Int} (h : GB w A g N G B K) {k : Int} (h0 : 0 ≤ k) (h1 : k < N) (hK : K ≤ 1000000) (hN : N ≤ 8) (b : Bool) (hb : decide (k ∈ G) = b) :
    Calls Try.prog 20 #[.pointer (some ⟨g, 0, none⟩), .int .i64 k] w fun e w' => e = .returned (.bool (!b)) ∧ (∃ B', GB w' A g N (if b then G else G ++ [k]) B' (K + 1)) ∧ Keep A w w' := by
  have hm := give_w h.p hK (small_wf h0 (by omega))
  obtain ⟨cn, hi⟩ := h.p.q.inv
  subst hb
  unfold giveS at hm
  by_cases hk : k ∈ G
  · have hkB : k ∉ B := fun hB => ((h.mem k).1 hB).2 hk
    have hkB' : k ∉ (⟨[], G, B⟩ : St).B := hkB
    rw [if_neg hkB', decide_eq_false hkB'] at hm
    rw [decide_eq_true hk, if_pos rfl]
    exact hm.mono fun e w' ⟨h2, h3, h4⟩ => ⟨h2, ⟨B, h3, h.mem, h.len⟩, h4⟩
  · have hkB : k ∈ B := (h.mem k).2 ⟨⟨h0, h1⟩, hk⟩
    have hkB' : k ∈ (⟨[], G, B⟩ : St).B := hkB
    rw [if_pos hkB', decide_eq_true hkB'] at hm
    rw [decide_eq_false hk, if_neg (by simp)]
    refine hm.mono fun e w' ⟨h2, h3, h4⟩ => ⟨h2, ⟨less B k, h3, fun x => ?_, ?_⟩, h4⟩
    · rw [mem_less, h.mem x, List.mem_append, List.mem_singleton]
      constructor
      · rintro ⟨⟨q1, q2⟩, q3⟩
        exact ⟨q1, fun q => q.elim q2 q3⟩
      · rintro ⟨q1, q2⟩
        exact ⟨⟨q1, fun q => q2 (.inl q)⟩, fun q => q2 (.inr q)⟩
    · have := less_len hi.nB hkB'
      have hl := h.len
      have e : (⟨[], G, B⟩ : St).B = B := rfl
      rw [e] at this
      simp
      omega
theorem GB.had {G B : List Int} (h : GB w A g N G B K) {k : Int} (h0 : 0 ≤ k) (h1 : k < N) (hK : K ≤ 1000000) (hN : N ≤ 8) (hb : decide (k ∈ G) = true) :
    Calls Try.prog 20 #[.pointer (some ⟨g, 0, none⟩), .int .i64 k] w fun e w' => e = .returned (.bool false) ∧ (∃ B', GB w' A g N G B' (K + 1)) ∧ Keep A w w' := by
  have := h.give h0 h1 hK hN true hb
  rw [if_pos rfl] at this
  exact this
theorem GB.new {G B : List Int} (h : GB w A g N G B K) {k : Int} (h0 : 0 ≤ k) (h1 : k < N) (hK : K ≤ 1000000) (hN : N ≤ 8) (hb : decide (k ∈ G) = false) :
    Calls Try.prog 20 #[.pointer (some ⟨g, 0, none⟩), .int .i64 k] w fun e w' => e = .returned (.bool true) ∧ (∃ B', GB w' A g N (G ++ [k]) B' (K + 1)) ∧ Keep A w w' := by
  have := h.give h0 h1 hK hN false hb
  rw [if_neg (by simp)] at this
  exact this

/-- What is given back is written into a row of the law's own. -/
theorem GB.row {w2 : World} {A' : Nat → Prop} {G B : List Int} (h : GB w A g N G B K) {o : Obj} {row : Option Nat} (hg : (w.alloc o).grownBy w2 row) (hr : ∀ k, row = some k → A k) (hA : ∀ k, A' k → A k ∨ k = (w.alloc o).heap.size) (hs : ∀ k, A' k → k < w2.heap.size) : GB w2 A' g N G B K :=
  ⟨h.p.keep (((Keep.refl _ w).alloc o).trans (keep_grown hg (fun k e hn => hn (hr k e)))) (fun k hk => (hA k hk).imp id (fun e => by rw [e]; simp)) hs, h.mem, h.len⟩

end

end Go.Proofs.Ytedbiaopbfejfaa
