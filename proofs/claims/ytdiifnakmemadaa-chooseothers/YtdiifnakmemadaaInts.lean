/-
  Rows of ints of one's own; two rows of other types never share a block. Conditions: at most 1000 of them where one is appended.
-/
import Derived.Test.YtdiifnakmemadaaRows2
namespace Go.Proofs.Ytdiifnakmemadaa
open Go.ChangeShapes Go.WideShapes Go.ChangeAt Go.RowKit

def ic (zs : List Int) : List Value := zs.map (Value.int .i64)
theorem ic_length (zs : List Int) : (ic zs).length = zs.length := by simp [ic]
theorem ic_append (l r : List Int) : ic (l ++ r) = ic l ++ ic r := by simp [ic]
theorem ic_one (l : List Int) : ∀ u ∈ ic l, u.oneCell' = true := by
  intro u hu
  obtain ⟨x, _, rfl⟩ := List.mem_map.1 hu
  rfl

theorem owns_ints {w : World} {base n : Nat} {v : Value} {zs : List Int} (h : w.ownsRow base 3 1 v n (ic zs)) : ∃ a cap, v = .slice a n cap ∧ IntsAt w a n cap zs := by
  have h0 := h
  obtain ⟨hl, hcase⟩ := h
  rw [ic_length, Nat.mul_one] at hl
  rcases hcase with ⟨rfl, rfl⟩ | ⟨g, cap, cur, rfl, hb, hg, hn, hcap, _, _⟩
  · exact ⟨_, _, rfl, ⟨hl, Nat.le_refl _, Nat.zero_le _, fun j hj => absurd hj (Nat.not_lt_zero _)⟩⟩
  · refine ⟨_, _, rfl, ⟨hl, hn, hcap, fun j hj => ⟨g, 0, rfl, (Array.getElem?_eq_some_iff.1 hg).1, ?_⟩⟩⟩
    have := h0.cells (g := g) rfl j (.int .i64 (zs.getD j 0)) (by
      have : j < zs.length := by omega
      simp [ic, List.getD, this])
    have e0 : ((⟨g, 0, none⟩ : Addr).add j) = ⟨g, 0 + j, none⟩ := by unfold Addr.add; split <;> simp_all
    rw [e0] at this
    exact this

theorem int_at (w : World) (x : Int) : ∀ j u, (ic [x])[j]? = some u → (w.alloc (.cells #[.int .i64 x] 3)).cell? ((⟨w.heap.size, 0, none⟩ : Addr).add j) = some u :=
  World.news_of_block (cs := #[.int .i64 x]) (t := 3) (fr := (0, 0)) (heap_alloc_new w _)

/-- One int is appended, laid by the call. -/
theorem wpList_int (w : World) {ops : Array Oper} {rest : List Oper} {o : Oper} {a : Act} {Q : Exit → Act → World → Prop} (hgd : o.guard = none) (s x : Operand)
    (ho : o.op = .call { callee := .builtin .append, args := #[s, x], argTypes := #[41, 41] }) (base : Nat) (v : Value) (n : Nat) (xs : List Int) (z : Int) (hs0 : a.eval s = v) (hown : w.ownsRow base 3 1 v n (ic xs)) (ao : Addr) (c : Nat)
    (hx : a.eval x = .slice (some ao) 1 c) (hB : ∀ j u, (ic [z])[j]? = some u → w.cell? (ao.add j) = some u) (hn : n ≤ 1000) (hbase : base ≤ w.heap.size) (zs : List Int) (hz : xs ++ [z] = zs)
    (hq : ∀ v' w', w'.ownsRow base 3 1 v' (n + 1) (ic zs) → w.grownBy w' v.ownBlock → wpList Try.prog ops Q rest (a.put o.dst v') w') : wpList Try.prog ops Q (o :: rest) a w := by
  obtain ⟨i, hi, hz0, hz1, hz2⟩ := info_parts info3
  subst hz
  refine wpList_append_own w hgd s x 41 ho base 3 i _ 1 8 Try.underlying41 hi hz0 hz1 hz2 rfl (by decide) v n _ hs0 hown ao 1 c (ic [z]) hx rfl hB (ic_one _) (by unfold maxLen; omega) (by omega) hbase ?_
  intro v' w' h1 h2 _
  exact hq v' w' (by rw [ic_append]; exact h1) h2

/-- Two rows of other types share no block. -/
theorem rows_ne {w : World} {b1 b2 s1 s2 n1 n2 : Nat} {t1 t2 : TypeId} {v1 v2 : Value} {c1 c2 : List Value} (h1 : w.ownsRow b1 t1 s1 v1 n1 c1) (h2 : w.ownsRow b2 t2 s2 v2 n2 c2) (ht : t1 ≠ t2) : ∀ k, v1.ownBlock = some k → v2.ownBlock ≠ some k := by
  intro k e1 e2
  rcases h1.2 with ⟨rfl, _⟩ | ⟨g, cap, cur, rfl, _, hg, _⟩
  · cases e1
  · rcases h2.2 with ⟨rfl, _⟩ | ⟨g2, cap2, cur2, rfl, _, hg2, _⟩
    · cases e2
    · have e3 : g = k := by simpa [Value.ownBlock] using e1
      have e4 : g2 = k := by simpa [Value.ownBlock] using e2
      rw [e3] at hg
      rw [e4, hg] at hg2
      simp only [Option.some.injEq, Obj.cells.injEq] at hg2
      exact ht hg2.2.1
theorem owns_grown {w w' : World} {base t s n : Nat} {v : Value} {cs : List Value} {row : Option Nat} (h : w.ownsRow base t s v n cs) (hg : w.grownBy w' row) (hne : ∀ k, v.ownBlock = some k → row ≠ some k) : w'.ownsRow base t s v n cs := by
  refine ⟨h.1, ?_⟩
  rcases h.2 with h1 | ⟨g, cap, cur, rfl, hbs, hgg, r⟩
  · exact .inl h1
  · exact .inr ⟨g, cap, cur, rfl, hbs, (hg.block g (lt_of_heap hgg) (fun e => hne g rfl e.symm)).trans hgg, r⟩

end Go.Proofs.Ytdiifnakmemadaa
