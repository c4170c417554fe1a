/-
  A waiter put into a row where there is room; how far takeOut is, and how it goes on. Conditions: the row lies where it is said to lie.
-/
import Derived.Test.YtcndgcfdopjjfaaInts
import Derived.WalkMore
import Derived.Deep.LoopGhost
namespace Go.Proofs.Ytcndgcfdopjjfaa
open Go.ChangeShapes Go.WideShapes Go.ChangeAt Go.RowKit

theorem info66 : (Try.prog.info? 66).map (fun i => (i.zero, i.size, i.bytes)) = some (some (.agg #[.int .i64 0, .int .i64 0]), 2, 16) := by kernel_rfl

theorem row_set {w : World} {b : Nat} {l : List Wt} (hg : w.heap[b]? = some (.cells (flat l).toArray 66 (0, 0))) (n : Nat) (p : Wt) :
    (w.setCells b (n * 2) [.int .i64 p.1, .int .i64 p.2]).heap[b]? = some (.cells (flat (l.set n p)).toArray 66 (0, 0)) := by
  have e1 : w.setCells b (n * 2) [.int .i64 p.1, .int .i64 p.2] = (w.setCell ⟨b, n * 2, none⟩ (.int .i64 p.1)).setCell ⟨b, n * 2 + 1, none⟩ (.int .i64 p.2) := rfl
  rw [e1, heap_setCell_same _ b _ _ 66 _ (heap_setCell_same w b _ _ 66 _ hg), flat_set]
  simp
theorem set_other (w : World) (b o k : Nat) (u v : Value) (h : k ≠ b) : (w.setCells b o [u, v]).heap[k]? = w.heap[k]? := by
  have e1 : w.setCells b o [u, v] = (w.setCell ⟨b, o, none⟩ u).setCell ⟨b, o + 1, none⟩ v := rfl
  rw [e1, heap_setCell_other _ _ k _ h, heap_setCell_other _ _ k _ h]
theorem set_size (w : World) (b o : Nat) (u v : Value) : (w.setCells b o [u, v]).heap.size = w.heap.size := by
  have e1 : w.setCells b o [u, v] = (w.setCell ⟨b, o, none⟩ u).setCell ⟨b, o + 1, none⟩ v := rfl
  rw [e1, World.size_setCell, World.size_setCell]
theorem Keep.set2 {A : Nat → Prop} {a w : World} (h : Keep A a w) {b : Nat} (hx : ¬ A b) (o : Nat) (u v : Value) : Keep A a (w.setCells b o [u, v]) := by
  have e1 : w.setCells b o [u, v] = (w.setCell ⟨b, o, none⟩ u).setCell ⟨b, o + 1, none⟩ v := rfl
  rw [e1]
  exact (h.setCell hx _).setCell hx _

/-- One waiter more, where there is room. -/
theorem run_put (w : World) (ty : TypeId) (b n cap : Nat) (l : List Wt) (p : Wt) (ad : Addr) (c : Nat) (hg : w.heap[b]? = some (.cells (flat l).toArray 66 (0, 0))) (hl : l.length = cap) (hn : n < cap)
    (hx : w.cell? ad = some (.int .i64 p.1)) (hy : w.cell? (ad.add 1) = some (.int .i64 p.2)) :
    (Builtin.append_ #[60, 60] ty #[.slice (some ⟨b, 0, none⟩) n cap, .slice (some ad) 1 c]).run Try.prog w = .ok (.slice (some ⟨b, 0, none⟩) (n + 1) cap) (w.setCells b (n * 2) [.int .i64 p.1, .int .i64 p.2]) := by
  obtain ⟨i, hi, hz0, hz1, hz2⟩ := info_parts info66
  have hs : Src Try.prog i.size 60 (.slice (some ad) 1 c) 1 [.int .i64 p.1, .int .i64 p.2] w := by
    rw [hz1]
    refine Src.ofSlice (P := Try.prog) (e' := 66) w Try.underlying60 ad 1 c _ rfl (fun j u hj => ?_) (by simp [Value.oneCell'])
    match j, hj with
    | 0, hj => simp at hj; subst hj; simpa [Addr.add] using hx
    | 1, hj => simp at hj; subst hj; exact hy
  have hcells : ∀ j, j < 2 → (w.cell? ⟨b, n * 2 + j, none⟩).isSome = true := fun j hj => by
    have := row_cells hg (show n < l.length by omega)
    match j, hj with
    | 0, _ => rw [Nat.add_zero, this.1]; rfl
    | 1, _ => rw [this.2]; rfl
  have hrun := run_append_room_src (P := Try.prog) w 60 60 ty 66 i Try.underlying60 hi b 0 n cap _ 1 _ hs (by omega) (fun j hj => by rw [hz1, Nat.zero_add]; exact hcells j (by simpa using hj)) (fun j _ => row_frozen hg _)
  rw [hz1, Nat.zero_add] at hrun
  exact hrun

theorem wpList_put {ops : Array Oper} {rest : List Oper} {o : Oper} {act : Act} {w : World} {Q : Exit → Act → World → Prop} (hgd : o.guard = none) (s y : Operand)
    (ho : o.op = .call { callee := .builtin .append, args := #[s, y], argTypes := #[60, 60] }) (b n cap : Nat) (l : List Wt) (p : Wt) (ad : Addr) (c : Nat)
    (hs : act.eval s = .slice (some ⟨b, 0, none⟩) n cap) (hy : act.eval y = .slice (some ad) 1 c) (hg : w.heap[b]? = some (.cells (flat l).toArray 66 (0, 0))) (hl : l.length = cap) (hn : n < cap)
    (hx : w.cell? ad = some (.int .i64 p.1)) (hy' : w.cell? (ad.add 1) = some (.int .i64 p.2))
    (hK : wpList Try.prog ops Q rest (act.put o.dst (.slice (some ⟨b, 0, none⟩) (n + 1) cap)) (w.setCells b (n * 2) [.int .i64 p.1, .int .i64 p.2])) : wpList Try.prog ops Q (o :: rest) act w := by
  refine wpList_plain hgd fun K hK' => ?_
  have hrun := run_put w o.type b n cap l p ad c hg hl hn hx hy'
  unfold Oper.wp
  simp [execOp, ho, resolve, invoke, builtin, hs, hy, hrun, Result.andThen]
  exact hK' _ _ hK

/-- How far takeOut is. -/
structure Tk (w : World) (A : Nat → Prop) (g c b R m cap : Nat) (L l : List Wt) (ids : List Int) (i : Nat) (wr : World) : Prop where
  row : ∃ l' : List Wt, l'.length = cap ∧ l'.take (without ids (L.take i)).length = without ids (L.take i) ∧ (∀ j, i ≤ j → nthW l' j = nthW l j) ∧ wr.heap[b]? = some (.cells (flat l').toArray 66 (0, 0))
  ch : ∃ s r, wr.heap[c]? = some (.chan R (Array.replicate (m + (i - (without ids (L.take i)).length)) tok) false s r false)
  gb : wr.heap[g]? = w.heap[g]?
  kp : Keep A w wr

theorem lt_of_heap {w : World} {k : Nat} {o : Obj} (h : w.heap[k]? = some o) : k < w.heap.size := (Array.getElem?_eq_some_iff.1 h).1

section
variable {w wr wx : World} {A : Nat → Prop} {g c b R m cap : Nat} {L l : List Wt} {ids : List Int} {i : Nat}

theorem Tk.below (h : Tk w A g c b R m cap L l ids i wr) (hg : g < w.heap.size) (hb : Below wr.heap.size wr wx) : Tk w A g c b R m cap L l ids i wx := by
  obtain ⟨⟨l', h1, h2, h3, h4⟩, ⟨s, r, h5⟩, h6, h7⟩ := h
  refine ⟨⟨l', h1, h2, h3, by rw [hb.block b (lt_of_heap h4)]; exact h4⟩, ⟨s, r, by rw [hb.block c (lt_of_heap h5)]; exact h5⟩, ?_, h7.trans (keep_below hb)⟩
  have := h7.size
  rw [hb.block g (by omega)]; exact h6

theorem take_snoc {i : Nat} (hi : i < L.length) : L.take (i + 1) = L.take i ++ [nthW L i] := by
  rw [List.take_add_one, nthW_get? hi]; rfl

/-- One is taken out. -/
theorem Tk.sent (h : Tk w A g c b R m cap L l ids i wr) (hcA : ¬ A c) (hcg : c ≠ g) (hcb : c ≠ b) (hi : i < L.length) (hin : ids.contains (nthW L i).1 = true) {s r : Nat} :
    Tk w A g c b R m cap L l ids (i + 1) (wr.setChan c R (Array.replicate (m + (i - (without ids (L.take i)).length) + 1) tok) false s r false) := by
  obtain ⟨⟨l', h1, h2, h3, h4⟩, ⟨s', r', h5⟩, h6, h7⟩ := h
  have e1 : without ids (L.take (i + 1)) = without ids (L.take i) := by rw [take_snoc hi, without_snoc, if_pos hin, List.append_nil]
  have hle := without_len ids (L.take i)
  rw [List.length_take] at hle
  have e2 : m + (i + 1 - (without ids (L.take i)).length) = m + (i - (without ids (L.take i)).length) + 1 := by omega
  refine ⟨⟨l', h1, by rw [e1]; exact h2, fun j hj => h3 j (by omega), by rw [setChan_other _ _ _ _ _ _ _ _ _ hcb]; exact h4⟩, ⟨s, r, ?_⟩, by rw [setChan_other _ _ _ _ _ _ _ _ _ hcg]; exact h6, h7.setChan hcA _ _ _ _ _ _⟩
  rw [e1, e2]
  exact Conc.heap_setChan _ _ _ _ _ _ _ _ (lt_of_heap h5)

/-- One is left. -/
theorem Tk.left (h : Tk w A g c b R m cap L l ids i wr) (hbA : ¬ A b) (hcb : c ≠ b) (hgb : g ≠ b) (hi : i < L.length) (hin : ids.contains (nthW L i).1 = false) (hcap : L.length ≤ cap) :
    Tk w A g c b R m cap L l ids (i + 1) (wr.setCells b ((without ids (L.take i)).length * 2) [.int .i64 (nthW L i).1, .int .i64 (nthW L i).2]) := by
  obtain ⟨⟨l', h1, h2, h3, h4⟩, ⟨s', r', h5⟩, h6, h7⟩ := h
  have e1 : without ids (L.take (i + 1)) = without ids (L.take i) ++ [nthW L i] := by rw [take_snoc hi, without_snoc, if_neg (by rw [hin]; simp)]
  have hle := without_len ids (L.take i)
  rw [List.length_take] at hle
  have e2 : m + (i + 1 - ((without ids (L.take i)).length + 1)) = m + (i - (without ids (L.take i)).length) := by omega
  refine ⟨⟨l'.set (without ids (L.take i)).length (nthW L i), by simpa using h1, ?_, fun j hj => ?_, row_set h4 _ _⟩, ⟨s', r', ?_⟩, by rw [set_other _ _ _ _ _ _ hgb]; exact h6, h7.set2 hbA _ _ _⟩
  · rw [e1, List.length_append, List.length_singleton]
    generalize without ids (L.take i) = K at *
    rw [List.take_add_one, List.take_set_of_le (Nat.le_refl _), h2, List.getElem?_set_self (by omega)]
    rfl
  · rw [← h3 j (by omega)]
    unfold nthW
    simp only [List.getD]
    rw [List.getElem?_set_ne (by omega)]
  · rw [e1, List.length_append, List.length_singleton, e2, set_other _ _ _ _ _ _ hcb]
    exact h5
end

end Go.Proofs.Ytcndgcfdopjjfaa
