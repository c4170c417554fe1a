/-
  An append of bytes onto a row of the call's own, whatever the slice is; what a frame's box holds. No conditions.
-/
import Derived.Test.YtbpflpngaipckaaConv
import Derived.Test.YtbpflpngaipckaaEnc
import Derived.Laws.AppendOwnNone
namespace Go.Proofs.Ytbpflpngaipckaa
open Go.ChangeShapes Go.WideShapes Go.ChangeAt Go.RowKit

/-- What a frame's box holds when it has been written anew. -/
theorem boxedB {w w2 wA : World} {k : Int} {s S : ByteArray} (hb : Below (w.heap.size + 1) (w.alloc (.cells #[.int .i64 k, .string s] 48)) w2)
    (hA : (w2.setCell ⟨w.heap.size, 0, none⟩ (.int .i64 k)).setCell ⟨w.heap.size, 1, none⟩ (.string S) = wA) :
    wA.cell? ⟨w.heap.size, 0, none⟩ = some (.int .i64 k) ∧ wA.cell? ⟨w.heap.size, 1, none⟩ = some (.string S) ∧ Below w.heap.size w wA ∧ w.heap.size < wA.heap.size := by
  obtain ⟨h0, h1⟩ := box_cells hb
  subst hA
  refine ⟨?_, ?_, ?_, ?_⟩
  · simp [go_sem, h0]
  · simp [go_sem, h1]
  · exact ((((Below.refl _ _).alloc (Nat.le_refl _) _).trans (hb.mono (by omega))).setCell (Nat.le_refl _) _).setCell (Nat.le_refl _) _
  · have := hb.size
    simp at this
    simp [World.setCell]
    omega

/-- An owned row of some bytes lies at a block's head. -/
theorem owns_some {w : World} {base n : Nat} {v : Value} {bs : List UInt8} (h : w.ownsRow base 5 1 v n (bc bs)) (hn : 0 < n) :
    ∃ g cap, v = .slice (some ⟨g, 0, none⟩) n cap ∧ base ≤ g ∧ g < w.heap.size ∧ ∀ j u, (bc bs)[j]? = some u → w.cell? ((⟨g, 0, none⟩ : Addr).add j) = some u := by
  have h0 := h
  obtain ⟨hl, hcase⟩ := h
  rcases hcase with ⟨rfl, rfl⟩ | ⟨g, cap, cur, rfl, hb, hg, _, _, _, _⟩
  · omega
  · exact ⟨g, cap, rfl, hb, (Array.getElem?_eq_some_iff.1 hg).1, h0.cells (g := g) rfl⟩

theorem bc_one (bs : List UInt8) : ∀ u ∈ bc bs, u.oneCell' = true := by
  intro u hu
  simp only [bc, List.mem_map] at hu
  obtain ⟨b, _, rfl⟩ := hu
  rfl

theorem bc_append (l r : List UInt8) : bc (l ++ r) = bc l ++ bc r := by simp [bc]

/-- The cells that a slice of bytes hands to an append. -/
theorem BytesAt.news {w : World} {x : Addr} {len cap : Nat} {bs : List UInt8} (h : BytesAt w (some x) len cap bs) : ∀ j u, (bc bs)[j]? = some u → w.cell? (x.add j) = some u := by
  intro j u hu
  have hj : j < bs.length := by
    have := (List.getElem?_eq_some_iff.1 hu).1
    simpa [bc_length] using this
  obtain ⟨b, off, e, _, hc⟩ := h.at_ j (by have := h.hlen; omega)
  cases e
  have e0 : ((⟨b, off, none⟩ : Addr).add j) = ⟨b, off + j, none⟩ := by unfold Addr.add; split <;> simp_all
  rw [e0, hc]
  simp [bc, List.getD, hj] at hu ⊢
  exact hu

/-- An append of bytes onto a row of the call's own, whatever the slice is: nil, empty or not. -/
theorem append_bytes_any (w : World) {ops : Array Oper} {rest : List Oper} {o : Oper} {a : Act} {Q : Exit → Act → World → Prop} (hgd : o.guard = none) (s x : Operand)
    (ho : o.op = .call { callee := .builtin .append, args := #[s, x], argTypes := #[50, 50] }) (base : Nat) (i : TypeInfo) (hi : Try.prog.info? 5 = some i) (hz : i.zero = some (.int .u8 0)) (hsize : i.size = 1) (hby : i.bytes = 1)
    (v : Value) (n : Nat) (xs ys : List UInt8) (hs : a.eval s = v) (hown : w.ownsRow base 5 1 v n (bc xs)) (ao : Option Addr) (m c : Nat) (hx : a.eval x = .slice ao m c) (hB : BytesAt w ao m c ys) (hnone : ao = none → m = 0 ∧ c = 0)
    (h63 : n + m ≤ maxLen) (hbytes : n + m ≤ 140737488355328) (hbase : base ≤ w.heap.size)
    (h : ∀ v' w', w'.ownsRow base 5 1 v' (n + m) (bc (xs ++ ys)) → w.grownBy w' v.ownBlock → wpList Try.prog ops Q rest (a.put o.dst v') w') : wpList Try.prog ops Q (o :: rest) a w := by
  cases ao with
  | none =>
    obtain ⟨rfl, rfl⟩ := hnone rfl
    obtain rfl : ys = [] := List.eq_nil_of_length_eq_zero hB.hlen
    exact wpList_append_own_none hgd s x 50 ho base 5 i 1 Try.underlying50 hi v n _ hs hown hx (h v w (by simpa using hown) (World.grownBy.refl _ _))
  | some ad =>
    refine wpList_append_own w hgd s x 50 ho base 5 i (.int .u8 0) 1 1 Try.underlying50 hi hz hsize hby rfl (by decide) v n _ hs hown ad m c (bc ys) hx (by rw [bc_length, hB.hlen, Nat.mul_one]) hB.news (bc_one _) h63 (by omega) hbase ?_
    intro v' w' h1 h2 _
    exact h v' w' (by rw [bc_append]; exact h1) h2

end Go.Proofs.Ytbpflpngaipckaa
