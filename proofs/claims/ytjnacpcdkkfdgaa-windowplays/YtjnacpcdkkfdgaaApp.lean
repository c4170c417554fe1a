/-
  An int appended to a row of the call's own, as a step of a walk. Conditions: the row has at most 1000 ints.
-/
import Derived.Test.YtjnacpcdkkfdgaaStrs
import Derived.Deep.AppendLies
namespace Go.Proofs.Ytjnacpcdkkfdgaa
open Go.ChangeShapes Go.WideShapes Go.ChangeAt Go.RowKit

/-- An int is appended. -/
theorem wpList_int {ops : Array Oper} {rest : List Oper} {o : Oper} {a : Act} {w : World} {Q : Exit → Act → World → Prop} (hgd : o.guard = none) (s x : Operand)
    (ho : o.op = .call { callee := .builtin .append, args := #[s, x], argTypes := #[26, 26] }) (base : Nat) (v : Value) (n : Nat) (zs : List Int) (z : Int) (hs : a.eval s = v) (w0 : World) (hown : w0.ownsRow base 3 1 v n (ic zs))
    (hx : a.eval x = .slice (some ⟨w0.heap.size, 0, none⟩) 1 1) (hk : Keep (fun _ => True) w0 w) (hblk : w.heap[w0.heap.size]? = some (.cells #[.int .i64 z] 3 (0, 0))) (hn : n ≤ 1000) (hb : base ≤ w0.heap.size)
    (h : ∀ g cap w', w'.ownsRow base 3 1 (.slice (some ⟨g, 0, none⟩) (n + 1) cap) (n + 1) (ic zs ++ [.int .i64 z]) → w.grownBy w' v.ownBlock → (v.ownBlock = some g ∨ g = w.heap.size) → wpList Try.prog ops Q rest (a.put o.dst (.slice (some ⟨g, 0, none⟩) (n + 1) cap)) w') :
    wpList Try.prog ops Q (o :: rest) a w := by
  obtain ⟨ti, hi, hz0, hz1, hz2⟩ := info_parts info3
  have hsz := hk.size
  exact wpList_append_lies w hgd s x 26 ho base 3 ti (.int .i64 0) 1 8 Try.underlying26 hi hz0 hz1 hz2 rfl (by decide) v n (ic zs) hs (owns_keep hown hk (fun _ _ => trivial)) ⟨w0.heap.size, 0, none⟩ 1 1 [.int .i64 z] hx rfl (World.news_of_block hblk) (by simp [Value.oneCell']) (by decide) (by unfold maxLen; omega) (by omega) (by omega) _ rfl (fun g cap w' q1 q2 q3 _ => h g cap w' q1 q2 q3)

end Go.Proofs.Ytjnacpcdkkfdgaa
