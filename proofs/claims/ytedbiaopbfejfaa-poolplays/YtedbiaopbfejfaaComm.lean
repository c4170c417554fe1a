/-
  Regions of a walk that hold a send, or a select of one receive with a default, on the machine of one goroutine: what is asked of such a region, operation by operation. Conditions: a send has room; the channel is open.
-/
import Derived.Test.YtedbiaopbfejfaaRows
import Derived.WalkKit
import Derived.ProofKit
import Derived.OpenShut
import Derived.Conc.LoneSelect
import Derived.Conc.LoneSelectN
namespace Go.Proofs.Ytedbiaopbfejfaa
open Go.ChangeShapes Go.WideShapes Go.ChangeAt Go.RowKit Go.Conc

/-- From the operations l of a region on, the walk arrives where Q holds. -/
def Reg (P : Program) (ops : Array Oper) (Q : Exit → Act → World → Prop) (b : Frame) (k : List Item) (cs : List Frame) (l : List Nat) (a : Act) (w : World) : Prop :=
  ∃ e a' w', Q e a' w' ∧ Arrives P (lone (b.at a (.inRegion ops l :: k)) cs w) b k cs e a' w'

section
variable {P : Program} {ops : Array Oper} {Q : Exit → Act → World → Prop} {b : Frame} {k : List Item} {cs : List Frame} {a : Act} {w : World} {i : Nat} {rest : List Nat} {o : Oper}

theorem wp_of_reg {id : Nat} (h : ∀ b k cs, Reg P ops Q b k cs (List.range ops.size) a w) : (Code.region id ops false).wp P Q a w :=
  fun b k cs => let ⟨e, a', w', q, r⟩ := h b k cs; ⟨e, a', w', q, .of_steps (.one step_region) r⟩

theorem Reg.done (h : Q .normal a w) : Reg P ops Q b k cs [] a w := ⟨.normal, a, w, h, .one step_region_end⟩

theorem Reg.step {l l' : List Nat} {a' : Act} {w' : World} (h : step P (lone (b.at a (.inRegion ops l :: k)) cs w) = .next (lone (b.at a' (.inRegion ops l' :: k)) cs w')) (h' : Reg P ops Q b k cs l' a' w') : Reg P ops Q b k cs l a w :=
  let ⟨e, a₂, w₂, q, r⟩ := h'; ⟨e, a₂, w₂, q, .of_steps (.one h) r⟩

theorem finish_here (ho : ops[i]? = some o) (v : Value) : (b.at a (.inRegion ops (i :: rest) :: k)).finish v = b.at (a.put o.dst v) (.inRegion ops rest :: k) := by rw [Frame.finish_at, ho]; rfl

theorem Reg.op (ho : ops[i]? = some o) (hw : Region.wanted o (yielded ops a.tmps) = true)
    (h : ∀ K' : Act → World → Prop, (∀ a' w', Reg P ops Q b k cs rest a' w' → K' a' w') → uponK o a K' ((execOp a.eval o).run P w)) : Reg P ops Q b k cs (i :: rest) a w := by
  have h1 := h (fun a' w' => Reg P ops Q b k cs rest a' w') (fun _ _ x => x)
  have hg := stepG_op (P := P) (b := b) (k := k) (cs := cs) (w := w) (rest := rest) ho hw
  cases hr : (execOp a.eval o).run P w with
  | halt x w' => rw [hr] at h1; exact h1.elim
  | ok x w' =>
    rw [hr] at h1
    cases x with
    | value v => exact h1.step (step_lone_go (by rw [hg, ← finish_here ho]; simp [stepG.apply, hr]))
    | skip => exact h1.step (step_lone_go (by rw [hg, ← finish_here ho]; simp [stepG.apply, hr]))
    | _ => exact h1.elim

theorem comm_any {cases : Array CommCase} {blocking : Bool} {shape : CommShape} {w' : World} (ho : ops[i]? = some o) (hw : Region.wanted o (yielded ops a.tmps) = true)
    (hr : (execOp a.eval o).run P w = .ok (.comm cases blocking shape) w') :
    ∃ es, stepG P true (G (b.at a (.inRegion ops (i :: rest) :: k)) cs) w = .comm (G (b.at a (.inRegion ops (i :: rest) :: k)) cs) cases blocking shape w' es := by
  rw [stepG_oper ho hw]
  simp [stepG.apply, hr, G, Frame.at, GStep.after]

section
variable {w₁ : World} {c cap s r : Nat} {buf : Array Value} {z v : Value} {tm : Bool}

theorem Reg.send (ho : ops[i]? = some o) (hw : Region.wanted o (yielded ops a.tmps) = true) (hr : (execOp a.eval o).run P w = .ok (.comm #[scase c v z] true .send) w₁) (hc : w₁.heap[c]? = some (.chan cap buf false s r tm)) (hroom : buf.size < cap)
    (h : Reg P ops Q b k cs rest (a.put o.dst undef) (w₁.setChan c cap (buf.push v) false (s + 1) r tm)) : Reg P ops Q b k cs (i :: rest) a w := by
  obtain ⟨es, he⟩ := comm_any (P := P) (b := b) (k := k) (cs := cs) (rest := rest) ho hw hr
  refine Reg.step ?_ h
  rw [← finish_here ho]
  exact step_lone_send_room he hc hroom

theorem Reg.sel_recv {closed : Bool} (ho : ops[i]? = some o) (hw : Region.wanted o (yielded ops a.tmps) = true) (hr : (execOp a.eval o).run P w = .ok (.comm #[rcase c z] false .select) w₁) (hc : w₁.heap[c]? = some (.chan cap buf closed s r tm)) (hsome : 0 < buf.size)
    (h : Reg P ops Q b k cs rest (a.put o.dst (.tuple #[goInt 0, .bool true, buf.getD 0 undef])) (w₁.setChan c cap (buf.extract 1 buf.size) closed s (r + 1) tm)) : Reg P ops Q b k cs (i :: rest) a w := by
  obtain ⟨es, he⟩ := comm_any (P := P) (b := b) (k := k) (cs := cs) (rest := rest) ho hw hr
  refine Reg.step ?_ h
  rw [← finish_here ho]
  exact step_lone_select_recv_buf he hc hsome

theorem Reg.sel_none (ho : ops[i]? = some o) (hw : Region.wanted o (yielded ops a.tmps) = true) (hr : (execOp a.eval o).run P w = .ok (.comm #[rcase c z] false .select) w₁) (hc : w₁.heap[c]? = some (.chan cap #[] false s r tm))
    (h : Reg P ops Q b k cs rest (a.put o.dst (.tuple #[goInt (-1), .bool false, z])) w₁) : Reg P ops Q b k cs (i :: rest) a w := by
  obtain ⟨es, he⟩ := comm_any (P := P) (b := b) (k := k) (cs := cs) (rest := rest) ho hw hr
  refine Reg.step ?_ h
  rw [← finish_here ho]
  exact step_lone_select_default he hc
end
end

end Go.Proofs.Ytedbiaopbfejfaa
