/-
  What asks of a name: the closure that asks the function that it is handed, whatever it is; the law's own closure, which looks into a list. Conditions: the closures lie where they are said to lie; the list reads as texts.
-/
import Derived.Test.YtmlkpfkeeifgeaaDoorNames
import Derived.Defers
import Derived.Recover
namespace Go.Proofs.YtmlkpfkeeifgeaaDoor
open Go.ChangeShapes Go.WideShapes Go.ChangeAt Go.RowKit

set_option maxRecDepth 100000 in
theorem idle_any (p : Addr) (w : World) :
    CallsD Tryd.prog 100 #[.pointer (some p)] .returning w fun e u' w' => e = .returned (.tuple #[]) ∧ u' = .returning ∧ w' = w := by
  refine callsD_of_wpS Tryd.func100 rfl fun c₀ cs hu => ?_
  apply wpS_seq
  apply wpS_region
  simp [wpOpsS, go_sem, recoverD, hu, Tryd.ntmps100, Exit.thenS]
  refine wpS_cond (t := false) (by simp [Act.eval, Array.replicate]) ?_
  simp only [Bool.false_eq_true, if_false]
  refine wpS_of_wp (wp_skip ?_)
  cases c₀
  simp_all [bodyPostS, results, Tryd.results100]

/-- The closure that asks. -/
def askv (k : Nat) : Value := .func (.func 99) #[] #[.pointer (some ⟨k, 0, none⟩)]

set_option maxRecDepth 100000 in
theorem asker_any (f : Fn) (u cap : Array Value) (w : World) :
    Calls Tryd.prog 82 #[.func f u cap] w fun e w' => e = .returned (askv w.heap.size) ∧ w' = w.alloc (.cells #[.func f u cap] 59) := by
  have hmf : ∀ (fn : Fn) (first cap : Array Value) (w : World), (Instr.makeFunc fn first cap).run Tryd.prog w = .ok (.func fn first cap) w := fun _ _ _ _ => rfl
  go_enter Tryd.func82, Tryd.ntmps82
  go_wp2
  go_ret
  exact ⟨rfl, rfl⟩

end Go.Proofs.YtmlkpfkeeifgeaaDoor
