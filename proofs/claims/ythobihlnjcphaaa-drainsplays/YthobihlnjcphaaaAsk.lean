/-
  What asks of a name: the closure that asks the function that it is handed, whatever it is; the law's own closure, which looks into a list. Conditions: the closures lie where they are said to lie; the list reads as texts.
-/
import Derived.Test.YthobihlnjcphaaaNames
import Derived.Defers
import Derived.Recover
namespace Go.Proofs.Ythobihlnjcphaaa
open Go.ChangeShapes Go.WideShapes Go.ChangeAt Go.RowKit

theorem idle_any (p : Addr) (w : World) :
    CallsD Try.prog 49 #[.pointer (some p)] .returning w fun e u' w' => e = .returned (.tuple #[]) ∧ u' = .returning ∧ w' = w := by
  refine callsD_of_wpS Try.func49 rfl fun c₀ cs hu => ?_
  apply wpS_seq
  apply wpS_region
  simp [wpOpsS, go_sem, recoverD, hu, Try.ntmps49, Exit.thenS]
  refine wpS_cond (t := false) (by simp [Act.eval, Array.replicate]) ?_
  simp only [Bool.false_eq_true, if_false]
  refine wpS_of_wp (wp_skip ?_)
  cases c₀
  simp_all [bodyPostS, results, Try.results49]

/-- The law's closure, that looks into a list. -/
def ofv (k : Nat) : Value := .func (.func 42) #[] #[.pointer (some ⟨k, 0, none⟩)]

theorem of1_any (k : Nat) (a : Option Addr) (n c : Nat) (ss : List ByteArray) (x : ByteArray) (w : World) (hk : w.cell? ⟨k, 0, none⟩ = some (.slice a n c)) (h : StrsAt w a n c ss) :
    Calls Try.prog 42 #[.string x, .pointer (some ⟨k, 0, none⟩)] w fun e w' => e = .returned (.bool (hasB ss x)) ∧ w' = w := by
  have hh := has_any a n c ss x w h
  clear h
  go_enter Try.func42, Try.ntmps42
  go_wp2_with (first | (go_at_call 31; refine hh.mono ?_; rintro e w' ⟨rfl, hw'⟩; subst w'))
  go_ret
  exact ⟨rfl, rfl⟩

theorem of_any (a : Option Addr) (n c : Nat) (w : World) :
    Calls Try.prog 20 #[.slice a n c] w fun e w' => e = .returned (ofv w.heap.size) ∧ w' = w.alloc (.cells #[.slice a n c] 26) := by
  have hmf : ∀ (fn : Fn) (first cap : Array Value) (w : World), (Instr.makeFunc fn first cap).run Try.prog w = .ok (.func fn first cap) w := fun _ _ _ _ => rfl
  go_enter Try.func20, Try.ntmps20
  go_wp2
  go_ret
  exact ⟨rfl, rfl⟩

/-- The closure that asks. -/
def askv (k : Nat) : Value := .func (.func 48) #[] #[.pointer (some ⟨k, 0, none⟩)]

theorem asker_any (f : Fn) (u cap : Array Value) (w : World) :
    Calls Try.prog 41 #[.func f u cap] w fun e w' => e = .returned (askv w.heap.size) ∧ w' = w.alloc (.cells #[.func f u cap] 42) := by
  have hmf : ∀ (fn : Fn) (first cap : Array Value) (w : World), (Instr.makeFunc fn first cap).run Try.prog w = .ok (.func fn first cap) w := fun _ _ _ _ => rfl
  go_enter Try.func41, Try.ntmps41
  go_wp2
  go_ret
  exact ⟨rfl, rfl⟩

theorem asked_of (p k : Nat) (a : Option Addr) (n c : Nat) (ss : List ByteArray) (x : ByteArray) (w : World) (hp : w.cell? ⟨p, 0, none⟩ = some (ofv k)) (hk : w.cell? ⟨k, 0, none⟩ = some (.slice a n c)) (h : StrsAt w a n c ss) :
    Calls Try.prog 48 #[.string x, .pointer (some ⟨p, 0, none⟩)] w fun e w' => e = .returned (.bool (hasB ss x)) ∧ Below w.heap.size w w' := by
  have hmf : ∀ (fn : Fn) (first cap : Array Value) (w : World), (Instr.makeFunc fn first cap).run Try.prog w = .ok (.func fn first cap) w := fun _ _ _ _ => rfl
  have heq : ∀ w, (binOp .eql 42 (ofv k) .nilFunc).run Try.prog w = .ok (.bool false) w := fun w => by unfold ofv; kernel_rfl
  have hb : Below w.heap.size w (w.alloc (.cells #[.bool false] 4)) := (Below.refl _ w).alloc (Nat.le_refl _) _
  have hp1 := (hb.cell (p := ⟨p, 0, none⟩) (World.block_lt_of_cell? _ _ hp)).trans hp
  have hk1 := (hb.cell (p := ⟨k, 0, none⟩) (World.block_lt_of_cell? _ _ hk)).trans hk
  have ho := of1_any k a n c ss x _ hk1 (h.below (Nat.le_refl _) hb)
  clear h hp hk
  unfold ofv at *
  go_enter_defers Try.func48, Try.ntmps48
  go_wp2_with (first | (go_at_call 42; refine ho.mono ?_; rintro e w' ⟨rfl, hw'⟩; subst w'))
  refine leaves_cons (f := 49) (args := #[.pointer (some ⟨w.heap.size, 0, none⟩)]) (by simp) (by simp [go_sem]) ?_
  refine (idle_any ⟨w.heap.size, 0, none⟩ _).mono ?_
  rintro e u' w'' ⟨rfl, rfl, rfl⟩
  simp [Leaves, settle, results, Try.results48, go_sem]
  exact (Below.refl _ w).alloc (Nat.le_refl _) _

/-- The law's other closure: it counts how often it is asked, and says yes of one name alone. -/
def rowv (ka ky kt kn : Nat) : Value := .func (.func 30) #[] #[.pointer (some ⟨ka, 0, none⟩), .pointer (some ⟨ky, 0, none⟩), .pointer (some ⟨kt, 0, none⟩), .pointer (some ⟨kn, 0, none⟩)]

end Go.Proofs.Ythobihlnjcphaaa
