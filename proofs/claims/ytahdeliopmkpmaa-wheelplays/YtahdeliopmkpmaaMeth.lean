/-
  How a method of the order is found through the interface. Conditions: the order lies behind the pointer.
-/
import Derived.Test.YtahdeliopmkpmaaSwap
namespace Go.Proofs.Ytahdeliopmkpmaa
open Go.ChangeShapes Go.WideShapes Go.ChangeAt Go.RowKit

theorem method_ptr {P : Program} {T elem sig : TypeId} {name : String} {f : FuncId} {fuel : Nat} (hi : (P.info? T).bind (fun i => i.methods.find? (·.name == name)) = some ⟨name, sig, #[], some (f, true)⟩)
    (hu : P.underlying T = some (.pointer elem)) (v : Value) (w : World) : Sem.run P (method (fuel + 1) T v name) w = .ok (f, v) w := by
  obtain ⟨i, h1, h2⟩ := Option.bind_eq_some_iff.1 hi
  simp [method, typeInfo, h1, h2, follow, receiverAt, run_underlying hu, Place.get, Result.andThen]

theorem run_chk {P : Program} (ts : Array TypeId) (t : TypeId) (a : Addr) (x y : ByteArray) (w : World) : Sem.run P (Builtin.ssaWrapNilChk_ ts t #[.pointer (some a), .string x, .string y]) w = .ok (.pointer (some a)) w := rfl

theorem method_val {P : Program} {T elem sig : TypeId} {name : String} {f : FuncId} {fuel : Nat} (hi : (P.info? T).bind (fun i => i.methods.find? (·.name == name)) = some ⟨name, sig, #[], some (f, false)⟩)
    (hu : P.underlying T = some (.pointer elem)) (hg : ∀ w, (isAgg elem).run P w = .ok false w) (a : Addr) (v : Value) (w : World) (hv : w.cell? a = some v) : Sem.run P (method (fuel + 1) T (.pointer (some a)) name) w = .ok (f, v) w := by
  obtain ⟨i, h1, h2⟩ := Option.bind_eq_some_iff.1 hi
  simp [method, typeInfo, h1, h2, follow, receiverAt, run_underlying hu, Place.get, Result.andThen, run_chk, strVal, loadVar, hg, asAddr, hv]

theorem m_len {w : World} {g : Nat} {ov : Value} (hc : w.cell? ⟨g, 1, none⟩ = some ov) : Sem.run Try.prog (method 228 68 (.pointer (some ⟨g, 1, none⟩)) "Len") w = .ok (95, ov) w :=
  method_val (sig := 32) (by kernel_rfl) Try.underlying68 (fun _ => by kernel_rfl) _ _ _ hc
theorem m_less {w : World} {g : Nat} {ov : Value} (hc : w.cell? ⟨g, 1, none⟩ = some ov) : Sem.run Try.prog (method 228 68 (.pointer (some ⟨g, 1, none⟩)) "Less") w = .ok (96, ov) w :=
  method_val (sig := 35) (by kernel_rfl) Try.underlying68 (fun _ => by kernel_rfl) _ _ _ hc
theorem m_swap {w : World} {g : Nat} {ov : Value} (hc : w.cell? ⟨g, 1, none⟩ = some ov) : Sem.run Try.prog (method 228 68 (.pointer (some ⟨g, 1, none⟩)) "Swap") w = .ok (97, ov) w :=
  method_val (sig := 80) (by kernel_rfl) Try.underlying68 (fun _ => by kernel_rfl) _ _ _ hc
theorem m_pop (w : World) (g : Nat) : Sem.run Try.prog (method 228 68 (.pointer (some ⟨g, 1, none⟩)) "Pop") w = .ok (98, .pointer (some ⟨g, 1, none⟩)) w :=
  method_ptr (sig := 81) (by kernel_rfl) Try.underlying68 _ _
theorem m_push (w : World) (g : Nat) : Sem.run Try.prog (method 228 68 (.pointer (some ⟨g, 1, none⟩)) "Push") w = .ok (99, .pointer (some ⟨g, 1, none⟩)) w :=
  method_ptr (sig := 79) (by kernel_rfl) Try.underlying68 _ _

end Go.Proofs.Ytahdeliopmkpmaa
