/-
  A row of bytes of the call's own, as a text. No conditions.
-/
import Derived.Test.YtbpflpngaipckaaRead
namespace Go.Proofs.Ytbpflpngaipckaa
open Go.ChangeShapes Go.WideShapes Go.ChangeAt Go.RowKit

theorem conv_owned {w : World} {base n : Nat} {v : Value} {bs : List UInt8} (h : w.ownsRow base 5 1 v n (bc bs)) : (convert 50 9 v).run Try.prog w = .ok (.string (mkS bs)) w := by
  have h0 := h
  obtain ⟨hl, hcase⟩ := h
  rw [bc_length, Nat.mul_one] at hl
  rcases hcase with ⟨rfl, rfl⟩ | ⟨g, cap, cur, rfl, _, hg, hn, hcap, _, _⟩
  · have : bs = [] := List.eq_nil_of_length_eq_zero hl
    subst this
    exact run_convert_bytes_nil (P := Try.prog) w 50 5 Try.underlying50 Try.underlying5 0 0 9 Try.underlying9
  · have := run_convert_bytes_arg (P := Try.prog) w 50 5 Try.underlying50 Try.underlying5 g 0 n cap (bs.map fun x => (x.toNat : Int)) (by simpa using hl) (fun i hi => by
      have := h0.cells (g := g) rfl i (.int .u8 (bs.getD i 0).toNat) (by
        have : i < bs.length := by omega
        simp [bc, List.getD, this])
      have e0 : ((⟨g, 0, none⟩ : Addr).add i) = ⟨g, 0 + i, none⟩ := by unfold Addr.add; split <;> simp_all
      rw [e0] at this
      rw [this]
      have : i < bs.length := by omega
      simp [List.getD, this]) 9 Try.underlying9
    rw [strOf_mkS] at this
    exact this

end Go.Proofs.Ytbpflpngaipckaa
