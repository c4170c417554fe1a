/-
  The walk of ConfigChecks: it returns true and turns nothing that was there. Conditions: a config of 15 numbers, each of which an int holds; what the program's text lays reads as it is laid.
-/
import Derived.Test.YtmhigndplbdknaaDoorChecksH
import Derived.Test.YtmhigndplbdknaaDoorChecksL
namespace Go.Proofs.YtmhigndplbdknaaDoor
open Go.ChangeShapes Go.WideShapes Go.ChangeAt Go.RowKit

theorem checks_any (l : List Int) (hl : l.length = 15) (hk : ok64 l) (n v : Int) (w : World) (hE : Env w) :
    Calls Tryd.prog 3 #[.agg (cc l), .int .i64 n, .int .i64 v] w fun e w' => e = .returned (.bool true) ∧ Below w.heap.size w w' := by
  by_cases h : 0 ≤ n ∧ n < 15
  · obtain ⟨j, rfl, hj⟩ := inR_ex h
    exact checks_in l hl hk j hj v w hE
  · by_cases hp : 0 ≤ n
    · exact checks_high l hl hk n h hp v w hE
    · exact checks_low l hl hk n h (by omega) v w hE

end Go.Proofs.YtmhigndplbdknaaDoor
