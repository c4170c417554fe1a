/-
  No cell of these rows narrows 'for every input' (looked for: loops, veiled, ifaces, maps, wideKeys, modest, calm, conditions, laid).
  DERIVED. THE GIVEN ROWS OF THIS SEAT. 5 by the template 'for every input the law returns true; each argument reads behind the call as it read before'; 0 by the template 'total and deterministic' (their statements: YtjnacpcdkkfdgaaTotals.lean).
  GIVEN WITH THE SEED: the statements are not yours to turn. If you find one false, say at which input.
  Laid BY PROGRAM, IN A SANDBOX (cutbox-rows.mjs): the forced cells as the released guide's own fill.sh prints them over the translation e55a7b39b5aac105… (all of the seat's roots in one cut). By AI agents, Wed Nov 11 2026. No macro, syntax, notation, axiom, sorry.
-/
import Derived.Test.YtjnacpcdkkfdgaaChecked
import GoSem.Claim
import GoSem.ClaimJoined
import GoSem.ClaimMapViews
import Derived.JoinedTies
import Derived.KernelRfl
namespace Go.Proofs.Ytjnacpcdkkfdgaa
/- THE CELL 'sum', in the pinned program and in every row, IS THE sha256 OF THE DUMP (.gsa) THAT YtjnacpcdkkfdgaaProg.lean LOADS. Nothing in Lean hashes anything: it is a label: what it is worth is what the hold of that sum in a sandbox is worth. -/
noncomputable def Try.pinned : Pinned := { name := "ytjnacpcdkkfdgaa", sum := "e55a7b39b5aac105279973b5bd8a1ae050044fc55a98318bcc311e4668687a2f", checked := Try.checked }
namespace Rows
def none {H : Type} : Left H := { results := [], args := [] }

/-- 'hostlerlaw06.WindowPlays': WHATEVER THE INPUT: true; the input reads as it did. -/
def windowPlaysSpec : ChangeSpec := { name := "windowPlays", fn := fun _ => fun
  | [d1, d2] => { results := [.lit (.bool true)], args := [d1, d2] }
  | _ => none }
def windowPlaysRow : OpenClaim := { program := "ytjnacpcdkkfdgaa", sum := "e55a7b39b5aac105279973b5bd8a1ae050044fc55a98318bcc311e4668687a2f", func := "hostler/hostlerlaw06.WindowPlays", spec := "windowPlays", apart := false }
def WindowPlaysSaid : Prop := windowPlaysRow.holds Try.pinned (OpenSpec.ofChange windowPlaysSpec)

/-- ITS FALSE NEIGHBOUR: 'it returns false'. Refute it at one input. -/
def windowPlaysWrong : ChangeSpec := { name := "windowPlays", fn := fun _ => fun
  | [d1, d2] => { results := [.lit (.bool false)], args := [d1, d2] }
  | _ => none }
def WindowPlaysWrongFalsely : Prop := windowPlaysRow.holds Try.pinned (OpenSpec.ofChange windowPlaysWrong)

/-- 'hostlerlaw06.WindowRates': WHATEVER THE INPUT: true; the input reads as it did. -/
def windowRatesSpec : ChangeSpec := { name := "windowRates", fn := fun _ => fun
  | [d1, d2, d3] => { results := [.lit (.bool true)], args := [d1, d2, d3] }
  | _ => none }
def windowRatesRow : OpenClaim := { program := "ytjnacpcdkkfdgaa", sum := "e55a7b39b5aac105279973b5bd8a1ae050044fc55a98318bcc311e4668687a2f", func := "hostler/hostlerlaw06.WindowRates", spec := "windowRates", apart := false }
def WindowRatesSaid : Prop := windowRatesRow.holds Try.pinned (OpenSpec.ofChange windowRatesSpec)

/-- ITS FALSE NEIGHBOUR: 'it returns false'. Refute it at one input. -/
def windowRatesWrong : ChangeSpec := { name := "windowRates", fn := fun _ => fun
  | [d1, d2, d3] => { results := [.lit (.bool false)], args := [d1, d2, d3] }
  | _ => none }
def WindowRatesWrongFalsely : Prop := windowRatesRow.holds Try.pinned (OpenSpec.ofChange windowRatesWrong)

/-- 'hostlerlaw06.WindowBehind': WHATEVER THE INPUT: true; the input reads as it did. -/
def windowBehindSpec : ChangeSpec := { name := "windowBehind", fn := fun _ => fun
  | [d1, d2, d3] => { results := [.lit (.bool true)], args := [d1, d2, d3] }
  | _ => none }
def windowBehindRow : OpenClaim := { program := "ytjnacpcdkkfdgaa", sum := "e55a7b39b5aac105279973b5bd8a1ae050044fc55a98318bcc311e4668687a2f", func := "hostler/hostlerlaw06.WindowBehind", spec := "windowBehind", apart := false }
def WindowBehindSaid : Prop := windowBehindRow.holds Try.pinned (OpenSpec.ofChange windowBehindSpec)

/-- ITS FALSE NEIGHBOUR: 'it returns false'. Refute it at one input. -/
def windowBehindWrong : ChangeSpec := { name := "windowBehind", fn := fun _ => fun
  | [d1, d2, d3] => { results := [.lit (.bool false)], args := [d1, d2, d3] }
  | _ => none }
def WindowBehindWrongFalsely : Prop := windowBehindRow.holds Try.pinned (OpenSpec.ofChange windowBehindWrong)

/-- 'hostlerlaw06.WindowNil': WHATEVER THE INPUT: true; the input reads as it did. -/
def windowNilSpec : ChangeSpec := { name := "windowNil", fn := fun _ => fun
  | [d] => { results := [.lit (.bool true)], args := [d] }
  | _ => none }
def windowNilRow : OpenClaim := { program := "ytjnacpcdkkfdgaa", sum := "e55a7b39b5aac105279973b5bd8a1ae050044fc55a98318bcc311e4668687a2f", func := "hostler/hostlerlaw06.WindowNil", spec := "windowNil", apart := false }
def WindowNilSaid : Prop := windowNilRow.holds Try.pinned (OpenSpec.ofChange windowNilSpec)

/-- ITS FALSE NEIGHBOUR: 'it returns false'. Refute it at one input. -/
def windowNilWrong : ChangeSpec := { name := "windowNil", fn := fun _ => fun
  | [d] => { results := [.lit (.bool false)], args := [d] }
  | _ => none }
def WindowNilWrongFalsely : Prop := windowNilRow.holds Try.pinned (OpenSpec.ofChange windowNilWrong)

/-- 'hostlerlaw06.WindowSpans': WHATEVER THE INPUT: true; the input reads as it did. -/
def windowSpansSpec : ChangeSpec := { name := "windowSpans", fn := fun _ => fun
  | [d1, d2, d3] => { results := [.lit (.bool true)], args := [d1, d2, d3] }
  | _ => none }
def windowSpansRow : OpenClaim := { program := "ytjnacpcdkkfdgaa", sum := "e55a7b39b5aac105279973b5bd8a1ae050044fc55a98318bcc311e4668687a2f", func := "hostler/hostlerlaw06.WindowSpans", spec := "windowSpans", apart := false }
def WindowSpansSaid : Prop := windowSpansRow.holds Try.pinned (OpenSpec.ofChange windowSpansSpec)

/-- ITS FALSE NEIGHBOUR: 'it returns false'. Refute it at one input. -/
def windowSpansWrong : ChangeSpec := { name := "windowSpans", fn := fun _ => fun
  | [d1, d2, d3] => { results := [.lit (.bool false)], args := [d1, d2, d3] }
  | _ => none }
def WindowSpansWrongFalsely : Prop := windowSpansRow.holds Try.pinned (OpenSpec.ofChange windowSpansWrong)

/- THE SECOND FORM. 'bulk': how many values and letters a reading holds, each counted each time it is reached (what is shared counts as often as it is met; a slice's spare places count too). A statement '..UptoSaid' is the law's where the arguments, and the package variables that the reading takes, are together of bulk at most 1048576: NARROWER than '..Said'. Prove '..Said' where nothing that the law and all that it calls make is longer than what came in: it says more and counts as full. Else prove '..UptoSaid'. A law counts once. -/
mutual
def uptoBulk {H : Type} : DataW H → Nat
  | .lit (.string bytes) => bytes.length + 1
  | .lit _ => 1
  | .nil => 1
  | .ptr d => uptoBulk d + 1
  | .slice elems spare => uptoBulkAll elems + uptoBulkAll spare + 1
  | .agg parts => uptoBulkAll parts + 1
  | .iface _ d => uptoBulk d + 1
  | .map entries => uptoBulkEntries entries + 1
  | .held _ => 1
def uptoBulkAll {H : Type} : List (DataW H) → Nat
  | [] => 0
  | d :: r => uptoBulk d + uptoBulkAll r
def uptoBulkEntries {H : Type} : List (Lit × DataW H) → Nat
  | [] => 0
  | x :: r => uptoBulkEntry x + uptoBulkEntries r
def uptoBulkEntry {H : Type} : Lit × DataW H → Nat
  | (.string bytes, d) => bytes.length + uptoBulk d + 1
  | (_, d) => uptoBulk d + 1
 end
def uptoSmall : (H : Type) → List (DataW H) → Bool := fun _ ds => decide (uptoBulkAll ds ≤ 1048576)
def OpenSpec.upto (s : _root_.Go.ChangeSpec) : _root_.Go.OpenSpec := { _root_.Go.OpenSpec.ofChange s with cond := some uptoSmall }

/-- 'hostlerlaw06.WindowPlays', WHERE WHAT IT READS IS OF BULK AT MOST 1048576: true; the input reads as it did. -/
def windowPlaysUptoRow : OpenClaim := { program := "ytjnacpcdkkfdgaa", sum := "e55a7b39b5aac105279973b5bd8a1ae050044fc55a98318bcc311e4668687a2f", func := "hostler/hostlerlaw06.WindowPlays", spec := "windowPlays", apart := false, narrowed := true }
def WindowPlaysUptoSaid : Prop := windowPlaysUptoRow.holds Try.pinned (OpenSpec.upto windowPlaysSpec)

/-- 'hostlerlaw06.WindowRates', WHERE WHAT IT READS IS OF BULK AT MOST 1048576: true; the input reads as it did. -/
def windowRatesUptoRow : OpenClaim := { program := "ytjnacpcdkkfdgaa", sum := "e55a7b39b5aac105279973b5bd8a1ae050044fc55a98318bcc311e4668687a2f", func := "hostler/hostlerlaw06.WindowRates", spec := "windowRates", apart := false, narrowed := true }
def WindowRatesUptoSaid : Prop := windowRatesUptoRow.holds Try.pinned (OpenSpec.upto windowRatesSpec)

/-- 'hostlerlaw06.WindowBehind', WHERE WHAT IT READS IS OF BULK AT MOST 1048576: true; the input reads as it did. -/
def windowBehindUptoRow : OpenClaim := { program := "ytjnacpcdkkfdgaa", sum := "e55a7b39b5aac105279973b5bd8a1ae050044fc55a98318bcc311e4668687a2f", func := "hostler/hostlerlaw06.WindowBehind", spec := "windowBehind", apart := false, narrowed := true }
def WindowBehindUptoSaid : Prop := windowBehindUptoRow.holds Try.pinned (OpenSpec.upto windowBehindSpec)

/-- 'hostlerlaw06.WindowNil', WHERE WHAT IT READS IS OF BULK AT MOST 1048576: true; the input reads as it did. -/
def windowNilUptoRow : OpenClaim := { program := "ytjnacpcdkkfdgaa", sum := "e55a7b39b5aac105279973b5bd8a1ae050044fc55a98318bcc311e4668687a2f", func := "hostler/hostlerlaw06.WindowNil", spec := "windowNil", apart := false, narrowed := true }
def WindowNilUptoSaid : Prop := windowNilUptoRow.holds Try.pinned (OpenSpec.upto windowNilSpec)

/-- 'hostlerlaw06.WindowSpans', WHERE WHAT IT READS IS OF BULK AT MOST 1048576: true; the input reads as it did. -/
def windowSpansUptoRow : OpenClaim := { program := "ytjnacpcdkkfdgaa", sum := "e55a7b39b5aac105279973b5bd8a1ae050044fc55a98318bcc311e4668687a2f", func := "hostler/hostlerlaw06.WindowSpans", spec := "windowSpans", apart := false, narrowed := true }
def WindowSpansUptoSaid : Prop := windowSpansUptoRow.holds Try.pinned (OpenSpec.upto windowSpansSpec)

end Rows
end Go.Proofs.Ytjnacpcdkkfdgaa
