/-
  No cell of these rows narrows 'for every input' (looked for: loops, veiled, ifaces, maps, wideKeys, modest, calm, conditions, laid).
  DERIVED. THE GIVEN ROWS OF THIS SEAT. 5 by the template 'for every input the law returns true; each argument reads behind the call as it read before'; 0 by the template 'total and deterministic' (their statements: YtcofkaackpecjaaTotals.lean).
  GIVEN WITH THE SEED: the statements are not yours to turn. If you find one false, say at which input.
  Laid BY PROGRAM, IN A SANDBOX (cutbox-rows.mjs): the forced cells as the released guide's own fill.sh prints them over the translation f584c62f01a240f5… (all of the seat's roots in one cut). By AI agents, Wed Nov 11 2026. No macro, syntax, notation, axiom, sorry.
-/
import Derived.Test.YtcofkaackpecjaaChecked
import GoSem.Claim
import GoSem.ClaimJoined
import GoSem.ClaimMapViews
import Derived.JoinedTies
import Derived.KernelRfl
namespace Go.Proofs.Ytcofkaackpecjaa
/- THE CELL 'sum', in the pinned program and in every row, IS THE sha256 OF THE DUMP (.gsa) THAT YtcofkaackpecjaaProg.lean LOADS. Nothing in Lean hashes anything: it is a label: what it is worth is what the hold of that sum in a sandbox is worth. -/
noncomputable def Try.pinned : Pinned := { name := "ytcofkaackpecjaa", sum := "f584c62f01a240f56c60fb281a30893911e2a59423febf1c98c9baaee0bd64ea", checked := Try.checked }
namespace Rows
def none {H : Type} : Left H := { results := [], args := [] }

/-- 'hostlerlaw07.BackoffPlays': WHATEVER THE INPUT: true; the input reads as it did. -/
def backoffPlaysSpec : ChangeSpec := { name := "backoffPlays", fn := fun _ => fun
  | [d1, d2] => { results := [.lit (.bool true)], args := [d1, d2] }
  | _ => none }
def backoffPlaysRow : OpenClaim := { program := "ytcofkaackpecjaa", sum := "f584c62f01a240f56c60fb281a30893911e2a59423febf1c98c9baaee0bd64ea", func := "hostler/hostlerlaw07.BackoffPlays", spec := "backoffPlays", apart := false }
def BackoffPlaysSaid : Prop := backoffPlaysRow.holds Try.pinned (OpenSpec.ofChange backoffPlaysSpec)

/-- ITS FALSE NEIGHBOUR: 'it returns false'. Refute it at one input. -/
def backoffPlaysWrong : ChangeSpec := { name := "backoffPlays", fn := fun _ => fun
  | [d1, d2] => { results := [.lit (.bool false)], args := [d1, d2] }
  | _ => none }
def BackoffPlaysWrongFalsely : Prop := backoffPlaysRow.holds Try.pinned (OpenSpec.ofChange backoffPlaysWrong)

/-- 'hostlerlaw07.BackoffWaits': WHATEVER THE INPUT: true; the input reads as it did. -/
def backoffWaitsSpec : ChangeSpec := { name := "backoffWaits", fn := fun _ => fun
  | [d1, d2] => { results := [.lit (.bool true)], args := [d1, d2] }
  | _ => none }
def backoffWaitsRow : OpenClaim := { program := "ytcofkaackpecjaa", sum := "f584c62f01a240f56c60fb281a30893911e2a59423febf1c98c9baaee0bd64ea", func := "hostler/hostlerlaw07.BackoffWaits", spec := "backoffWaits", apart := false }
def BackoffWaitsSaid : Prop := backoffWaitsRow.holds Try.pinned (OpenSpec.ofChange backoffWaitsSpec)

/-- ITS FALSE NEIGHBOUR: 'it returns false'. Refute it at one input. -/
def backoffWaitsWrong : ChangeSpec := { name := "backoffWaits", fn := fun _ => fun
  | [d1, d2] => { results := [.lit (.bool false)], args := [d1, d2] }
  | _ => none }
def BackoffWaitsWrongFalsely : Prop := backoffWaitsRow.holds Try.pinned (OpenSpec.ofChange backoffWaitsWrong)

/-- 'hostlerlaw07.BackoffLate': WHATEVER THE INPUT: true; the input reads as it did. -/
def backoffLateSpec : ChangeSpec := { name := "backoffLate", fn := fun _ => fun
  | [d1, d2, d3] => { results := [.lit (.bool true)], args := [d1, d2, d3] }
  | _ => none }
def backoffLateRow : OpenClaim := { program := "ytcofkaackpecjaa", sum := "f584c62f01a240f56c60fb281a30893911e2a59423febf1c98c9baaee0bd64ea", func := "hostler/hostlerlaw07.BackoffLate", spec := "backoffLate", apart := false }
def BackoffLateSaid : Prop := backoffLateRow.holds Try.pinned (OpenSpec.ofChange backoffLateSpec)

/-- ITS FALSE NEIGHBOUR: 'it returns false'. Refute it at one input. -/
def backoffLateWrong : ChangeSpec := { name := "backoffLate", fn := fun _ => fun
  | [d1, d2, d3] => { results := [.lit (.bool false)], args := [d1, d2, d3] }
  | _ => none }
def BackoffLateWrongFalsely : Prop := backoffLateRow.holds Try.pinned (OpenSpec.ofChange backoffLateWrong)

/-- 'hostlerlaw07.BackoffNil': WHATEVER THE INPUT: true; the input reads as it did. -/
def backoffNilSpec : ChangeSpec := { name := "backoffNil", fn := fun _ => fun
  | [d1, d2] => { results := [.lit (.bool true)], args := [d1, d2] }
  | _ => none }
def backoffNilRow : OpenClaim := { program := "ytcofkaackpecjaa", sum := "f584c62f01a240f56c60fb281a30893911e2a59423febf1c98c9baaee0bd64ea", func := "hostler/hostlerlaw07.BackoffNil", spec := "backoffNil", apart := false }
def BackoffNilSaid : Prop := backoffNilRow.holds Try.pinned (OpenSpec.ofChange backoffNilSpec)

/-- ITS FALSE NEIGHBOUR: 'it returns false'. Refute it at one input. -/
def backoffNilWrong : ChangeSpec := { name := "backoffNil", fn := fun _ => fun
  | [d1, d2] => { results := [.lit (.bool false)], args := [d1, d2] }
  | _ => none }
def BackoffNilWrongFalsely : Prop := backoffNilRow.holds Try.pinned (OpenSpec.ofChange backoffNilWrong)

/-- 'hostlerlaw07.BackoffAnew': WHATEVER THE INPUT: true; the input reads as it did. -/
def backoffAnewSpec : ChangeSpec := { name := "backoffAnew", fn := fun _ => fun
  | [d1, d2, d3] => { results := [.lit (.bool true)], args := [d1, d2, d3] }
  | _ => none }
def backoffAnewRow : OpenClaim := { program := "ytcofkaackpecjaa", sum := "f584c62f01a240f56c60fb281a30893911e2a59423febf1c98c9baaee0bd64ea", func := "hostler/hostlerlaw07.BackoffAnew", spec := "backoffAnew", apart := false }
def BackoffAnewSaid : Prop := backoffAnewRow.holds Try.pinned (OpenSpec.ofChange backoffAnewSpec)

/-- ITS FALSE NEIGHBOUR: 'it returns false'. Refute it at one input. -/
def backoffAnewWrong : ChangeSpec := { name := "backoffAnew", fn := fun _ => fun
  | [d1, d2, d3] => { results := [.lit (.bool false)], args := [d1, d2, d3] }
  | _ => none }
def BackoffAnewWrongFalsely : Prop := backoffAnewRow.holds Try.pinned (OpenSpec.ofChange backoffAnewWrong)

/- THE SECOND FORM. 'bulk': how many values and letters a reading holds, each counted each time it is reached (what is shared counts as often as it is met; a slice's spare places count too). A statement '..UptoSaid' is the law's where the arguments, and the package variables that the reading takes, are together of bulk at most 1048576: NARROWER than '..Said'. Prove '..Said' where nothing that the law and all that it calls make is longer than what came in: it says more and counts as full. Else prove '..UptoSaid'. A law counts once. -/
mutual
def uptoBulk {H : Type} : DataW H → Nat
  | .lit (.string bytes) => bytes.length + 1
  | .lit _ => 1
  | .nil => 1
  | .ptr d => uptoBulk d + 1
  | .slice elems spare => uptoBulkAll elems + uptoBulkAll spare + 1
  | .agg parts => uptoBulkAll parts + 1
  | .iface _ d => uptoBulk d + 1
  | .map entries => uptoBulkEntries entries + 1
  | .held _ => 1
def uptoBulkAll {H : Type} : List (DataW H) → Nat
  | [] => 0
  | d :: r => uptoBulk d + uptoBulkAll r
def uptoBulkEntries {H : Type} : List (Lit × DataW H) → Nat
  | [] => 0
  | x :: r => uptoBulkEntry x + uptoBulkEntries r
def uptoBulkEntry {H : Type} : Lit × DataW H → Nat
  | (.string bytes, d) => bytes.length + uptoBulk d + 1
  | (_, d) => uptoBulk d + 1
 end
def uptoSmall : (H : Type) → List (DataW H) → Bool := fun _ ds => decide (uptoBulkAll ds ≤ 1048576)
def OpenSpec.upto (s : _root_.Go.ChangeSpec) : _root_.Go.OpenSpec := { _root_.Go.OpenSpec.ofChange s with cond := some uptoSmall }

/-- 'hostlerlaw07.BackoffPlays', WHERE WHAT IT READS IS OF BULK AT MOST 1048576: true; the input reads as it did. -/
def backoffPlaysUptoRow : OpenClaim := { program := "ytcofkaackpecjaa", sum := "f584c62f01a240f56c60fb281a30893911e2a59423febf1c98c9baaee0bd64ea", func := "hostler/hostlerlaw07.BackoffPlays", spec := "backoffPlays", apart := false, narrowed := true }
def BackoffPlaysUptoSaid : Prop := backoffPlaysUptoRow.holds Try.pinned (OpenSpec.upto backoffPlaysSpec)

/-- 'hostlerlaw07.BackoffWaits', WHERE WHAT IT READS IS OF BULK AT MOST 1048576: true; the input reads as it did. -/
def backoffWaitsUptoRow : OpenClaim := { program := "ytcofkaackpecjaa", sum := "f584c62f01a240f56c60fb281a30893911e2a59423febf1c98c9baaee0bd64ea", func := "hostler/hostlerlaw07.BackoffWaits", spec := "backoffWaits", apart := false, narrowed := true }
def BackoffWaitsUptoSaid : Prop := backoffWaitsUptoRow.holds Try.pinned (OpenSpec.upto backoffWaitsSpec)

/-- 'hostlerlaw07.BackoffLate', WHERE WHAT IT READS IS OF BULK AT MOST 1048576: true; the input reads as it did. -/
def backoffLateUptoRow : OpenClaim := { program := "ytcofkaackpecjaa", sum := "f584c62f01a240f56c60fb281a30893911e2a59423febf1c98c9baaee0bd64ea", func := "hostler/hostlerlaw07.BackoffLate", spec := "backoffLate", apart := false, narrowed := true }
def BackoffLateUptoSaid : Prop := backoffLateUptoRow.holds Try.pinned (OpenSpec.upto backoffLateSpec)

/-- 'hostlerlaw07.BackoffNil', WHERE WHAT IT READS IS OF BULK AT MOST 1048576: true; the input reads as it did. -/
def backoffNilUptoRow : OpenClaim := { program := "ytcofkaackpecjaa", sum := "f584c62f01a240f56c60fb281a30893911e2a59423febf1c98c9baaee0bd64ea", func := "hostler/hostlerlaw07.BackoffNil", spec := "backoffNil", apart := false, narrowed := true }
def BackoffNilUptoSaid : Prop := backoffNilUptoRow.holds Try.pinned (OpenSpec.upto backoffNilSpec)

/-- 'hostlerlaw07.BackoffAnew', WHERE WHAT IT READS IS OF BULK AT MOST 1048576: true; the input reads as it did. -/
def backoffAnewUptoRow : OpenClaim := { program := "ytcofkaackpecjaa", sum := "f584c62f01a240f56c60fb281a30893911e2a59423febf1c98c9baaee0bd64ea", func := "hostler/hostlerlaw07.BackoffAnew", spec := "backoffAnew", apart := false, narrowed := true }
def BackoffAnewUptoSaid : Prop := backoffAnewUptoRow.holds Try.pinned (OpenSpec.upto backoffAnewSpec)

end Rows
end Go.Proofs.Ytcofkaackpecjaa
