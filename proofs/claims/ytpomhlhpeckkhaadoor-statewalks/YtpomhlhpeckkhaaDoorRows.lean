/-
  NARROWER THAN 'FOR EVERY INPUT', by the rows' own cells (each row's printed sentence says how): StateNext: laid · StateNames: laid · StateWays: laid · StateRetired: laid · StateWalks: laid.
  DERIVED. THE GIVEN ROWS OF THIS SEAT. 5 by the template 'for every input the law returns true; each argument reads behind the call as it read before'; 0 by the template 'total and deterministic' (their statements: YtpomhlhpeckkhaaDoorTotals.lean).
  GIVEN WITH THE SEED: the statements are not yours to turn. If you find one false, say at which input.
  Laid BY PROGRAM, IN A SANDBOX (cutbox-rows.mjs): the forced cells as the released guide's own fill.sh prints them over the translation 61fc637c83b5adf8… (all of the seat's roots in one cut). By AI agents, Wed Nov 11 2026. No macro, syntax, notation, axiom, sorry.
-/
import Derived.Test.YtpomhlhpeckkhaaDoorChecked
import GoSem.Claim
import GoSem.ClaimJoined
import GoSem.ClaimMapViews
import Derived.JoinedTies
import Derived.KernelRfl
namespace Go.Proofs.YtpomhlhpeckkhaaDoor
/- THE CELL 'sum', in the pinned program and in every row, IS THE sha256 OF THE DUMP (.gsa) THAT YtpomhlhpeckkhaaDoorProg.lean LOADS. Nothing in Lean hashes anything: it is a label: what it is worth is what the hold of that sum in a sandbox is worth. -/
noncomputable def Tryd.pinned : Pinned := { name := "ytpomhlhpeckkhaadoor", sum := "61fc637c83b5adf84abc7177b1aa89671a3ca7b731060036de647f61d543b2fe", checked := Tryd.checked }
namespace Rows
def none {H : Type} : Left H := { results := [], args := [] }

/- WHAT THE LISTED PACKAGE-LEVEL VARIABLES READ AS WHEN THE CALL BEGINS. Each datum BY PROGRAM (the guide's laid-datum.mjs) off the statement by which the dump's own 'gosem.cut.vars' lays the variable. In a bare row this is a premise. The card (YtpomhlhpeckkhaaDoorCards.lean) ties it to the program's text. -/
def laid_hostler_state_leads {H : Type} : DataW H := .agg [.agg [.lit (.int .i64 1), .lit (.int .i64 (-1)), .lit (.int .i64 2), .lit (.int .i64 (-1)), .lit (.int .i64 (-1)), .lit (.int .i64 1), .lit (.int .i64 (-1))], .agg [.lit (.int .i64 (-1)), .lit (.int .i64 0), .lit (.int .i64 (-1)), .lit (.int .i64 (-1)), .lit (.int .i64 3), .lit (.int .i64 (-1)), .lit (.int .i64 0)], .agg [.lit (.int .i64 1), .lit (.int .i64 (-1)), .lit (.int .i64 (-1)), .lit (.int .i64 0), .lit (.int .i64 (-1)), .lit (.int .i64 1), .lit (.int .i64 (-1))], .agg [.lit (.int .i64 (-1)), .lit (.int .i64 0), .lit (.int .i64 (-1)), .lit (.int .i64 (-1)), .lit (.int .i64 (-1)), .lit (.int .i64 (-1)), .lit (.int .i64 0)]]
def laid_hostler_state_names {H : Type} : DataW H := .agg [.lit (.string [97, 99, 116, 105, 118, 101]), .lit (.string [100, 114, 97, 105, 110, 105, 110, 103]), .lit (.string [113, 117, 97, 114, 97, 110, 116, 105, 110, 101, 100]), .lit (.string [114, 101, 116, 105, 114, 101, 100])]
def laid_hostler_state_eventNames {H : Type} : DataW H := .agg [.lit (.string [100, 114, 97, 105, 110]), .lit (.string [117, 110, 100, 114, 97, 105, 110]), .lit (.string [101, 106, 101, 99, 116]), .lit (.string [112, 114, 111, 98, 101]), .lit (.string [101, 109, 112, 116, 121]), .lit (.string [108, 101, 97, 118, 101]), .lit (.string [101, 110, 116, 101, 114])]

/-- 'hostlerlaw10.StateNext': WHATEVER THE INPUT: true; the input reads as it did. -/
def stateNextSpec : ChangeSpec := { name := "stateNext", fn := fun _ => fun
  | [d1, d2, d3] => { results := [.lit (.bool true)], args := [d1, d2, d3] }
  | _ => none }
def stateNextRow : OpenClaim := { program := "ytpomhlhpeckkhaadoor", sum := "61fc637c83b5adf84abc7177b1aa89671a3ca7b731060036de647f61d543b2fe", func := "hostler/hostlerlaw10.StateNext", spec := "stateNext", named := ["hostler/state.leads", "hostler/state.names", "hostler/state.eventNames"], apart := false, laid := [("hostler/state.leads", laid_hostler_state_leads), ("hostler/state.names", laid_hostler_state_names), ("hostler/state.eventNames", laid_hostler_state_eventNames)] }
def StateNextSaid : Prop := stateNextRow.holds Tryd.pinned (OpenSpec.ofChange stateNextSpec)

/-- ITS FALSE NEIGHBOUR: 'it returns false'. Refute it at one input. -/
def stateNextWrong : ChangeSpec := { name := "stateNext", fn := fun _ => fun
  | [d1, d2, d3] => { results := [.lit (.bool false)], args := [d1, d2, d3] }
  | _ => none }
def StateNextWrongFalsely : Prop := stateNextRow.holds Tryd.pinned (OpenSpec.ofChange stateNextWrong)

/-- 'hostlerlaw10.StateNames': WHATEVER THE INPUT: true; the input reads as it did. -/
def stateNamesSpec : ChangeSpec := { name := "stateNames", fn := fun _ => fun
  | [d1, d2] => { results := [.lit (.bool true)], args := [d1, d2] }
  | _ => none }
def stateNamesRow : OpenClaim := { program := "ytpomhlhpeckkhaadoor", sum := "61fc637c83b5adf84abc7177b1aa89671a3ca7b731060036de647f61d543b2fe", func := "hostler/hostlerlaw10.StateNames", spec := "stateNames", named := ["hostler/state.leads", "hostler/state.names"], apart := false, laid := [("hostler/state.leads", laid_hostler_state_leads), ("hostler/state.names", laid_hostler_state_names)] }
def StateNamesSaid : Prop := stateNamesRow.holds Tryd.pinned (OpenSpec.ofChange stateNamesSpec)

/-- ITS FALSE NEIGHBOUR: 'it returns false'. Refute it at one input. -/
def stateNamesWrong : ChangeSpec := { name := "stateNames", fn := fun _ => fun
  | [d1, d2] => { results := [.lit (.bool false)], args := [d1, d2] }
  | _ => none }
def StateNamesWrongFalsely : Prop := stateNamesRow.holds Tryd.pinned (OpenSpec.ofChange stateNamesWrong)

/-- 'hostlerlaw10.StateWays': WHATEVER THE INPUT: true; the input reads as it did. -/
def stateWaysSpec : ChangeSpec := { name := "stateWays", fn := fun _ => fun
  | [d1, d2] => { results := [.lit (.bool true)], args := [d1, d2] }
  | _ => none }
def stateWaysRow : OpenClaim := { program := "ytpomhlhpeckkhaadoor", sum := "61fc637c83b5adf84abc7177b1aa89671a3ca7b731060036de647f61d543b2fe", func := "hostler/hostlerlaw10.StateWays", spec := "stateWays", named := ["hostler/state.leads", "hostler/state.names"], apart := false, laid := [("hostler/state.leads", laid_hostler_state_leads), ("hostler/state.names", laid_hostler_state_names)] }
def StateWaysSaid : Prop := stateWaysRow.holds Tryd.pinned (OpenSpec.ofChange stateWaysSpec)

/-- ITS FALSE NEIGHBOUR: 'it returns false'. Refute it at one input. -/
def stateWaysWrong : ChangeSpec := { name := "stateWays", fn := fun _ => fun
  | [d1, d2] => { results := [.lit (.bool false)], args := [d1, d2] }
  | _ => none }
def StateWaysWrongFalsely : Prop := stateWaysRow.holds Tryd.pinned (OpenSpec.ofChange stateWaysWrong)

/-- 'hostlerlaw10.StateRetired': WHATEVER THE INPUT: true; the input reads as it did. -/
def stateRetiredSpec : ChangeSpec := { name := "stateRetired", fn := fun _ => fun
  | [d] => { results := [.lit (.bool true)], args := [d] }
  | _ => none }
def stateRetiredRow : OpenClaim := { program := "ytpomhlhpeckkhaadoor", sum := "61fc637c83b5adf84abc7177b1aa89671a3ca7b731060036de647f61d543b2fe", func := "hostler/hostlerlaw10.StateRetired", spec := "stateRetired", named := ["hostler/state.leads", "hostler/state.names"], apart := false, laid := [("hostler/state.leads", laid_hostler_state_leads), ("hostler/state.names", laid_hostler_state_names)] }
def StateRetiredSaid : Prop := stateRetiredRow.holds Tryd.pinned (OpenSpec.ofChange stateRetiredSpec)

/-- ITS FALSE NEIGHBOUR: 'it returns false'. Refute it at one input. -/
def stateRetiredWrong : ChangeSpec := { name := "stateRetired", fn := fun _ => fun
  | [d] => { results := [.lit (.bool false)], args := [d] }
  | _ => none }
def StateRetiredWrongFalsely : Prop := stateRetiredRow.holds Tryd.pinned (OpenSpec.ofChange stateRetiredWrong)

/-- 'hostlerlaw10.StateWalks': WHATEVER THE INPUT: true; the input reads as it did. -/
def stateWalksSpec : ChangeSpec := { name := "stateWalks", fn := fun _ => fun
  | [d1, d2, d3] => { results := [.lit (.bool true)], args := [d1, d2, d3] }
  | _ => none }
def stateWalksRow : OpenClaim := { program := "ytpomhlhpeckkhaadoor", sum := "61fc637c83b5adf84abc7177b1aa89671a3ca7b731060036de647f61d543b2fe", func := "hostler/hostlerlaw10.StateWalks", spec := "stateWalks", named := ["hostler/state.leads", "hostler/state.names"], apart := false, laid := [("hostler/state.leads", laid_hostler_state_leads), ("hostler/state.names", laid_hostler_state_names)] }
def StateWalksSaid : Prop := stateWalksRow.holds Tryd.pinned (OpenSpec.ofChange stateWalksSpec)

/-- ITS FALSE NEIGHBOUR: 'it returns false'. Refute it at one input. -/
def stateWalksWrong : ChangeSpec := { name := "stateWalks", fn := fun _ => fun
  | [d1, d2, d3] => { results := [.lit (.bool false)], args := [d1, d2, d3] }
  | _ => none }
def StateWalksWrongFalsely : Prop := stateWalksRow.holds Tryd.pinned (OpenSpec.ofChange stateWalksWrong)

/- THE SECOND FORM. 'bulk': how many values and letters a reading holds, each counted each time it is reached (what is shared counts as often as it is met; a slice's spare places count too). A statement '..UptoSaid' is the law's where the arguments, and the package variables that the reading takes, are together of bulk at most 1048576: NARROWER than '..Said'. Prove '..Said' where nothing that the law and all that it calls make is longer than what came in: it says more and counts as full. Else prove '..UptoSaid'. A law counts once. -/
mutual
def uptoBulk {H : Type} : DataW H → Nat
  | .lit (.string bytes) => bytes.length + 1
  | .lit _ => 1
  | .nil => 1
  | .ptr d => uptoBulk d + 1
  | .slice elems spare => uptoBulkAll elems + uptoBulkAll spare + 1
  | .agg parts => uptoBulkAll parts + 1
  | .iface _ d => uptoBulk d + 1
  | .map entries => uptoBulkEntries entries + 1
  | .held _ => 1
def uptoBulkAll {H : Type} : List (DataW H) → Nat
  | [] => 0
  | d :: r => uptoBulk d + uptoBulkAll r
def uptoBulkEntries {H : Type} : List (Lit × DataW H) → Nat
  | [] => 0
  | x :: r => uptoBulkEntry x + uptoBulkEntries r
def uptoBulkEntry {H : Type} : Lit × DataW H → Nat
  | (.string bytes, d) => bytes.length + uptoBulk d + 1
  | (_, d) => uptoBulk d + 1
 end
def uptoSmall : (H : Type) → List (DataW H) → Bool := fun _ ds => decide (uptoBulkAll ds ≤ 1048576)
def OpenSpec.upto (s : _root_.Go.ChangeSpec) : _root_.Go.OpenSpec := { _root_.Go.OpenSpec.ofChange s with cond := some uptoSmall }

/-- 'hostlerlaw10.StateNext', WHERE WHAT IT READS IS OF BULK AT MOST 1048576: true; the input reads as it did. -/
def stateNextUptoRow : OpenClaim := { program := "ytpomhlhpeckkhaadoor", sum := "61fc637c83b5adf84abc7177b1aa89671a3ca7b731060036de647f61d543b2fe", func := "hostler/hostlerlaw10.StateNext", spec := "stateNext", named := ["hostler/state.leads", "hostler/state.names", "hostler/state.eventNames"], apart := false, laid := [("hostler/state.leads", laid_hostler_state_leads), ("hostler/state.names", laid_hostler_state_names), ("hostler/state.eventNames", laid_hostler_state_eventNames)], narrowed := true }
def StateNextUptoSaid : Prop := stateNextUptoRow.holds Tryd.pinned (OpenSpec.upto stateNextSpec)

/-- 'hostlerlaw10.StateNames', WHERE WHAT IT READS IS OF BULK AT MOST 1048576: true; the input reads as it did. -/
def stateNamesUptoRow : OpenClaim := { program := "ytpomhlhpeckkhaadoor", sum := "61fc637c83b5adf84abc7177b1aa89671a3ca7b731060036de647f61d543b2fe", func := "hostler/hostlerlaw10.StateNames", spec := "stateNames", named := ["hostler/state.leads", "hostler/state.names"], apart := false, laid := [("hostler/state.leads", laid_hostler_state_leads), ("hostler/state.names", laid_hostler_state_names)], narrowed := true }
def StateNamesUptoSaid : Prop := stateNamesUptoRow.holds Tryd.pinned (OpenSpec.upto stateNamesSpec)

/-- 'hostlerlaw10.StateWays', WHERE WHAT IT READS IS OF BULK AT MOST 1048576: true; the input reads as it did. -/
def stateWaysUptoRow : OpenClaim := { program := "ytpomhlhpeckkhaadoor", sum := "61fc637c83b5adf84abc7177b1aa89671a3ca7b731060036de647f61d543b2fe", func := "hostler/hostlerlaw10.StateWays", spec := "stateWays", named := ["hostler/state.leads", "hostler/state.names"], apart := false, laid := [("hostler/state.leads", laid_hostler_state_leads), ("hostler/state.names", laid_hostler_state_names)], narrowed := true }
def StateWaysUptoSaid : Prop := stateWaysUptoRow.holds Tryd.pinned (OpenSpec.upto stateWaysSpec)

/-- 'hostlerlaw10.StateRetired', WHERE WHAT IT READS IS OF BULK AT MOST 1048576: true; the input reads as it did. -/
def stateRetiredUptoRow : OpenClaim := { program := "ytpomhlhpeckkhaadoor", sum := "61fc637c83b5adf84abc7177b1aa89671a3ca7b731060036de647f61d543b2fe", func := "hostler/hostlerlaw10.StateRetired", spec := "stateRetired", named := ["hostler/state.leads", "hostler/state.names"], apart := false, laid := [("hostler/state.leads", laid_hostler_state_leads), ("hostler/state.names", laid_hostler_state_names)], narrowed := true }
def StateRetiredUptoSaid : Prop := stateRetiredUptoRow.holds Tryd.pinned (OpenSpec.upto stateRetiredSpec)

/-- 'hostlerlaw10.StateWalks', WHERE WHAT IT READS IS OF BULK AT MOST 1048576: true; the input reads as it did. -/
def stateWalksUptoRow : OpenClaim := { program := "ytpomhlhpeckkhaadoor", sum := "61fc637c83b5adf84abc7177b1aa89671a3ca7b731060036de647f61d543b2fe", func := "hostler/hostlerlaw10.StateWalks", spec := "stateWalks", named := ["hostler/state.leads", "hostler/state.names"], apart := false, laid := [("hostler/state.leads", laid_hostler_state_leads), ("hostler/state.names", laid_hostler_state_names)], narrowed := true }
def StateWalksUptoSaid : Prop := stateWalksUptoRow.holds Tryd.pinned (OpenSpec.upto stateWalksSpec)

end Rows
end Go.Proofs.YtpomhlhpeckkhaaDoor
