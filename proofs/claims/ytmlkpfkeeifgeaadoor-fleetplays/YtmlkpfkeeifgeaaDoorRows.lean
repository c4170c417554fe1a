/-
  NARROWER THAN 'FOR EVERY INPUT', by the rows' own cells (each row's printed sentence says how): FleetPlays: laid · FleetGuard: laid · FleetRow: laid · FleetLeaves: laid · FleetForce: laid · FleetNil: laid · FleetStays: laid · FleetUndrains: laid.
  DERIVED. THE GIVEN ROWS OF THIS SEAT. 8 by the template 'for every input the law returns true; each argument reads behind the call as it read before'; 0 by the template 'total and deterministic' (their statements: YtmlkpfkeeifgeaaDoorTotals.lean).
  GIVEN WITH THE SEED: the statements are not yours to turn. If you find one false, say at which input.
  Laid BY PROGRAM, IN A SANDBOX (cutbox-rows.mjs): the forced cells as the released guide's own fill.sh prints them over the translation 7b4e526f50c8e8a4… (all of the seat's roots in one cut). By AI agents, Wed Nov 11 2026. No macro, syntax, notation, axiom, sorry.
-/
import Derived.Test.YtmlkpfkeeifgeaaDoorChecked
import GoSem.Claim
import GoSem.ClaimJoined
import GoSem.ClaimMapViews
import Derived.JoinedTies
import Derived.KernelRfl
namespace Go.Proofs.YtmlkpfkeeifgeaaDoor
/- THE CELL 'sum', in the pinned program and in every row, IS THE sha256 OF THE DUMP (.gsa) THAT YtmlkpfkeeifgeaaDoorProg.lean LOADS. Nothing in Lean hashes anything: it is a label: what it is worth is what the hold of that sum in a sandbox is worth. -/
noncomputable def Tryd.pinned : Pinned := { name := "ytmlkpfkeeifgeaadoor", sum := "7b4e526f50c8e8a4da19e4ef944a80d94df6c720939f8f7b31c10232590cdba2", checked := Tryd.checked }
namespace Rows
def none {H : Type} : Left H := { results := [], args := [] }

/- WHAT THE LISTED PACKAGE-LEVEL VARIABLES READ AS WHEN THE CALL BEGINS. Each datum BY PROGRAM (the guide's laid-datum.mjs) off the statement by which the dump's own 'gosem.cut.vars' lays the variable. In a bare row this is a premise. The card (YtmlkpfkeeifgeaaDoorCards.lean) ties it to the program's text. -/
def laid_hostler_state_leads {H : Type} : DataW H := .agg [.agg [.lit (.int .i64 1), .lit (.int .i64 (-1)), .lit (.int .i64 2), .lit (.int .i64 (-1)), .lit (.int .i64 (-1)), .lit (.int .i64 1), .lit (.int .i64 (-1))], .agg [.lit (.int .i64 (-1)), .lit (.int .i64 0), .lit (.int .i64 (-1)), .lit (.int .i64 (-1)), .lit (.int .i64 3), .lit (.int .i64 (-1)), .lit (.int .i64 0)], .agg [.lit (.int .i64 1), .lit (.int .i64 (-1)), .lit (.int .i64 (-1)), .lit (.int .i64 0), .lit (.int .i64 (-1)), .lit (.int .i64 1), .lit (.int .i64 (-1))], .agg [.lit (.int .i64 (-1)), .lit (.int .i64 0), .lit (.int .i64 (-1)), .lit (.int .i64 (-1)), .lit (.int .i64 (-1)), .lit (.int .i64 (-1)), .lit (.int .i64 0)]]

/-- 'hostlerlaw18.FleetPlays': WHATEVER THE INPUT: true; the input reads as it did. -/
def fleetPlaysSpec : ChangeSpec := { name := "fleetPlays", fn := fun _ => fun
  | [d1, d2, d3] => { results := [.lit (.bool true)], args := [d1, d2, d3] }
  | _ => none }
def fleetPlaysRow : OpenClaim := { program := "ytmlkpfkeeifgeaadoor", sum := "7b4e526f50c8e8a4da19e4ef944a80d94df6c720939f8f7b31c10232590cdba2", func := "hostler/hostlerlaw18.FleetPlays", spec := "fleetPlays", unfollowed := true, recurses := true, named := ["hostler/state.leads"], apart := false, laid := [("hostler/state.leads", laid_hostler_state_leads)] }
def FleetPlaysSaid : Prop := fleetPlaysRow.holds Tryd.pinned (OpenSpec.ofChange fleetPlaysSpec)

/-- ITS FALSE NEIGHBOUR: 'it returns false'. Refute it at one input. -/
def fleetPlaysWrong : ChangeSpec := { name := "fleetPlays", fn := fun _ => fun
  | [d1, d2, d3] => { results := [.lit (.bool false)], args := [d1, d2, d3] }
  | _ => none }
def FleetPlaysWrongFalsely : Prop := fleetPlaysRow.holds Tryd.pinned (OpenSpec.ofChange fleetPlaysWrong)

/-- 'hostlerlaw18.FleetGuard': WHATEVER THE INPUT: true; the input reads as it did. -/
def fleetGuardSpec : ChangeSpec := { name := "fleetGuard", fn := fun _ => fun
  | [d1, d2, d3] => { results := [.lit (.bool true)], args := [d1, d2, d3] }
  | _ => none }
def fleetGuardRow : OpenClaim := { program := "ytmlkpfkeeifgeaadoor", sum := "7b4e526f50c8e8a4da19e4ef944a80d94df6c720939f8f7b31c10232590cdba2", func := "hostler/hostlerlaw18.FleetGuard", spec := "fleetGuard", unfollowed := true, recurses := true, named := ["hostler/state.leads"], apart := false, laid := [("hostler/state.leads", laid_hostler_state_leads)] }
def FleetGuardSaid : Prop := fleetGuardRow.holds Tryd.pinned (OpenSpec.ofChange fleetGuardSpec)

/-- ITS FALSE NEIGHBOUR: 'it returns false'. Refute it at one input. -/
def fleetGuardWrong : ChangeSpec := { name := "fleetGuard", fn := fun _ => fun
  | [d1, d2, d3] => { results := [.lit (.bool false)], args := [d1, d2, d3] }
  | _ => none }
def FleetGuardWrongFalsely : Prop := fleetGuardRow.holds Tryd.pinned (OpenSpec.ofChange fleetGuardWrong)

/-- 'hostlerlaw18.FleetRow': WHATEVER THE INPUT: true; the input reads as it did. -/
def fleetRowSpec : ChangeSpec := { name := "fleetRow", fn := fun _ => fun
  | [d1, d2, d3] => { results := [.lit (.bool true)], args := [d1, d2, d3] }
  | _ => none }
def fleetRowRow : OpenClaim := { program := "ytmlkpfkeeifgeaadoor", sum := "7b4e526f50c8e8a4da19e4ef944a80d94df6c720939f8f7b31c10232590cdba2", func := "hostler/hostlerlaw18.FleetRow", spec := "fleetRow", unfollowed := true, recurses := true, named := ["hostler/state.leads"], apart := false, laid := [("hostler/state.leads", laid_hostler_state_leads)] }
def FleetRowSaid : Prop := fleetRowRow.holds Tryd.pinned (OpenSpec.ofChange fleetRowSpec)

/-- ITS FALSE NEIGHBOUR: 'it returns false'. Refute it at one input. -/
def fleetRowWrong : ChangeSpec := { name := "fleetRow", fn := fun _ => fun
  | [d1, d2, d3] => { results := [.lit (.bool false)], args := [d1, d2, d3] }
  | _ => none }
def FleetRowWrongFalsely : Prop := fleetRowRow.holds Tryd.pinned (OpenSpec.ofChange fleetRowWrong)

/-- 'hostlerlaw18.FleetLeaves': WHATEVER THE INPUT: true; the input reads as it did. -/
def fleetLeavesSpec : ChangeSpec := { name := "fleetLeaves", fn := fun _ => fun
  | [d1, d2, d3] => { results := [.lit (.bool true)], args := [d1, d2, d3] }
  | _ => none }
def fleetLeavesRow : OpenClaim := { program := "ytmlkpfkeeifgeaadoor", sum := "7b4e526f50c8e8a4da19e4ef944a80d94df6c720939f8f7b31c10232590cdba2", func := "hostler/hostlerlaw18.FleetLeaves", spec := "fleetLeaves", unfollowed := true, recurses := true, named := ["hostler/state.leads"], apart := false, laid := [("hostler/state.leads", laid_hostler_state_leads)] }
def FleetLeavesSaid : Prop := fleetLeavesRow.holds Tryd.pinned (OpenSpec.ofChange fleetLeavesSpec)

/-- ITS FALSE NEIGHBOUR: 'it returns false'. Refute it at one input. -/
def fleetLeavesWrong : ChangeSpec := { name := "fleetLeaves", fn := fun _ => fun
  | [d1, d2, d3] => { results := [.lit (.bool false)], args := [d1, d2, d3] }
  | _ => none }
def FleetLeavesWrongFalsely : Prop := fleetLeavesRow.holds Tryd.pinned (OpenSpec.ofChange fleetLeavesWrong)

/-- 'hostlerlaw18.FleetForce': WHATEVER THE INPUT: true; the input reads as it did. -/
def fleetForceSpec : ChangeSpec := { name := "fleetForce", fn := fun _ => fun
  | [d1, d2, d3] => { results := [.lit (.bool true)], args := [d1, d2, d3] }
  | _ => none }
def fleetForceRow : OpenClaim := { program := "ytmlkpfkeeifgeaadoor", sum := "7b4e526f50c8e8a4da19e4ef944a80d94df6c720939f8f7b31c10232590cdba2", func := "hostler/hostlerlaw18.FleetForce", spec := "fleetForce", unfollowed := true, recurses := true, named := ["hostler/state.leads"], apart := false, laid := [("hostler/state.leads", laid_hostler_state_leads)] }
def FleetForceSaid : Prop := fleetForceRow.holds Tryd.pinned (OpenSpec.ofChange fleetForceSpec)

/-- ITS FALSE NEIGHBOUR: 'it returns false'. Refute it at one input. -/
def fleetForceWrong : ChangeSpec := { name := "fleetForce", fn := fun _ => fun
  | [d1, d2, d3] => { results := [.lit (.bool false)], args := [d1, d2, d3] }
  | _ => none }
def FleetForceWrongFalsely : Prop := fleetForceRow.holds Tryd.pinned (OpenSpec.ofChange fleetForceWrong)

/-- 'hostlerlaw18.FleetNil': WHATEVER THE INPUT: true; the input reads as it did. -/
def fleetNilSpec : ChangeSpec := { name := "fleetNil", fn := fun _ => fun
  | [d] => { results := [.lit (.bool true)], args := [d] }
  | _ => none }
def fleetNilRow : OpenClaim := { program := "ytmlkpfkeeifgeaadoor", sum := "7b4e526f50c8e8a4da19e4ef944a80d94df6c720939f8f7b31c10232590cdba2", func := "hostler/hostlerlaw18.FleetNil", spec := "fleetNil", unfollowed := true, recurses := true, named := ["hostler/state.leads"], apart := false, laid := [("hostler/state.leads", laid_hostler_state_leads)] }
def FleetNilSaid : Prop := fleetNilRow.holds Tryd.pinned (OpenSpec.ofChange fleetNilSpec)

/-- ITS FALSE NEIGHBOUR: 'it returns false'. Refute it at one input. -/
def fleetNilWrong : ChangeSpec := { name := "fleetNil", fn := fun _ => fun
  | [d] => { results := [.lit (.bool false)], args := [d] }
  | _ => none }
def FleetNilWrongFalsely : Prop := fleetNilRow.holds Tryd.pinned (OpenSpec.ofChange fleetNilWrong)

/-- 'hostlerlaw18.FleetStays': WHATEVER THE INPUT: true; the input reads as it did. -/
def fleetStaysSpec : ChangeSpec := { name := "fleetStays", fn := fun _ => fun
  | [d1, d2, d3] => { results := [.lit (.bool true)], args := [d1, d2, d3] }
  | _ => none }
def fleetStaysRow : OpenClaim := { program := "ytmlkpfkeeifgeaadoor", sum := "7b4e526f50c8e8a4da19e4ef944a80d94df6c720939f8f7b31c10232590cdba2", func := "hostler/hostlerlaw18.FleetStays", spec := "fleetStays", unfollowed := true, recurses := true, named := ["hostler/state.leads"], apart := false, laid := [("hostler/state.leads", laid_hostler_state_leads)] }
def FleetStaysSaid : Prop := fleetStaysRow.holds Tryd.pinned (OpenSpec.ofChange fleetStaysSpec)

/-- ITS FALSE NEIGHBOUR: 'it returns false'. Refute it at one input. -/
def fleetStaysWrong : ChangeSpec := { name := "fleetStays", fn := fun _ => fun
  | [d1, d2, d3] => { results := [.lit (.bool false)], args := [d1, d2, d3] }
  | _ => none }
def FleetStaysWrongFalsely : Prop := fleetStaysRow.holds Tryd.pinned (OpenSpec.ofChange fleetStaysWrong)

/-- 'hostlerlaw18.FleetUndrains': WHATEVER THE INPUT: true; the input reads as it did. -/
def fleetUndrainsSpec : ChangeSpec := { name := "fleetUndrains", fn := fun _ => fun
  | [d1, d2, d3] => { results := [.lit (.bool true)], args := [d1, d2, d3] }
  | _ => none }
def fleetUndrainsRow : OpenClaim := { program := "ytmlkpfkeeifgeaadoor", sum := "7b4e526f50c8e8a4da19e4ef944a80d94df6c720939f8f7b31c10232590cdba2", func := "hostler/hostlerlaw18.FleetUndrains", spec := "fleetUndrains", unfollowed := true, recurses := true, named := ["hostler/state.leads"], apart := false, laid := [("hostler/state.leads", laid_hostler_state_leads)] }
def FleetUndrainsSaid : Prop := fleetUndrainsRow.holds Tryd.pinned (OpenSpec.ofChange fleetUndrainsSpec)

/-- ITS FALSE NEIGHBOUR: 'it returns false'. Refute it at one input. -/
def fleetUndrainsWrong : ChangeSpec := { name := "fleetUndrains", fn := fun _ => fun
  | [d1, d2, d3] => { results := [.lit (.bool false)], args := [d1, d2, d3] }
  | _ => none }
def FleetUndrainsWrongFalsely : Prop := fleetUndrainsRow.holds Tryd.pinned (OpenSpec.ofChange fleetUndrainsWrong)

/- THE SECOND FORM. 'bulk': how many values and letters a reading holds, each counted each time it is reached (what is shared counts as often as it is met; a slice's spare places count too). A statement '..UptoSaid' is the law's where the arguments, and the package variables that the reading takes, are together of bulk at most 1048576: NARROWER than '..Said'. Prove '..Said' where nothing that the law and all that it calls make is longer than what came in: it says more and counts as full. Else prove '..UptoSaid'. A law counts once. -/
mutual
def uptoBulk {H : Type} : DataW H → Nat
  | .lit (.string bytes) => bytes.length + 1
  | .lit _ => 1
  | .nil => 1
  | .ptr d => uptoBulk d + 1
  | .slice elems spare => uptoBulkAll elems + uptoBulkAll spare + 1
  | .agg parts => uptoBulkAll parts + 1
  | .iface _ d => uptoBulk d + 1
  | .map entries => uptoBulkEntries entries + 1
  | .held _ => 1
def uptoBulkAll {H : Type} : List (DataW H) → Nat
  | [] => 0
  | d :: r => uptoBulk d + uptoBulkAll r
def uptoBulkEntries {H : Type} : List (Lit × DataW H) → Nat
  | [] => 0
  | x :: r => uptoBulkEntry x + uptoBulkEntries r
def uptoBulkEntry {H : Type} : Lit × DataW H → Nat
  | (.string bytes, d) => bytes.length + uptoBulk d + 1
  | (_, d) => uptoBulk d + 1
 end
def uptoSmall : (H : Type) → List (DataW H) → Bool := fun _ ds => decide (uptoBulkAll ds ≤ 1048576)
def OpenSpec.upto (s : _root_.Go.ChangeSpec) : _root_.Go.OpenSpec := { _root_.Go.OpenSpec.ofChange s with cond := some uptoSmall }

/-- 'hostlerlaw18.FleetPlays', WHERE WHAT IT READS IS OF BULK AT MOST 1048576: true; the input reads as it did. -/
def fleetPlaysUptoRow : OpenClaim := { program := "ytmlkpfkeeifgeaadoor", sum := "7b4e526f50c8e8a4da19e4ef944a80d94df6c720939f8f7b31c10232590cdba2", func := "hostler/hostlerlaw18.FleetPlays", spec := "fleetPlays", unfollowed := true, recurses := true, named := ["hostler/state.leads"], apart := false, laid := [("hostler/state.leads", laid_hostler_state_leads)], narrowed := true }
def FleetPlaysUptoSaid : Prop := fleetPlaysUptoRow.holds Tryd.pinned (OpenSpec.upto fleetPlaysSpec)

/-- 'hostlerlaw18.FleetGuard', WHERE WHAT IT READS IS OF BULK AT MOST 1048576: true; the input reads as it did. -/
def fleetGuardUptoRow : OpenClaim := { program := "ytmlkpfkeeifgeaadoor", sum := "7b4e526f50c8e8a4da19e4ef944a80d94df6c720939f8f7b31c10232590cdba2", func := "hostler/hostlerlaw18.FleetGuard", spec := "fleetGuard", unfollowed := true, recurses := true, named := ["hostler/state.leads"], apart := false, laid := [("hostler/state.leads", laid_hostler_state_leads)], narrowed := true }
def FleetGuardUptoSaid : Prop := fleetGuardUptoRow.holds Tryd.pinned (OpenSpec.upto fleetGuardSpec)

/-- 'hostlerlaw18.FleetRow', WHERE WHAT IT READS IS OF BULK AT MOST 1048576: true; the input reads as it did. -/
def fleetRowUptoRow : OpenClaim := { program := "ytmlkpfkeeifgeaadoor", sum := "7b4e526f50c8e8a4da19e4ef944a80d94df6c720939f8f7b31c10232590cdba2", func := "hostler/hostlerlaw18.FleetRow", spec := "fleetRow", unfollowed := true, recurses := true, named := ["hostler/state.leads"], apart := false, laid := [("hostler/state.leads", laid_hostler_state_leads)], narrowed := true }
def FleetRowUptoSaid : Prop := fleetRowUptoRow.holds Tryd.pinned (OpenSpec.upto fleetRowSpec)

/-- 'hostlerlaw18.FleetLeaves', WHERE WHAT IT READS IS OF BULK AT MOST 1048576: true; the input reads as it did. -/
def fleetLeavesUptoRow : OpenClaim := { program := "ytmlkpfkeeifgeaadoor", sum := "7b4e526f50c8e8a4da19e4ef944a80d94df6c720939f8f7b31c10232590cdba2", func := "hostler/hostlerlaw18.FleetLeaves", spec := "fleetLeaves", unfollowed := true, recurses := true, named := ["hostler/state.leads"], apart := false, laid := [("hostler/state.leads", laid_hostler_state_leads)], narrowed := true }
def FleetLeavesUptoSaid : Prop := fleetLeavesUptoRow.holds Tryd.pinned (OpenSpec.upto fleetLeavesSpec)

/-- 'hostlerlaw18.FleetForce', WHERE WHAT IT READS IS OF BULK AT MOST 1048576: true; the input reads as it did. -/
def fleetForceUptoRow : OpenClaim := { program := "ytmlkpfkeeifgeaadoor", sum := "7b4e526f50c8e8a4da19e4ef944a80d94df6c720939f8f7b31c10232590cdba2", func := "hostler/hostlerlaw18.FleetForce", spec := "fleetForce", unfollowed := true, recurses := true, named := ["hostler/state.leads"], apart := false, laid := [("hostler/state.leads", laid_hostler_state_leads)], narrowed := true }
def FleetForceUptoSaid : Prop := fleetForceUptoRow.holds Tryd.pinned (OpenSpec.upto fleetForceSpec)

/-- 'hostlerlaw18.FleetNil', WHERE WHAT IT READS IS OF BULK AT MOST 1048576: true; the input reads as it did. -/
def fleetNilUptoRow : OpenClaim := { program := "ytmlkpfkeeifgeaadoor", sum := "7b4e526f50c8e8a4da19e4ef944a80d94df6c720939f8f7b31c10232590cdba2", func := "hostler/hostlerlaw18.FleetNil", spec := "fleetNil", unfollowed := true, recurses := true, named := ["hostler/state.leads"], apart := false, laid := [("hostler/state.leads", laid_hostler_state_leads)], narrowed := true }
def FleetNilUptoSaid : Prop := fleetNilUptoRow.holds Tryd.pinned (OpenSpec.upto fleetNilSpec)

/-- 'hostlerlaw18.FleetStays', WHERE WHAT IT READS IS OF BULK AT MOST 1048576: true; the input reads as it did. -/
def fleetStaysUptoRow : OpenClaim := { program := "ytmlkpfkeeifgeaadoor", sum := "7b4e526f50c8e8a4da19e4ef944a80d94df6c720939f8f7b31c10232590cdba2", func := "hostler/hostlerlaw18.FleetStays", spec := "fleetStays", unfollowed := true, recurses := true, named := ["hostler/state.leads"], apart := false, laid := [("hostler/state.leads", laid_hostler_state_leads)], narrowed := true }
def FleetStaysUptoSaid : Prop := fleetStaysUptoRow.holds Tryd.pinned (OpenSpec.upto fleetStaysSpec)

/-- 'hostlerlaw18.FleetUndrains', WHERE WHAT IT READS IS OF BULK AT MOST 1048576: true; the input reads as it did. -/
def fleetUndrainsUptoRow : OpenClaim := { program := "ytmlkpfkeeifgeaadoor", sum := "7b4e526f50c8e8a4da19e4ef944a80d94df6c720939f8f7b31c10232590cdba2", func := "hostler/hostlerlaw18.FleetUndrains", spec := "fleetUndrains", unfollowed := true, recurses := true, named := ["hostler/state.leads"], apart := false, laid := [("hostler/state.leads", laid_hostler_state_leads)], narrowed := true }
def FleetUndrainsUptoSaid : Prop := fleetUndrainsUptoRow.holds Tryd.pinned (OpenSpec.upto fleetUndrainsSpec)

end Rows
end Go.Proofs.YtmlkpfkeeifgeaaDoor
