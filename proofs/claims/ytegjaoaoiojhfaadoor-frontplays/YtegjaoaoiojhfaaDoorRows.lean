/-
  NARROWER THAN 'FOR EVERY INPUT', by the rows' own cells (each row's printed sentence says how): FrontPlays: laid · FrontOn: laid · FrontPasses: laid · FrontHeld: laid · FrontNil: laid · FrontRounds: laid.
  DERIVED. THE GIVEN ROWS OF THIS SEAT. 6 by the template 'for every input the law returns true; each argument reads behind the call as it read before'; 0 by the template 'total and deterministic' (their statements: YtegjaoaoiojhfaaDoorTotals.lean).
  GIVEN WITH THE SEED: the statements are not yours to turn. If you find one false, say at which input.
  Laid BY PROGRAM, IN A SANDBOX (cutbox-rows.mjs): the forced cells as the released guide's own fill.sh prints them over the translation f485ab9bd917fcd0… (all of the seat's roots in one cut). By AI agents, Wed Nov 11 2026. No macro, syntax, notation, axiom, sorry.
-/
import Derived.Test.YtegjaoaoiojhfaaDoorChecked
import GoSem.Claim
import GoSem.ClaimJoined
import GoSem.ClaimMapViews
import Derived.JoinedTies
import Derived.KernelRfl
namespace Go.Proofs.YtegjaoaoiojhfaaDoor
/- THE CELL 'sum', in the pinned program and in every row, IS THE sha256 OF THE DUMP (.gsa) THAT YtegjaoaoiojhfaaDoorProg.lean LOADS. Nothing in Lean hashes anything: it is a label: what it is worth is what the hold of that sum in a sandbox is worth. -/
noncomputable def Tryd.pinned : Pinned := { name := "ytegjaoaoiojhfaadoor", sum := "f485ab9bd917fcd030f5aeff6026f790dbce094f1280e3a5d8a3d0a32178e022", checked := Tryd.checked }
namespace Rows
def none {H : Type} : Left H := { results := [], args := [] }

/- WHAT THE LISTED PACKAGE-LEVEL VARIABLES READ AS WHEN THE CALL BEGINS. Each datum BY PROGRAM (the guide's laid-datum.mjs) off the statement by which the dump's own 'gosem.cut.vars' lays the variable. In a bare row this is a premise. The card (YtegjaoaoiojhfaaDoorCards.lean) ties it to the program's text. -/
def laid_hostler_front_columns {H : Type} : DataW H := .agg [.lit (.int .i64 0), .lit (.int .i64 1), .lit (.int .i64 2), .lit (.int .i64 3), .lit (.int .i64 4), .lit (.int .i64 4), .lit (.int .i64 0), .lit (.int .i64 0), .lit (.int .i64 5)]
def laid_hostler_front_table {H : Type} : DataW H := .agg [.agg [.agg [.lit (.int .i64 6), .lit (.int .i64 7)], .agg [.lit (.int .i64 1), .lit (.int .i64 1)], .agg [.lit (.int .i64 6), .lit (.int .i64 7)], .agg [.lit (.int .i64 6), .lit (.int .i64 7)], .agg [.lit (.int .i64 6), .lit (.int .i64 7)], .agg [.lit (.int .i64 6), .lit (.int .i64 5)]], .agg [.agg [.lit (.int .i64 6), .lit (.int .i64 7)], .agg [.lit (.int .i64 6), .lit (.int .i64 7)], .agg [.lit (.int .i64 2), .lit (.int .i64 2)], .agg [.lit (.int .i64 6), .lit (.int .i64 7)], .agg [.lit (.int .i64 6), .lit (.int .i64 7)], .agg [.lit (.int .i64 6), .lit (.int .i64 5)]], .agg [.agg [.lit (.int .i64 6), .lit (.int .i64 7)], .agg [.lit (.int .i64 2), .lit (.int .i64 3)], .agg [.lit (.int .i64 2), .lit (.int .i64 3)], .agg [.lit (.int .i64 2), .lit (.int .i64 3)], .agg [.lit (.int .i64 2), .lit (.int .i64 3)], .agg [.lit (.int .i64 6), .lit (.int .i64 5)]], .agg [.agg [.lit (.int .i64 6), .lit (.int .i64 8)], .agg [.lit (.int .i64 6), .lit (.int .i64 8)], .agg [.lit (.int .i64 6), .lit (.int .i64 8)], .agg [.lit (.int .i64 3), .lit (.int .i64 4)], .agg [.lit (.int .i64 4), .lit (.int .i64 4)], .agg [.lit (.int .i64 6), .lit (.int .i64 6)]], .agg [.agg [.lit (.int .i64 6), .lit (.int .i64 8)], .agg [.lit (.int .i64 4), .lit (.int .i64 3)], .agg [.lit (.int .i64 4), .lit (.int .i64 3)], .agg [.lit (.int .i64 4), .lit (.int .i64 3)], .agg [.lit (.int .i64 4), .lit (.int .i64 3)], .agg [.lit (.int .i64 6), .lit (.int .i64 6)]], .agg [.agg [.lit (.int .i64 6), .lit (.int .i64 7)], .agg [.lit (.int .i64 6), .lit (.int .i64 7)], .agg [.lit (.int .i64 6), .lit (.int .i64 7)], .agg [.lit (.int .i64 5), .lit (.int .i64 0)], .agg [.lit (.int .i64 1), .lit (.int .i64 0)], .agg [.lit (.int .i64 6), .lit (.int .i64 5)]], .agg [.agg [.lit (.int .i64 6), .lit (.int .i64 0)], .agg [.lit (.int .i64 6), .lit (.int .i64 0)], .agg [.lit (.int .i64 6), .lit (.int .i64 0)], .agg [.lit (.int .i64 6), .lit (.int .i64 0)], .agg [.lit (.int .i64 6), .lit (.int .i64 0)], .agg [.lit (.int .i64 6), .lit (.int .i64 0)]]]
def laid_hostler_front_names {H : Type} : DataW H := .agg [.lit (.string [110, 101, 119]), .lit (.string [105, 100, 108, 101]), .lit (.string [119, 97, 105, 116, 105, 110, 103]), .lit (.string [98, 111, 117, 110, 100]), .lit (.string [101, 110, 100, 105, 110, 103]), .lit (.string [115, 107, 105, 112, 112, 105, 110, 103]), .lit (.string [99, 108, 111, 115, 101, 100])]

/-- 'hostlerlaw15.FrontPlays': WHATEVER THE INPUT: true; the input reads as it did. -/
def frontPlaysSpec : ChangeSpec := { name := "frontPlays", fn := fun _ => fun
  | [d] => { results := [.lit (.bool true)], args := [d] }
  | _ => none }
def frontPlaysRow : OpenClaim := { program := "ytegjaoaoiojhfaadoor", sum := "f485ab9bd917fcd030f5aeff6026f790dbce094f1280e3a5d8a3d0a32178e022", func := "hostler/hostlerlaw15.FrontPlays", spec := "frontPlays", named := ["hostler/front.columns", "hostler/front.table"], apart := false, laid := [("hostler/front.columns", laid_hostler_front_columns), ("hostler/front.table", laid_hostler_front_table)] }
def FrontPlaysSaid : Prop := frontPlaysRow.holds Tryd.pinned (OpenSpec.ofChange frontPlaysSpec)

/-- ITS FALSE NEIGHBOUR: 'it returns false'. Refute it at one input. -/
def frontPlaysWrong : ChangeSpec := { name := "frontPlays", fn := fun _ => fun
  | [d] => { results := [.lit (.bool false)], args := [d] }
  | _ => none }
def FrontPlaysWrongFalsely : Prop := frontPlaysRow.holds Tryd.pinned (OpenSpec.ofChange frontPlaysWrong)

/-- 'hostlerlaw15.FrontOn': WHATEVER THE INPUT: true; the input reads as it did. -/
def frontOnSpec : ChangeSpec := { name := "frontOn", fn := fun _ => fun
  | [d1, d2] => { results := [.lit (.bool true)], args := [d1, d2] }
  | _ => none }
def frontOnRow : OpenClaim := { program := "ytegjaoaoiojhfaadoor", sum := "f485ab9bd917fcd030f5aeff6026f790dbce094f1280e3a5d8a3d0a32178e022", func := "hostler/hostlerlaw15.FrontOn", spec := "frontOn", named := ["hostler/front.columns", "hostler/front.table", "hostler/front.names"], apart := false, laid := [("hostler/front.columns", laid_hostler_front_columns), ("hostler/front.table", laid_hostler_front_table), ("hostler/front.names", laid_hostler_front_names)] }
def FrontOnSaid : Prop := frontOnRow.holds Tryd.pinned (OpenSpec.ofChange frontOnSpec)

/-- ITS FALSE NEIGHBOUR: 'it returns false'. Refute it at one input. -/
def frontOnWrong : ChangeSpec := { name := "frontOn", fn := fun _ => fun
  | [d1, d2] => { results := [.lit (.bool false)], args := [d1, d2] }
  | _ => none }
def FrontOnWrongFalsely : Prop := frontOnRow.holds Tryd.pinned (OpenSpec.ofChange frontOnWrong)

/-- 'hostlerlaw15.FrontPasses': WHATEVER THE INPUT: true; the input reads as it did. -/
def frontPassesSpec : ChangeSpec := { name := "frontPasses", fn := fun _ => fun
  | [d] => { results := [.lit (.bool true)], args := [d] }
  | _ => none }
def frontPassesRow : OpenClaim := { program := "ytegjaoaoiojhfaadoor", sum := "f485ab9bd917fcd030f5aeff6026f790dbce094f1280e3a5d8a3d0a32178e022", func := "hostler/hostlerlaw15.FrontPasses", spec := "frontPasses", named := ["hostler/front.columns", "hostler/front.table"], apart := false, laid := [("hostler/front.columns", laid_hostler_front_columns), ("hostler/front.table", laid_hostler_front_table)] }
def FrontPassesSaid : Prop := frontPassesRow.holds Tryd.pinned (OpenSpec.ofChange frontPassesSpec)

/-- ITS FALSE NEIGHBOUR: 'it returns false'. Refute it at one input. -/
def frontPassesWrong : ChangeSpec := { name := "frontPasses", fn := fun _ => fun
  | [d] => { results := [.lit (.bool false)], args := [d] }
  | _ => none }
def FrontPassesWrongFalsely : Prop := frontPassesRow.holds Tryd.pinned (OpenSpec.ofChange frontPassesWrong)

/-- 'hostlerlaw15.FrontHeld': WHATEVER THE INPUT: true; the input reads as it did. -/
def frontHeldSpec : ChangeSpec := { name := "frontHeld", fn := fun _ => fun
  | [d] => { results := [.lit (.bool true)], args := [d] }
  | _ => none }
def frontHeldRow : OpenClaim := { program := "ytegjaoaoiojhfaadoor", sum := "f485ab9bd917fcd030f5aeff6026f790dbce094f1280e3a5d8a3d0a32178e022", func := "hostler/hostlerlaw15.FrontHeld", spec := "frontHeld", named := ["hostler/front.columns", "hostler/front.table"], apart := false, laid := [("hostler/front.columns", laid_hostler_front_columns), ("hostler/front.table", laid_hostler_front_table)] }
def FrontHeldSaid : Prop := frontHeldRow.holds Tryd.pinned (OpenSpec.ofChange frontHeldSpec)

/-- ITS FALSE NEIGHBOUR: 'it returns false'. Refute it at one input. -/
def frontHeldWrong : ChangeSpec := { name := "frontHeld", fn := fun _ => fun
  | [d] => { results := [.lit (.bool false)], args := [d] }
  | _ => none }
def FrontHeldWrongFalsely : Prop := frontHeldRow.holds Tryd.pinned (OpenSpec.ofChange frontHeldWrong)

/-- 'hostlerlaw15.FrontNil': WHATEVER THE INPUT: true; the input reads as it did. -/
def frontNilSpec : ChangeSpec := { name := "frontNil", fn := fun _ => fun
  | [d1, d2] => { results := [.lit (.bool true)], args := [d1, d2] }
  | _ => none }
def frontNilRow : OpenClaim := { program := "ytegjaoaoiojhfaadoor", sum := "f485ab9bd917fcd030f5aeff6026f790dbce094f1280e3a5d8a3d0a32178e022", func := "hostler/hostlerlaw15.FrontNil", spec := "frontNil", named := ["hostler/front.columns", "hostler/front.table"], apart := false, laid := [("hostler/front.columns", laid_hostler_front_columns), ("hostler/front.table", laid_hostler_front_table)] }
def FrontNilSaid : Prop := frontNilRow.holds Tryd.pinned (OpenSpec.ofChange frontNilSpec)

/-- ITS FALSE NEIGHBOUR: 'it returns false'. Refute it at one input. -/
def frontNilWrong : ChangeSpec := { name := "frontNil", fn := fun _ => fun
  | [d1, d2] => { results := [.lit (.bool false)], args := [d1, d2] }
  | _ => none }
def FrontNilWrongFalsely : Prop := frontNilRow.holds Tryd.pinned (OpenSpec.ofChange frontNilWrong)

/-- 'hostlerlaw15.FrontRounds': WHATEVER THE INPUT: true; the input reads as it did. -/
def frontRoundsSpec : ChangeSpec := { name := "frontRounds", fn := fun _ => fun
  | [d1, d2] => { results := [.lit (.bool true)], args := [d1, d2] }
  | _ => none }
def frontRoundsRow : OpenClaim := { program := "ytegjaoaoiojhfaadoor", sum := "f485ab9bd917fcd030f5aeff6026f790dbce094f1280e3a5d8a3d0a32178e022", func := "hostler/hostlerlaw15.FrontRounds", spec := "frontRounds", named := ["hostler/front.columns", "hostler/front.table"], apart := false, laid := [("hostler/front.columns", laid_hostler_front_columns), ("hostler/front.table", laid_hostler_front_table)] }
def FrontRoundsSaid : Prop := frontRoundsRow.holds Tryd.pinned (OpenSpec.ofChange frontRoundsSpec)

/-- ITS FALSE NEIGHBOUR: 'it returns false'. Refute it at one input. -/
def frontRoundsWrong : ChangeSpec := { name := "frontRounds", fn := fun _ => fun
  | [d1, d2] => { results := [.lit (.bool false)], args := [d1, d2] }
  | _ => none }
def FrontRoundsWrongFalsely : Prop := frontRoundsRow.holds Tryd.pinned (OpenSpec.ofChange frontRoundsWrong)

/- THE SECOND FORM. 'bulk': how many values and letters a reading holds, each counted each time it is reached (what is shared counts as often as it is met; a slice's spare places count too). A statement '..UptoSaid' is the law's where the arguments, and the package variables that the reading takes, are together of bulk at most 1048576: NARROWER than '..Said'. Prove '..Said' where nothing that the law and all that it calls make is longer than what came in: it says more and counts as full. Else prove '..UptoSaid'. A law counts once. -/
mutual
def uptoBulk {H : Type} : DataW H → Nat
  | .lit (.string bytes) => bytes.length + 1
  | .lit _ => 1
  | .nil => 1
  | .ptr d => uptoBulk d + 1
  | .slice elems spare => uptoBulkAll elems + uptoBulkAll spare + 1
  | .agg parts => uptoBulkAll parts + 1
  | .iface _ d => uptoBulk d + 1
  | .map entries => uptoBulkEntries entries + 1
  | .held _ => 1
def uptoBulkAll {H : Type} : List (DataW H) → Nat
  | [] => 0
  | d :: r => uptoBulk d + uptoBulkAll r
def uptoBulkEntries {H : Type} : List (Lit × DataW H) → Nat
  | [] => 0
  | x :: r => uptoBulkEntry x + uptoBulkEntries r
def uptoBulkEntry {H : Type} : Lit × DataW H → Nat
  | (.string bytes, d) => bytes.length + uptoBulk d + 1
  | (_, d) => uptoBulk d + 1
 end
def uptoSmall : (H : Type) → List (DataW H) → Bool := fun _ ds => decide (uptoBulkAll ds ≤ 1048576)
def OpenSpec.upto (s : _root_.Go.ChangeSpec) : _root_.Go.OpenSpec := { _root_.Go.OpenSpec.ofChange s with cond := some uptoSmall }

/-- 'hostlerlaw15.FrontPlays', WHERE WHAT IT READS IS OF BULK AT MOST 1048576: true; the input reads as it did. -/
def frontPlaysUptoRow : OpenClaim := { program := "ytegjaoaoiojhfaadoor", sum := "f485ab9bd917fcd030f5aeff6026f790dbce094f1280e3a5d8a3d0a32178e022", func := "hostler/hostlerlaw15.FrontPlays", spec := "frontPlays", named := ["hostler/front.columns", "hostler/front.table"], apart := false, laid := [("hostler/front.columns", laid_hostler_front_columns), ("hostler/front.table", laid_hostler_front_table)], narrowed := true }
def FrontPlaysUptoSaid : Prop := frontPlaysUptoRow.holds Tryd.pinned (OpenSpec.upto frontPlaysSpec)

/-- 'hostlerlaw15.FrontOn', WHERE WHAT IT READS IS OF BULK AT MOST 1048576: true; the input reads as it did. -/
def frontOnUptoRow : OpenClaim := { program := "ytegjaoaoiojhfaadoor", sum := "f485ab9bd917fcd030f5aeff6026f790dbce094f1280e3a5d8a3d0a32178e022", func := "hostler/hostlerlaw15.FrontOn", spec := "frontOn", named := ["hostler/front.columns", "hostler/front.table", "hostler/front.names"], apart := false, laid := [("hostler/front.columns", laid_hostler_front_columns), ("hostler/front.table", laid_hostler_front_table), ("hostler/front.names", laid_hostler_front_names)], narrowed := true }
def FrontOnUptoSaid : Prop := frontOnUptoRow.holds Tryd.pinned (OpenSpec.upto frontOnSpec)

/-- 'hostlerlaw15.FrontPasses', WHERE WHAT IT READS IS OF BULK AT MOST 1048576: true; the input reads as it did. -/
def frontPassesUptoRow : OpenClaim := { program := "ytegjaoaoiojhfaadoor", sum := "f485ab9bd917fcd030f5aeff6026f790dbce094f1280e3a5d8a3d0a32178e022", func := "hostler/hostlerlaw15.FrontPasses", spec := "frontPasses", named := ["hostler/front.columns", "hostler/front.table"], apart := false, laid := [("hostler/front.columns", laid_hostler_front_columns), ("hostler/front.table", laid_hostler_front_table)], narrowed := true }
def FrontPassesUptoSaid : Prop := frontPassesUptoRow.holds Tryd.pinned (OpenSpec.upto frontPassesSpec)

/-- 'hostlerlaw15.FrontHeld', WHERE WHAT IT READS IS OF BULK AT MOST 1048576: true; the input reads as it did. -/
def frontHeldUptoRow : OpenClaim := { program := "ytegjaoaoiojhfaadoor", sum := "f485ab9bd917fcd030f5aeff6026f790dbce094f1280e3a5d8a3d0a32178e022", func := "hostler/hostlerlaw15.FrontHeld", spec := "frontHeld", named := ["hostler/front.columns", "hostler/front.table"], apart := false, laid := [("hostler/front.columns", laid_hostler_front_columns), ("hostler/front.table", laid_hostler_front_table)], narrowed := true }
def FrontHeldUptoSaid : Prop := frontHeldUptoRow.holds Tryd.pinned (OpenSpec.upto frontHeldSpec)

/-- 'hostlerlaw15.FrontNil', WHERE WHAT IT READS IS OF BULK AT MOST 1048576: true; the input reads as it did. -/
def frontNilUptoRow : OpenClaim := { program := "ytegjaoaoiojhfaadoor", sum := "f485ab9bd917fcd030f5aeff6026f790dbce094f1280e3a5d8a3d0a32178e022", func := "hostler/hostlerlaw15.FrontNil", spec := "frontNil", named := ["hostler/front.columns", "hostler/front.table"], apart := false, laid := [("hostler/front.columns", laid_hostler_front_columns), ("hostler/front.table", laid_hostler_front_table)], narrowed := true }
def FrontNilUptoSaid : Prop := frontNilUptoRow.holds Tryd.pinned (OpenSpec.upto frontNilSpec)

/-- 'hostlerlaw15.FrontRounds', WHERE WHAT IT READS IS OF BULK AT MOST 1048576: true; the input reads as it did. -/
def frontRoundsUptoRow : OpenClaim := { program := "ytegjaoaoiojhfaadoor", sum := "f485ab9bd917fcd030f5aeff6026f790dbce094f1280e3a5d8a3d0a32178e022", func := "hostler/hostlerlaw15.FrontRounds", spec := "frontRounds", named := ["hostler/front.columns", "hostler/front.table"], apart := false, laid := [("hostler/front.columns", laid_hostler_front_columns), ("hostler/front.table", laid_hostler_front_table)], narrowed := true }
def FrontRoundsUptoSaid : Prop := frontRoundsUptoRow.holds Tryd.pinned (OpenSpec.upto frontRoundsSpec)

end Rows
end Go.Proofs.YtegjaoaoiojhfaaDoor
