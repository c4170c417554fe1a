/-
  No cell of these rows narrows 'for every input' (looked for: loops, veiled, ifaces, maps, wideKeys, modest, calm, conditions, laid).
  DERIVED. THE GIVEN ROWS OF THIS SEAT. 5 by the template 'for every input the law returns true; each argument reads behind the call as it read before'; 0 by the template 'total and deterministic' (their statements: YthobihlnjcphaaaTotals.lean).
  GIVEN WITH THE SEED: the statements are not yours to turn. If you find one false, say at which input.
  Laid BY PROGRAM, IN A SANDBOX (cutbox-rows.mjs): the forced cells as the released guide's own fill.sh prints them over the translation 5d2725f81fcf1f01… (all of the seat's roots in one cut). By AI agents, Wed Nov 11 2026. No macro, syntax, notation, axiom, sorry.
-/
import Derived.Test.YthobihlnjcphaaaChecked
import GoSem.Claim
import GoSem.ClaimJoined
import GoSem.ClaimMapViews
import Derived.JoinedTies
import Derived.KernelRfl
namespace Go.Proofs.Ythobihlnjcphaaa
/- THE CELL 'sum', in the pinned program and in every row, IS THE sha256 OF THE DUMP (.gsa) THAT YthobihlnjcphaaaProg.lean LOADS. Nothing in Lean hashes anything: it is a label: what it is worth is what the hold of that sum in a sandbox is worth. -/
noncomputable def Try.pinned : Pinned := { name := "ythobihlnjcphaaa", sum := "5d2725f81fcf1f0115cd1b1ce3d478e9865f31e4b52648d0921725bea0bb5968", checked := Try.checked }
namespace Rows
def none {H : Type} : Left H := { results := [], args := [] }

/-- 'hostlerlaw13.DrainsPlays': WHATEVER THE INPUT: true; the input reads as it did. -/
def drainsPlaysSpec : ChangeSpec := { name := "drainsPlays", fn := fun _ => fun
  | [d] => { results := [.lit (.bool true)], args := [d] }
  | _ => none }
def drainsPlaysRow : OpenClaim := { program := "ythobihlnjcphaaa", sum := "5d2725f81fcf1f0115cd1b1ce3d478e9865f31e4b52648d0921725bea0bb5968", func := "hostler/hostlerlaw13.DrainsPlays", spec := "drainsPlays", unfollowed := true, recurses := true, apart := false }
def DrainsPlaysSaid : Prop := drainsPlaysRow.holds Try.pinned (OpenSpec.ofChange drainsPlaysSpec)

/-- ITS FALSE NEIGHBOUR: 'it returns false'. Refute it at one input. -/
def drainsPlaysWrong : ChangeSpec := { name := "drainsPlays", fn := fun _ => fun
  | [d] => { results := [.lit (.bool false)], args := [d] }
  | _ => none }
def DrainsPlaysWrongFalsely : Prop := drainsPlaysRow.holds Try.pinned (OpenSpec.ofChange drainsPlaysWrong)

/-- 'hostlerlaw13.DrainsRow': WHATEVER THE INPUT: true; the input reads as it did. -/
def drainsRowSpec : ChangeSpec := { name := "drainsRow", fn := fun _ => fun
  | [d1, d2] => { results := [.lit (.bool true)], args := [d1, d2] }
  | _ => none }
def drainsRowRow : OpenClaim := { program := "ythobihlnjcphaaa", sum := "5d2725f81fcf1f0115cd1b1ce3d478e9865f31e4b52648d0921725bea0bb5968", func := "hostler/hostlerlaw13.DrainsRow", spec := "drainsRow", unfollowed := true, recurses := true, apart := false }
def DrainsRowSaid : Prop := drainsRowRow.holds Try.pinned (OpenSpec.ofChange drainsRowSpec)

/-- ITS FALSE NEIGHBOUR: 'it returns false'. Refute it at one input. -/
def drainsRowWrong : ChangeSpec := { name := "drainsRow", fn := fun _ => fun
  | [d1, d2] => { results := [.lit (.bool false)], args := [d1, d2] }
  | _ => none }
def DrainsRowWrongFalsely : Prop := drainsRowRow.holds Try.pinned (OpenSpec.ofChange drainsRowWrong)

/-- 'hostlerlaw13.DrainsOnce': WHATEVER THE INPUT: true; the input reads as it did. -/
def drainsOnceSpec : ChangeSpec := { name := "drainsOnce", fn := fun _ => fun
  | [d] => { results := [.lit (.bool true)], args := [d] }
  | _ => none }
def drainsOnceRow : OpenClaim := { program := "ythobihlnjcphaaa", sum := "5d2725f81fcf1f0115cd1b1ce3d478e9865f31e4b52648d0921725bea0bb5968", func := "hostler/hostlerlaw13.DrainsOnce", spec := "drainsOnce", apart := false }
def DrainsOnceSaid : Prop := drainsOnceRow.holds Try.pinned (OpenSpec.ofChange drainsOnceSpec)

/-- ITS FALSE NEIGHBOUR: 'it returns false'. Refute it at one input. -/
def drainsOnceWrong : ChangeSpec := { name := "drainsOnce", fn := fun _ => fun
  | [d] => { results := [.lit (.bool false)], args := [d] }
  | _ => none }
def DrainsOnceWrongFalsely : Prop := drainsOnceRow.holds Try.pinned (OpenSpec.ofChange drainsOnceWrong)

/-- 'hostlerlaw13.DrainsNil': WHATEVER THE INPUT: true; the input reads as it did. -/
def drainsNilSpec : ChangeSpec := { name := "drainsNil", fn := fun _ => fun
  | [d1, d2] => { results := [.lit (.bool true)], args := [d1, d2] }
  | _ => none }
def drainsNilRow : OpenClaim := { program := "ythobihlnjcphaaa", sum := "5d2725f81fcf1f0115cd1b1ce3d478e9865f31e4b52648d0921725bea0bb5968", func := "hostler/hostlerlaw13.DrainsNil", spec := "drainsNil", unfollowed := true, recurses := true, apart := false }
def DrainsNilSaid : Prop := drainsNilRow.holds Try.pinned (OpenSpec.ofChange drainsNilSpec)

/-- ITS FALSE NEIGHBOUR: 'it returns false'. Refute it at one input. -/
def drainsNilWrong : ChangeSpec := { name := "drainsNil", fn := fun _ => fun
  | [d1, d2] => { results := [.lit (.bool false)], args := [d1, d2] }
  | _ => none }
def DrainsNilWrongFalsely : Prop := drainsNilRow.holds Try.pinned (OpenSpec.ofChange drainsNilWrong)

/-- 'hostlerlaw13.DrainsDue': WHATEVER THE INPUT: true; the input reads as it did. -/
def drainsDueSpec : ChangeSpec := { name := "drainsDue", fn := fun _ => fun
  | [d1, d2, d3] => { results := [.lit (.bool true)], args := [d1, d2, d3] }
  | _ => none }
def drainsDueRow : OpenClaim := { program := "ythobihlnjcphaaa", sum := "5d2725f81fcf1f0115cd1b1ce3d478e9865f31e4b52648d0921725bea0bb5968", func := "hostler/hostlerlaw13.DrainsDue", spec := "drainsDue", apart := false }
def DrainsDueSaid : Prop := drainsDueRow.holds Try.pinned (OpenSpec.ofChange drainsDueSpec)

/-- ITS FALSE NEIGHBOUR: 'it returns false'. Refute it at one input. -/
def drainsDueWrong : ChangeSpec := { name := "drainsDue", fn := fun _ => fun
  | [d1, d2, d3] => { results := [.lit (.bool false)], args := [d1, d2, d3] }
  | _ => none }
def DrainsDueWrongFalsely : Prop := drainsDueRow.holds Try.pinned (OpenSpec.ofChange drainsDueWrong)

/- THE SECOND FORM. 'bulk': how many values and letters a reading holds, each counted each time it is reached (what is shared counts as often as it is met; a slice's spare places count too). A statement '..UptoSaid' is the law's where the arguments, and the package variables that the reading takes, are together of bulk at most 1048576: NARROWER than '..Said'. Prove '..Said' where nothing that the law and all that it calls make is longer than what came in: it says more and counts as full. Else prove '..UptoSaid'. A law counts once. -/
mutual
def uptoBulk {H : Type} : DataW H → Nat
  | .lit (.string bytes) => bytes.length + 1
  | .lit _ => 1
  | .nil => 1
  | .ptr d => uptoBulk d + 1
  | .slice elems spare => uptoBulkAll elems + uptoBulkAll spare + 1
  | .agg parts => uptoBulkAll parts + 1
  | .iface _ d => uptoBulk d + 1
  | .map entries => uptoBulkEntries entries + 1
  | .held _ => 1
def uptoBulkAll {H : Type} : List (DataW H) → Nat
  | [] => 0
  | d :: r => uptoBulk d + uptoBulkAll r
def uptoBulkEntries {H : Type} : List (Lit × DataW H) → Nat
  | [] => 0
  | x :: r => uptoBulkEntry x + uptoBulkEntries r
def uptoBulkEntry {H : Type} : Lit × DataW H → Nat
  | (.string bytes, d) => bytes.length + uptoBulk d + 1
  | (_, d) => uptoBulk d + 1
 end
def uptoSmall : (H : Type) → List (DataW H) → Bool := fun _ ds => decide (uptoBulkAll ds ≤ 1048576)
def OpenSpec.upto (s : _root_.Go.ChangeSpec) : _root_.Go.OpenSpec := { _root_.Go.OpenSpec.ofChange s with cond := some uptoSmall }

/-- 'hostlerlaw13.DrainsPlays', WHERE WHAT IT READS IS OF BULK AT MOST 1048576: true; the input reads as it did. -/
def drainsPlaysUptoRow : OpenClaim := { program := "ythobihlnjcphaaa", sum := "5d2725f81fcf1f0115cd1b1ce3d478e9865f31e4b52648d0921725bea0bb5968", func := "hostler/hostlerlaw13.DrainsPlays", spec := "drainsPlays", unfollowed := true, recurses := true, apart := false, narrowed := true }
def DrainsPlaysUptoSaid : Prop := drainsPlaysUptoRow.holds Try.pinned (OpenSpec.upto drainsPlaysSpec)

/-- 'hostlerlaw13.DrainsRow', WHERE WHAT IT READS IS OF BULK AT MOST 1048576: true; the input reads as it did. -/
def drainsRowUptoRow : OpenClaim := { program := "ythobihlnjcphaaa", sum := "5d2725f81fcf1f0115cd1b1ce3d478e9865f31e4b52648d0921725bea0bb5968", func := "hostler/hostlerlaw13.DrainsRow", spec := "drainsRow", unfollowed := true, recurses := true, apart := false, narrowed := true }
def DrainsRowUptoSaid : Prop := drainsRowUptoRow.holds Try.pinned (OpenSpec.upto drainsRowSpec)

/-- 'hostlerlaw13.DrainsOnce', WHERE WHAT IT READS IS OF BULK AT MOST 1048576: true; the input reads as it did. -/
def drainsOnceUptoRow : OpenClaim := { program := "ythobihlnjcphaaa", sum := "5d2725f81fcf1f0115cd1b1ce3d478e9865f31e4b52648d0921725bea0bb5968", func := "hostler/hostlerlaw13.DrainsOnce", spec := "drainsOnce", apart := false, narrowed := true }
def DrainsOnceUptoSaid : Prop := drainsOnceUptoRow.holds Try.pinned (OpenSpec.upto drainsOnceSpec)

/-- 'hostlerlaw13.DrainsNil', WHERE WHAT IT READS IS OF BULK AT MOST 1048576: true; the input reads as it did. -/
def drainsNilUptoRow : OpenClaim := { program := "ythobihlnjcphaaa", sum := "5d2725f81fcf1f0115cd1b1ce3d478e9865f31e4b52648d0921725bea0bb5968", func := "hostler/hostlerlaw13.DrainsNil", spec := "drainsNil", unfollowed := true, recurses := true, apart := false, narrowed := true }
def DrainsNilUptoSaid : Prop := drainsNilUptoRow.holds Try.pinned (OpenSpec.upto drainsNilSpec)

/-- 'hostlerlaw13.DrainsDue', WHERE WHAT IT READS IS OF BULK AT MOST 1048576: true; the input reads as it did. -/
def drainsDueUptoRow : OpenClaim := { program := "ythobihlnjcphaaa", sum := "5d2725f81fcf1f0115cd1b1ce3d478e9865f31e4b52648d0921725bea0bb5968", func := "hostler/hostlerlaw13.DrainsDue", spec := "drainsDue", apart := false, narrowed := true }
def DrainsDueUptoSaid : Prop := drainsDueUptoRow.holds Try.pinned (OpenSpec.upto drainsDueSpec)

end Rows
end Go.Proofs.Ythobihlnjcphaaa
