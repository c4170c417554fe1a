/-
  DERIVED. GIVEN WITH THE SEED: THE CARDS: each row of YtmlkpfkeeifgeaaDoorRows.lean that lists a variable, with what it lists TIED to the program's text (the seventh form; the later family's looks); each row that meets fmt, with fmt's text TOLD by the authors' own Lean function (tested against real Go, not proved from fmt's source: count such statements apart). THE CARD IS WHAT COUNTS. Prove the row's statement (the work); the ties are given (YtmlkpfkeeifgeaaDoorTie.lean); close each card by the builder's one call (the guide's Derived/Test/ToyasCard.lean, 'card_holds'). Laid BY PROGRAM, IN A SANDBOX (cutbox-door.mjs). By AI agents, Wed Nov 11 2026. No macro, syntax, notation, axiom, sorry.
-/
import Derived.Test.YtmlkpfkeeifgeaaDoorRows
import GoSem.ClaimSeven
namespace Go.Proofs.YtmlkpfkeeifgeaaDoor
namespace Rows

/-- THE TIED CARD OF 'hostlerlaw18.FleetPlays'. -/
def fleetPlaysCard : Claim7 := { stood := { row := fleetPlaysRow, standIns := [], harness := (true, "480b0c63bd4a1c36c026f92ee9067b3561119e9cd27cc6b333a817105b6cc81f"), looks := false }, kinds := [], alts := [], laidByText := true, laidKinds := [.data], laidTests := true, laidLooks := .later }
def FleetPlaysCardSaid : Prop := Claim7.holds Tryd.pinned (.plain (OpenSpec.ofChange fleetPlaysSpec)) fleetPlaysCard

/-- THE TIED CARD OF 'hostlerlaw18.FleetGuard'. -/
def fleetGuardCard : Claim7 := { stood := { row := fleetGuardRow, standIns := [], harness := (true, "480b0c63bd4a1c36c026f92ee9067b3561119e9cd27cc6b333a817105b6cc81f"), looks := false }, kinds := [], alts := [], laidByText := true, laidKinds := [.data], laidTests := true, laidLooks := .later }
def FleetGuardCardSaid : Prop := Claim7.holds Tryd.pinned (.plain (OpenSpec.ofChange fleetGuardSpec)) fleetGuardCard

/-- THE TIED CARD OF 'hostlerlaw18.FleetRow'. -/
def fleetRowCard : Claim7 := { stood := { row := fleetRowRow, standIns := [], harness := (true, "480b0c63bd4a1c36c026f92ee9067b3561119e9cd27cc6b333a817105b6cc81f"), looks := false }, kinds := [], alts := [], laidByText := true, laidKinds := [.data], laidTests := true, laidLooks := .later }
def FleetRowCardSaid : Prop := Claim7.holds Tryd.pinned (.plain (OpenSpec.ofChange fleetRowSpec)) fleetRowCard

/-- THE TIED CARD OF 'hostlerlaw18.FleetLeaves'. -/
def fleetLeavesCard : Claim7 := { stood := { row := fleetLeavesRow, standIns := [], harness := (true, "480b0c63bd4a1c36c026f92ee9067b3561119e9cd27cc6b333a817105b6cc81f"), looks := false }, kinds := [], alts := [], laidByText := true, laidKinds := [.data], laidTests := true, laidLooks := .later }
def FleetLeavesCardSaid : Prop := Claim7.holds Tryd.pinned (.plain (OpenSpec.ofChange fleetLeavesSpec)) fleetLeavesCard

/-- THE TIED CARD OF 'hostlerlaw18.FleetForce'. -/
def fleetForceCard : Claim7 := { stood := { row := fleetForceRow, standIns := [], harness := (true, "480b0c63bd4a1c36c026f92ee9067b3561119e9cd27cc6b333a817105b6cc81f"), looks := false }, kinds := [], alts := [], laidByText := true, laidKinds := [.data], laidTests := true, laidLooks := .later }
def FleetForceCardSaid : Prop := Claim7.holds Tryd.pinned (.plain (OpenSpec.ofChange fleetForceSpec)) fleetForceCard

/-- THE TIED CARD OF 'hostlerlaw18.FleetNil'. -/
def fleetNilCard : Claim7 := { stood := { row := fleetNilRow, standIns := [], harness := (true, "480b0c63bd4a1c36c026f92ee9067b3561119e9cd27cc6b333a817105b6cc81f"), looks := false }, kinds := [], alts := [], laidByText := true, laidKinds := [.data], laidTests := true, laidLooks := .later }
def FleetNilCardSaid : Prop := Claim7.holds Tryd.pinned (.plain (OpenSpec.ofChange fleetNilSpec)) fleetNilCard

/-- THE TIED CARD OF 'hostlerlaw18.FleetStays'. -/
def fleetStaysCard : Claim7 := { stood := { row := fleetStaysRow, standIns := [], harness := (true, "480b0c63bd4a1c36c026f92ee9067b3561119e9cd27cc6b333a817105b6cc81f"), looks := false }, kinds := [], alts := [], laidByText := true, laidKinds := [.data], laidTests := true, laidLooks := .later }
def FleetStaysCardSaid : Prop := Claim7.holds Tryd.pinned (.plain (OpenSpec.ofChange fleetStaysSpec)) fleetStaysCard

/-- THE TIED CARD OF 'hostlerlaw18.FleetUndrains'. -/
def fleetUndrainsCard : Claim7 := { stood := { row := fleetUndrainsRow, standIns := [], harness := (true, "480b0c63bd4a1c36c026f92ee9067b3561119e9cd27cc6b333a817105b6cc81f"), looks := false }, kinds := [], alts := [], laidByText := true, laidKinds := [.data], laidTests := true, laidLooks := .later }
def FleetUndrainsCardSaid : Prop := Claim7.holds Tryd.pinned (.plain (OpenSpec.ofChange fleetUndrainsSpec)) fleetUndrainsCard

/-- THE SECOND FORM's CARD OF 'hostlerlaw18.FleetPlays'. -/
def fleetPlaysUptoCard : Claim7 := { stood := { row := fleetPlaysUptoRow, standIns := [], harness := (true, "480b0c63bd4a1c36c026f92ee9067b3561119e9cd27cc6b333a817105b6cc81f"), looks := false }, kinds := [], alts := [], laidByText := true, laidKinds := [.data], laidTests := true, laidLooks := .later }
def FleetPlaysUptoCardSaid : Prop := Claim7.holds Tryd.pinned (.plain (OpenSpec.upto fleetPlaysSpec)) fleetPlaysUptoCard

/-- THE SECOND FORM's CARD OF 'hostlerlaw18.FleetGuard'. -/
def fleetGuardUptoCard : Claim7 := { stood := { row := fleetGuardUptoRow, standIns := [], harness := (true, "480b0c63bd4a1c36c026f92ee9067b3561119e9cd27cc6b333a817105b6cc81f"), looks := false }, kinds := [], alts := [], laidByText := true, laidKinds := [.data], laidTests := true, laidLooks := .later }
def FleetGuardUptoCardSaid : Prop := Claim7.holds Tryd.pinned (.plain (OpenSpec.upto fleetGuardSpec)) fleetGuardUptoCard

/-- THE SECOND FORM's CARD OF 'hostlerlaw18.FleetRow'. -/
def fleetRowUptoCard : Claim7 := { stood := { row := fleetRowUptoRow, standIns := [], harness := (true, "480b0c63bd4a1c36c026f92ee9067b3561119e9cd27cc6b333a817105b6cc81f"), looks := false }, kinds := [], alts := [], laidByText := true, laidKinds := [.data], laidTests := true, laidLooks := .later }
def FleetRowUptoCardSaid : Prop := Claim7.holds Tryd.pinned (.plain (OpenSpec.upto fleetRowSpec)) fleetRowUptoCard

/-- THE SECOND FORM's CARD OF 'hostlerlaw18.FleetLeaves'. -/
def fleetLeavesUptoCard : Claim7 := { stood := { row := fleetLeavesUptoRow, standIns := [], harness := (true, "480b0c63bd4a1c36c026f92ee9067b3561119e9cd27cc6b333a817105b6cc81f"), looks := false }, kinds := [], alts := [], laidByText := true, laidKinds := [.data], laidTests := true, laidLooks := .later }
def FleetLeavesUptoCardSaid : Prop := Claim7.holds Tryd.pinned (.plain (OpenSpec.upto fleetLeavesSpec)) fleetLeavesUptoCard

/-- THE SECOND FORM's CARD OF 'hostlerlaw18.FleetForce'. -/
def fleetForceUptoCard : Claim7 := { stood := { row := fleetForceUptoRow, standIns := [], harness := (true, "480b0c63bd4a1c36c026f92ee9067b3561119e9cd27cc6b333a817105b6cc81f"), looks := false }, kinds := [], alts := [], laidByText := true, laidKinds := [.data], laidTests := true, laidLooks := .later }
def FleetForceUptoCardSaid : Prop := Claim7.holds Tryd.pinned (.plain (OpenSpec.upto fleetForceSpec)) fleetForceUptoCard

/-- THE SECOND FORM's CARD OF 'hostlerlaw18.FleetNil'. -/
def fleetNilUptoCard : Claim7 := { stood := { row := fleetNilUptoRow, standIns := [], harness := (true, "480b0c63bd4a1c36c026f92ee9067b3561119e9cd27cc6b333a817105b6cc81f"), looks := false }, kinds := [], alts := [], laidByText := true, laidKinds := [.data], laidTests := true, laidLooks := .later }
def FleetNilUptoCardSaid : Prop := Claim7.holds Tryd.pinned (.plain (OpenSpec.upto fleetNilSpec)) fleetNilUptoCard

/-- THE SECOND FORM's CARD OF 'hostlerlaw18.FleetStays'. -/
def fleetStaysUptoCard : Claim7 := { stood := { row := fleetStaysUptoRow, standIns := [], harness := (true, "480b0c63bd4a1c36c026f92ee9067b3561119e9cd27cc6b333a817105b6cc81f"), looks := false }, kinds := [], alts := [], laidByText := true, laidKinds := [.data], laidTests := true, laidLooks := .later }
def FleetStaysUptoCardSaid : Prop := Claim7.holds Tryd.pinned (.plain (OpenSpec.upto fleetStaysSpec)) fleetStaysUptoCard

/-- THE SECOND FORM's CARD OF 'hostlerlaw18.FleetUndrains'. -/
def fleetUndrainsUptoCard : Claim7 := { stood := { row := fleetUndrainsUptoRow, standIns := [], harness := (true, "480b0c63bd4a1c36c026f92ee9067b3561119e9cd27cc6b333a817105b6cc81f"), looks := false }, kinds := [], alts := [], laidByText := true, laidKinds := [.data], laidTests := true, laidLooks := .later }
def FleetUndrainsUptoCardSaid : Prop := Claim7.holds Tryd.pinned (.plain (OpenSpec.upto fleetUndrainsSpec)) fleetUndrainsUptoCard
end Rows
end Go.Proofs.YtmlkpfkeeifgeaaDoor
