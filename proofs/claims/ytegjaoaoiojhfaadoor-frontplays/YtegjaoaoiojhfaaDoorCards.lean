/-
  DERIVED. GIVEN WITH THE SEED: THE CARDS: each row of YtegjaoaoiojhfaaDoorRows.lean that lists a variable, with what it lists TIED to the program's text (the seventh form; the later family's looks); each row that meets fmt, with fmt's text TOLD by the authors' own Lean function (tested against real Go, not proved from fmt's source: count such statements apart). THE CARD IS WHAT COUNTS. Prove the row's statement (the work); the ties are given (YtegjaoaoiojhfaaDoorTie.lean); close each card by the builder's one call (the guide's Derived/Test/ToyasCard.lean, 'card_holds'). Laid BY PROGRAM, IN A SANDBOX (cutbox-door.mjs). By AI agents, Wed Nov 11 2026. No macro, syntax, notation, axiom, sorry.
-/
import Derived.Test.YtegjaoaoiojhfaaDoorRows
import GoSem.ClaimSeven
namespace Go.Proofs.YtegjaoaoiojhfaaDoor
namespace Rows

/-- THE TIED CARD OF 'hostlerlaw15.FrontPlays'. -/
def frontPlaysCard : Claim7 := { stood := { row := frontPlaysRow, standIns := [], harness := (true, "1a82ec2fa3f3919afd481c527be76d0c488e5da24ba867f63416687eaa48780a"), looks := false }, kinds := [], alts := [], laidByText := true, laidKinds := [.data, .data], laidTests := true, laidLooks := .later }
def FrontPlaysCardSaid : Prop := Claim7.holds Tryd.pinned (.plain (OpenSpec.ofChange frontPlaysSpec)) frontPlaysCard

/-- THE TIED CARD OF 'hostlerlaw15.FrontOn'. -/
def frontOnCard : Claim7 := { stood := { row := frontOnRow, standIns := [], harness := (true, "1a82ec2fa3f3919afd481c527be76d0c488e5da24ba867f63416687eaa48780a"), looks := false }, kinds := [], alts := [], laidByText := true, laidKinds := [.data, .data, .data], laidTests := true, laidLooks := .later }
def FrontOnCardSaid : Prop := Claim7.holds Tryd.pinned (.plain (OpenSpec.ofChange frontOnSpec)) frontOnCard

/-- THE TIED CARD OF 'hostlerlaw15.FrontPasses'. -/
def frontPassesCard : Claim7 := { stood := { row := frontPassesRow, standIns := [], harness := (true, "1a82ec2fa3f3919afd481c527be76d0c488e5da24ba867f63416687eaa48780a"), looks := false }, kinds := [], alts := [], laidByText := true, laidKinds := [.data, .data], laidTests := true, laidLooks := .later }
def FrontPassesCardSaid : Prop := Claim7.holds Tryd.pinned (.plain (OpenSpec.ofChange frontPassesSpec)) frontPassesCard

/-- THE TIED CARD OF 'hostlerlaw15.FrontHeld'. -/
def frontHeldCard : Claim7 := { stood := { row := frontHeldRow, standIns := [], harness := (true, "1a82ec2fa3f3919afd481c527be76d0c488e5da24ba867f63416687eaa48780a"), looks := false }, kinds := [], alts := [], laidByText := true, laidKinds := [.data, .data], laidTests := true, laidLooks := .later }
def FrontHeldCardSaid : Prop := Claim7.holds Tryd.pinned (.plain (OpenSpec.ofChange frontHeldSpec)) frontHeldCard

/-- THE TIED CARD OF 'hostlerlaw15.FrontNil'. -/
def frontNilCard : Claim7 := { stood := { row := frontNilRow, standIns := [], harness := (true, "1a82ec2fa3f3919afd481c527be76d0c488e5da24ba867f63416687eaa48780a"), looks := false }, kinds := [], alts := [], laidByText := true, laidKinds := [.data, .data], laidTests := true, laidLooks := .later }
def FrontNilCardSaid : Prop := Claim7.holds Tryd.pinned (.plain (OpenSpec.ofChange frontNilSpec)) frontNilCard

/-- THE TIED CARD OF 'hostlerlaw15.FrontRounds'. -/
def frontRoundsCard : Claim7 := { stood := { row := frontRoundsRow, standIns := [], harness := (true, "1a82ec2fa3f3919afd481c527be76d0c488e5da24ba867f63416687eaa48780a"), looks := false }, kinds := [], alts := [], laidByText := true, laidKinds := [.data, .data], laidTests := true, laidLooks := .later }
def FrontRoundsCardSaid : Prop := Claim7.holds Tryd.pinned (.plain (OpenSpec.ofChange frontRoundsSpec)) frontRoundsCard

/-- THE SECOND FORM's CARD OF 'hostlerlaw15.FrontPlays'. -/
def frontPlaysUptoCard : Claim7 := { stood := { row := frontPlaysUptoRow, standIns := [], harness := (true, "1a82ec2fa3f3919afd481c527be76d0c488e5da24ba867f63416687eaa48780a"), looks := false }, kinds := [], alts := [], laidByText := true, laidKinds := [.data, .data], laidTests := true, laidLooks := .later }
def FrontPlaysUptoCardSaid : Prop := Claim7.holds Tryd.pinned (.plain (OpenSpec.upto frontPlaysSpec)) frontPlaysUptoCard

/-- THE SECOND FORM's CARD OF 'hostlerlaw15.FrontOn'. -/
def frontOnUptoCard : Claim7 := { stood := { row := frontOnUptoRow, standIns := [], harness := (true, "1a82ec2fa3f3919afd481c527be76d0c488e5da24ba867f63416687eaa48780a"), looks := false }, kinds := [], alts := [], laidByText := true, laidKinds := [.data, .data, .data], laidTests := true, laidLooks := .later }
def FrontOnUptoCardSaid : Prop := Claim7.holds Tryd.pinned (.plain (OpenSpec.upto frontOnSpec)) frontOnUptoCard

/-- THE SECOND FORM's CARD OF 'hostlerlaw15.FrontPasses'. -/
def frontPassesUptoCard : Claim7 := { stood := { row := frontPassesUptoRow, standIns := [], harness := (true, "1a82ec2fa3f3919afd481c527be76d0c488e5da24ba867f63416687eaa48780a"), looks := false }, kinds := [], alts := [], laidByText := true, laidKinds := [.data, .data], laidTests := true, laidLooks := .later }
def FrontPassesUptoCardSaid : Prop := Claim7.holds Tryd.pinned (.plain (OpenSpec.upto frontPassesSpec)) frontPassesUptoCard

/-- THE SECOND FORM's CARD OF 'hostlerlaw15.FrontHeld'. -/
def frontHeldUptoCard : Claim7 := { stood := { row := frontHeldUptoRow, standIns := [], harness := (true, "1a82ec2fa3f3919afd481c527be76d0c488e5da24ba867f63416687eaa48780a"), looks := false }, kinds := [], alts := [], laidByText := true, laidKinds := [.data, .data], laidTests := true, laidLooks := .later }
def FrontHeldUptoCardSaid : Prop := Claim7.holds Tryd.pinned (.plain (OpenSpec.upto frontHeldSpec)) frontHeldUptoCard

/-- THE SECOND FORM's CARD OF 'hostlerlaw15.FrontNil'. -/
def frontNilUptoCard : Claim7 := { stood := { row := frontNilUptoRow, standIns := [], harness := (true, "1a82ec2fa3f3919afd481c527be76d0c488e5da24ba867f63416687eaa48780a"), looks := false }, kinds := [], alts := [], laidByText := true, laidKinds := [.data, .data], laidTests := true, laidLooks := .later }
def FrontNilUptoCardSaid : Prop := Claim7.holds Tryd.pinned (.plain (OpenSpec.upto frontNilSpec)) frontNilUptoCard

/-- THE SECOND FORM's CARD OF 'hostlerlaw15.FrontRounds'. -/
def frontRoundsUptoCard : Claim7 := { stood := { row := frontRoundsUptoRow, standIns := [], harness := (true, "1a82ec2fa3f3919afd481c527be76d0c488e5da24ba867f63416687eaa48780a"), looks := false }, kinds := [], alts := [], laidByText := true, laidKinds := [.data, .data], laidTests := true, laidLooks := .later }
def FrontRoundsUptoCardSaid : Prop := Claim7.holds Tryd.pinned (.plain (OpenSpec.upto frontRoundsSpec)) frontRoundsUptoCard
end Rows
end Go.Proofs.YtegjaoaoiojhfaaDoor
