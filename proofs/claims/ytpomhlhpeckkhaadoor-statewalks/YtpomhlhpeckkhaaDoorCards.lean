/-
  DERIVED. GIVEN WITH THE SEED: THE CARDS: each row of YtpomhlhpeckkhaaDoorRows.lean that lists a variable, with what it lists TIED to the program's text (the seventh form; the later family's looks); each row that meets fmt, with fmt's text TOLD by the authors' own Lean function (tested against real Go, not proved from fmt's source: count such statements apart). THE CARD IS WHAT COUNTS. Prove the row's statement (the work); the ties are given (YtpomhlhpeckkhaaDoorTie.lean); close each card by the builder's one call (the guide's Derived/Test/ToyasCard.lean, 'card_holds'). Laid BY PROGRAM, IN A SANDBOX (cutbox-door.mjs). By AI agents, Wed Nov 11 2026. No macro, syntax, notation, axiom, sorry.
-/
import Derived.Test.YtpomhlhpeckkhaaDoorRows
import GoSem.ClaimSeven
namespace Go.Proofs.YtpomhlhpeckkhaaDoor
namespace Rows

/-- THE TIED CARD OF 'hostlerlaw10.StateNext'. -/
def stateNextCard : Claim7 := { stood := { row := stateNextRow, standIns := [], harness := (true, "883f970175d6b9c5c12968b359582820b51bfb049282db73477d73e29b3e3b78"), looks := false }, kinds := [], alts := [], laidByText := true, laidKinds := [.data, .data, .data], laidTests := true, laidLooks := .later }
def StateNextCardSaid : Prop := Claim7.holds Tryd.pinned (.plain (OpenSpec.ofChange stateNextSpec)) stateNextCard

/-- THE TIED CARD OF 'hostlerlaw10.StateNames'. -/
def stateNamesCard : Claim7 := { stood := { row := stateNamesRow, standIns := [], harness := (true, "883f970175d6b9c5c12968b359582820b51bfb049282db73477d73e29b3e3b78"), looks := false }, kinds := [], alts := [], laidByText := true, laidKinds := [.data, .data], laidTests := true, laidLooks := .later }
def StateNamesCardSaid : Prop := Claim7.holds Tryd.pinned (.plain (OpenSpec.ofChange stateNamesSpec)) stateNamesCard

/-- THE TIED CARD OF 'hostlerlaw10.StateWays'. -/
def stateWaysCard : Claim7 := { stood := { row := stateWaysRow, standIns := [], harness := (true, "883f970175d6b9c5c12968b359582820b51bfb049282db73477d73e29b3e3b78"), looks := false }, kinds := [], alts := [], laidByText := true, laidKinds := [.data, .data], laidTests := true, laidLooks := .later }
def StateWaysCardSaid : Prop := Claim7.holds Tryd.pinned (.plain (OpenSpec.ofChange stateWaysSpec)) stateWaysCard

/-- THE TIED CARD OF 'hostlerlaw10.StateRetired'. -/
def stateRetiredCard : Claim7 := { stood := { row := stateRetiredRow, standIns := [], harness := (true, "883f970175d6b9c5c12968b359582820b51bfb049282db73477d73e29b3e3b78"), looks := false }, kinds := [], alts := [], laidByText := true, laidKinds := [.data, .data], laidTests := true, laidLooks := .later }
def StateRetiredCardSaid : Prop := Claim7.holds Tryd.pinned (.plain (OpenSpec.ofChange stateRetiredSpec)) stateRetiredCard

/-- THE TIED CARD OF 'hostlerlaw10.StateWalks'. -/
def stateWalksCard : Claim7 := { stood := { row := stateWalksRow, standIns := [], harness := (true, "883f970175d6b9c5c12968b359582820b51bfb049282db73477d73e29b3e3b78"), looks := false }, kinds := [], alts := [], laidByText := true, laidKinds := [.data, .data], laidTests := true, laidLooks := .later }
def StateWalksCardSaid : Prop := Claim7.holds Tryd.pinned (.plain (OpenSpec.ofChange stateWalksSpec)) stateWalksCard

/-- THE SECOND FORM's CARD OF 'hostlerlaw10.StateNext'. -/
def stateNextUptoCard : Claim7 := { stood := { row := stateNextUptoRow, standIns := [], harness := (true, "883f970175d6b9c5c12968b359582820b51bfb049282db73477d73e29b3e3b78"), looks := false }, kinds := [], alts := [], laidByText := true, laidKinds := [.data, .data, .data], laidTests := true, laidLooks := .later }
def StateNextUptoCardSaid : Prop := Claim7.holds Tryd.pinned (.plain (OpenSpec.upto stateNextSpec)) stateNextUptoCard

/-- THE SECOND FORM's CARD OF 'hostlerlaw10.StateNames'. -/
def stateNamesUptoCard : Claim7 := { stood := { row := stateNamesUptoRow, standIns := [], harness := (true, "883f970175d6b9c5c12968b359582820b51bfb049282db73477d73e29b3e3b78"), looks := false }, kinds := [], alts := [], laidByText := true, laidKinds := [.data, .data], laidTests := true, laidLooks := .later }
def StateNamesUptoCardSaid : Prop := Claim7.holds Tryd.pinned (.plain (OpenSpec.upto stateNamesSpec)) stateNamesUptoCard

/-- THE SECOND FORM's CARD OF 'hostlerlaw10.StateWays'. -/
def stateWaysUptoCard : Claim7 := { stood := { row := stateWaysUptoRow, standIns := [], harness := (true, "883f970175d6b9c5c12968b359582820b51bfb049282db73477d73e29b3e3b78"), looks := false }, kinds := [], alts := [], laidByText := true, laidKinds := [.data, .data], laidTests := true, laidLooks := .later }
def StateWaysUptoCardSaid : Prop := Claim7.holds Tryd.pinned (.plain (OpenSpec.upto stateWaysSpec)) stateWaysUptoCard

/-- THE SECOND FORM's CARD OF 'hostlerlaw10.StateRetired'. -/
def stateRetiredUptoCard : Claim7 := { stood := { row := stateRetiredUptoRow, standIns := [], harness := (true, "883f970175d6b9c5c12968b359582820b51bfb049282db73477d73e29b3e3b78"), looks := false }, kinds := [], alts := [], laidByText := true, laidKinds := [.data, .data], laidTests := true, laidLooks := .later }
def StateRetiredUptoCardSaid : Prop := Claim7.holds Tryd.pinned (.plain (OpenSpec.upto stateRetiredSpec)) stateRetiredUptoCard

/-- THE SECOND FORM's CARD OF 'hostlerlaw10.StateWalks'. -/
def stateWalksUptoCard : Claim7 := { stood := { row := stateWalksUptoRow, standIns := [], harness := (true, "883f970175d6b9c5c12968b359582820b51bfb049282db73477d73e29b3e3b78"), looks := false }, kinds := [], alts := [], laidByText := true, laidKinds := [.data, .data], laidTests := true, laidLooks := .later }
def StateWalksUptoCardSaid : Prop := Claim7.holds Tryd.pinned (.plain (OpenSpec.upto stateWalksSpec)) stateWalksUptoCard
end Rows
end Go.Proofs.YtpomhlhpeckkhaaDoor
