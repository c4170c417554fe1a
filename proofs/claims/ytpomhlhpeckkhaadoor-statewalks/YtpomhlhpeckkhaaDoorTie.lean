/-
  DERIVED. GIVEN WITH THE SEED: THE PROGRAM's TIES (one call each: nine closed facts by the kernel) AND EACH ROW's TIE, after the 31st guide's Derived/Test/Toyas{Tie, Card}.lean. No idea stands in it: it is a product of the set-up. Laid BY PROGRAM, IN A SANDBOX (cutbox-door.mjs). By AI agents, Wed Nov 11 2026. No macro, syntax, notation, axiom, sorry.
-/
import Derived.Test.YtpomhlhpeckkhaaDoorRows
import Derived.LaidByTextLater
import Derived.SevenTiedAt
import Derived.LaidSub
import Derived.LaidOnce
namespace Go.Proofs.YtpomhlhpeckkhaaDoor
open Go
set_option maxRecDepth 100000
theorem seatTie1 : Tryd.prog.laidByTextLater [("hostler/state.leads", Rows.laid_hostler_state_leads), ("hostler/state.names", Rows.laid_hostler_state_names), ("hostler/state.eventNames", Rows.laid_hostler_state_eventNames)] [.data, .data, .data] true :=
  Program.laidByTextLater_by_one 28 8 29 (by kernel_rfl) (by kernel_rfl) (by kernel_rfl) (by kernel_rfl) (by kernel_rfl) (by kernel_rfl) (fun _ _ => by kernel_rfl)
theorem noOwnUnsafe : Tryd.pinned.checked.prog.headLifts.contains "ownunsafe" = false := by kernel_rfl
theorem tie : Tryd.prog.laidByTextLater [("hostler/state.leads", Rows.laid_hostler_state_leads), ("hostler/state.names", Rows.laid_hostler_state_names), ("hostler/state.eventNames", Rows.laid_hostler_state_eventNames)] [.data, .data, .data] true :=
  Program.laidByTextLater.sub seatTie1 ["hostler/state.leads", "hostler/state.names", "hostler/state.eventNames"] (by kernel_rfl) (by kernel_rfl)
theorem stateNext_row_tie : Rows.stateNextRow.laidByTextAt .later Tryd.pinned [.data, .data, .data] true :=
  OpenClaim.laidByTextAt_later rfl rfl tie noOwnUnsafe
theorem tie2 : Tryd.prog.laidByTextLater [("hostler/state.leads", Rows.laid_hostler_state_leads), ("hostler/state.names", Rows.laid_hostler_state_names)] [.data, .data] true :=
  Program.laidByTextLater.sub seatTie1 ["hostler/state.leads", "hostler/state.names"] (by kernel_rfl) (by kernel_rfl)
theorem stateNames_row_tie : Rows.stateNamesRow.laidByTextAt .later Tryd.pinned [.data, .data] true :=
  OpenClaim.laidByTextAt_later rfl rfl tie2 noOwnUnsafe
theorem stateWays_row_tie : Rows.stateWaysRow.laidByTextAt .later Tryd.pinned [.data, .data] true :=
  OpenClaim.laidByTextAt_later rfl rfl tie2 noOwnUnsafe
theorem stateRetired_row_tie : Rows.stateRetiredRow.laidByTextAt .later Tryd.pinned [.data, .data] true :=
  OpenClaim.laidByTextAt_later rfl rfl tie2 noOwnUnsafe
theorem stateWalks_row_tie : Rows.stateWalksRow.laidByTextAt .later Tryd.pinned [.data, .data] true :=
  OpenClaim.laidByTextAt_later rfl rfl tie2 noOwnUnsafe
theorem stateNextUpto_row_tie : Rows.stateNextUptoRow.laidByTextAt .later Tryd.pinned [.data, .data, .data] true :=
  OpenClaim.laidByTextAt_later rfl rfl tie noOwnUnsafe
theorem stateNamesUpto_row_tie : Rows.stateNamesUptoRow.laidByTextAt .later Tryd.pinned [.data, .data] true :=
  OpenClaim.laidByTextAt_later rfl rfl tie2 noOwnUnsafe
theorem stateWaysUpto_row_tie : Rows.stateWaysUptoRow.laidByTextAt .later Tryd.pinned [.data, .data] true :=
  OpenClaim.laidByTextAt_later rfl rfl tie2 noOwnUnsafe
theorem stateRetiredUpto_row_tie : Rows.stateRetiredUptoRow.laidByTextAt .later Tryd.pinned [.data, .data] true :=
  OpenClaim.laidByTextAt_later rfl rfl tie2 noOwnUnsafe
theorem stateWalksUpto_row_tie : Rows.stateWalksUptoRow.laidByTextAt .later Tryd.pinned [.data, .data] true :=
  OpenClaim.laidByTextAt_later rfl rfl tie2 noOwnUnsafe
end Go.Proofs.YtpomhlhpeckkhaaDoor
