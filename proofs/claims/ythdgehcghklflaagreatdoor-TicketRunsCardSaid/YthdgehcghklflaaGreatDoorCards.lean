/-
  DERIVED. GIVEN WITH THE SEED: THE CARDS: each row of YthdgehcghklflaaGreatDoorRows.lean that lists a variable, with what it lists TIED to the program's text (the seventh form; the later family's looks); each row that meets fmt, with fmt's text TOLD by the authors' own Lean function (tested against real Go, not proved from fmt's source: count such statements apart). THE CARD IS WHAT COUNTS. Prove the row's statement (the work); the ties are given (YthdgehcghklflaaGreatDoorTie.lean); close each card by the builder's one call (the guide's Derived/Test/ToyasCard.lean, 'card_holds'). Laid BY PROGRAM, IN A SANDBOX (cutbox-door.mjs). By AI agents, Wed Nov 11 2026. No macro, syntax, notation, axiom, sorry.
-/
import Derived.Test.YthdgehcghklflaaGreatDoorRows
import GoSem.ClaimSeven
namespace Go.Proofs.YthdgehcghklflaaGreatDoor
namespace Rows

/-- THE TIED CARD OF 'ropelinelaw14.TicketSpec'. -/
def ticketSpecCard : Claim7 := { stood := { row := ticketSpecRow, standIns := [], harness := (true, "19632e41015ab2ffe697c342071ef860f4c3200451c84f6ba83d106f0289c5b1"), looks := true }, kinds := [], alts := [], laidByText := true, laidKinds := [.data, .data, .data, .data, .sentinel, .sentinel, .pinned], laidTests := true, laidLooks := .later }
def TicketSpecCardSaid : Prop := Claim7.holds Tryz.pinned (.plain (OpenSpec.ofChange ticketSpecSpec)) ticketSpecCard

/-- THE TIED CARD OF 'ropelinelaw14.TicketPlays'. -/
def ticketPlaysCard : Claim7 := { stood := { row := ticketPlaysRow, standIns := [], harness := (true, "19632e41015ab2ffe697c342071ef860f4c3200451c84f6ba83d106f0289c5b1"), looks := true }, kinds := [], alts := [], laidByText := true, laidKinds := [.data, .data, .data, .data, .sentinel, .sentinel, .pinned], laidTests := true, laidLooks := .later }
def TicketPlaysCardSaid : Prop := Claim7.holds Tryz.pinned (.plain (OpenSpec.ofChange ticketPlaysSpec)) ticketPlaysCard

/-- THE TIED CARD OF 'ropelinelaw14.TicketTurns'. -/
def ticketTurnsCard : Claim7 := { stood := { row := ticketTurnsRow, standIns := [], harness := (true, "19632e41015ab2ffe697c342071ef860f4c3200451c84f6ba83d106f0289c5b1"), looks := true }, kinds := [], alts := [], laidByText := true, laidKinds := [.data, .data, .data, .data, .sentinel, .sentinel, .pinned], laidTests := true, laidLooks := .later }
def TicketTurnsCardSaid : Prop := Claim7.holds Tryz.pinned (.plain (OpenSpec.ofChange ticketTurnsSpec)) ticketTurnsCard

/-- THE TIED CARD OF 'ropelinelaw14.TicketRests'. -/
def ticketRestsCard : Claim7 := { stood := { row := ticketRestsRow, standIns := [], harness := (true, "19632e41015ab2ffe697c342071ef860f4c3200451c84f6ba83d106f0289c5b1"), looks := true }, kinds := [], alts := [], laidByText := true, laidKinds := [.data, .data, .data, .data, .sentinel, .sentinel, .pinned], laidTests := true, laidLooks := .later }
def TicketRestsCardSaid : Prop := Claim7.holds Tryz.pinned (.plain (OpenSpec.ofChange ticketRestsSpec)) ticketRestsCard

/-- THE TIED CARD OF 'ropelinelaw14.TicketRuns'. -/
def ticketRunsCard : Claim7 := { stood := { row := ticketRunsRow, standIns := [], harness := (true, "19632e41015ab2ffe697c342071ef860f4c3200451c84f6ba83d106f0289c5b1"), looks := true }, kinds := [], alts := [], laidByText := true, laidKinds := [.data, .data, .data, .data, .sentinel, .sentinel, .pinned], laidTests := true, laidLooks := .later }
def TicketRunsCardSaid : Prop := Claim7.holds Tryz.pinned (.plain (OpenSpec.ofChange ticketRunsSpec)) ticketRunsCard

/-- THE SECOND FORM's CARD OF 'ropelinelaw14.TicketSpec'. -/
def ticketSpecUptoCard : Claim7 := { stood := { row := ticketSpecUptoRow, standIns := [], harness := (true, "19632e41015ab2ffe697c342071ef860f4c3200451c84f6ba83d106f0289c5b1"), looks := true }, kinds := [], alts := [], laidByText := true, laidKinds := [.data, .data, .data, .data, .sentinel, .sentinel, .pinned], laidTests := true, laidLooks := .later }
def TicketSpecUptoCardSaid : Prop := Claim7.holds Tryz.pinned (.plain (OpenSpec.upto ticketSpecSpec)) ticketSpecUptoCard

/-- THE SECOND FORM's CARD OF 'ropelinelaw14.TicketPlays'. -/
def ticketPlaysUptoCard : Claim7 := { stood := { row := ticketPlaysUptoRow, standIns := [], harness := (true, "19632e41015ab2ffe697c342071ef860f4c3200451c84f6ba83d106f0289c5b1"), looks := true }, kinds := [], alts := [], laidByText := true, laidKinds := [.data, .data, .data, .data, .sentinel, .sentinel, .pinned], laidTests := true, laidLooks := .later }
def TicketPlaysUptoCardSaid : Prop := Claim7.holds Tryz.pinned (.plain (OpenSpec.upto ticketPlaysSpec)) ticketPlaysUptoCard

/-- THE SECOND FORM's CARD OF 'ropelinelaw14.TicketTurns'. -/
def ticketTurnsUptoCard : Claim7 := { stood := { row := ticketTurnsUptoRow, standIns := [], harness := (true, "19632e41015ab2ffe697c342071ef860f4c3200451c84f6ba83d106f0289c5b1"), looks := true }, kinds := [], alts := [], laidByText := true, laidKinds := [.data, .data, .data, .data, .sentinel, .sentinel, .pinned], laidTests := true, laidLooks := .later }
def TicketTurnsUptoCardSaid : Prop := Claim7.holds Tryz.pinned (.plain (OpenSpec.upto ticketTurnsSpec)) ticketTurnsUptoCard

/-- THE SECOND FORM's CARD OF 'ropelinelaw14.TicketRests'. -/
def ticketRestsUptoCard : Claim7 := { stood := { row := ticketRestsUptoRow, standIns := [], harness := (true, "19632e41015ab2ffe697c342071ef860f4c3200451c84f6ba83d106f0289c5b1"), looks := true }, kinds := [], alts := [], laidByText := true, laidKinds := [.data, .data, .data, .data, .sentinel, .sentinel, .pinned], laidTests := true, laidLooks := .later }
def TicketRestsUptoCardSaid : Prop := Claim7.holds Tryz.pinned (.plain (OpenSpec.upto ticketRestsSpec)) ticketRestsUptoCard

/-- THE SECOND FORM's CARD OF 'ropelinelaw14.TicketRuns'. -/
def ticketRunsUptoCard : Claim7 := { stood := { row := ticketRunsUptoRow, standIns := [], harness := (true, "19632e41015ab2ffe697c342071ef860f4c3200451c84f6ba83d106f0289c5b1"), looks := true }, kinds := [], alts := [], laidByText := true, laidKinds := [.data, .data, .data, .data, .sentinel, .sentinel, .pinned], laidTests := true, laidLooks := .later }
def TicketRunsUptoCardSaid : Prop := Claim7.holds Tryz.pinned (.plain (OpenSpec.upto ticketRunsSpec)) ticketRunsUptoCard
end Rows
end Go.Proofs.YthdgehcghklflaaGreatDoor
