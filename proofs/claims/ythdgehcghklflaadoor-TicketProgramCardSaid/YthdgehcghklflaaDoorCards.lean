/-
  DERIVED. GIVEN WITH THE SEED: THE CARDS: each row of YthdgehcghklflaaDoorRows.lean that lists a variable, with what it lists TIED to the program's text (the seventh form; the later family's looks); each row that meets fmt, with fmt's text TOLD by the authors' own Lean function (tested against real Go, not proved from fmt's source: count such statements apart). THE CARD IS WHAT COUNTS. Prove the row's statement (the work); the ties are given (YthdgehcghklflaaDoorTie.lean); close each card by the builder's one call (the guide's Derived/Test/ToyasCard.lean, 'card_holds'). Laid BY PROGRAM, IN A SANDBOX (cutbox-door.mjs). By AI agents, Wed Nov 11 2026. No macro, syntax, notation, axiom, sorry.
-/
import Derived.Test.YthdgehcghklflaaDoorRows
import GoSem.ClaimSeven
namespace Go.Proofs.YthdgehcghklflaaDoor
namespace Rows

/-- THE TIED CARD OF 'ropelinelaw14.TicketProgram'. -/
def ticketProgramCard : Claim7 := { stood := { row := ticketProgramRow, standIns := [], harness := (true, "8ff0a7e7ffc45faaf16bd59dcc18adc9c7be567d830d888869f68257012887d0"), looks := true }, kinds := [], alts := [], laidByText := true, laidKinds := [.data, .data, .data, .data, .sentinel, .sentinel, .pinned], laidTests := true, laidLooks := .later }
def TicketProgramCardSaid : Prop := Claim7.holds Tryd.pinned (.plain (OpenSpec.ofChange ticketProgramSpec)) ticketProgramCard

/-- THE SECOND FORM's CARD OF 'ropelinelaw14.TicketProgram'. -/
def ticketProgramUptoCard : Claim7 := { stood := { row := ticketProgramUptoRow, standIns := [], harness := (true, "8ff0a7e7ffc45faaf16bd59dcc18adc9c7be567d830d888869f68257012887d0"), looks := true }, kinds := [], alts := [], laidByText := true, laidKinds := [.data, .data, .data, .data, .sentinel, .sentinel, .pinned], laidTests := true, laidLooks := .later }
def TicketProgramUptoCardSaid : Prop := Claim7.holds Tryd.pinned (.plain (OpenSpec.upto ticketProgramSpec)) ticketProgramUptoCard
end Rows
end Go.Proofs.YthdgehcghklflaaDoor
