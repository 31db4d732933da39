/-
  DERIVED. GIVEN WITH THE SEED: THE CARDS: each row of YtieiifdhdjhnoaaGreatDoorRows.lean that lists a variable, with what it lists TIED to the program's text (the seventh form; the later family's looks); each row that meets fmt, with fmt's text TOLD by the authors' own Lean function (tested against real Go, not proved from fmt's source: count such statements apart). THE CARD IS WHAT COUNTS. Prove the row's statement (the work); the ties are given (YtieiifdhdjhnoaaGreatDoorTie.lean); close each card by the builder's one call (the guide's Derived/Test/ToyasCard.lean, 'card_holds'). Laid BY PROGRAM, IN A SANDBOX (cutbox-door.mjs). By AI agents, Wed Nov 11 2026. No macro, syntax, notation, axiom, sorry.
-/
import Derived.Test.YtieiifdhdjhnoaaGreatDoorRows
import GoSem.ClaimSeven
namespace Go.Proofs.YtieiifdhdjhnoaaGreatDoor
namespace Rows

/-- THE TIED CARD OF 'ropelinelaw16.GraunkeSpec'. -/
def graunkeSpecCard : Claim7 := { stood := { row := graunkeSpecRow, standIns := [], harness := (true, "43557374b2e0baec6f1af5200aa634f9c0f79f24ad66cd72b01a2f786278eb24"), looks := true }, kinds := [], alts := [], laidByText := true, laidKinds := [.data, .data, .data, .data, .sentinel, .sentinel, .pinned], laidTests := true, laidLooks := .later }
def GraunkeSpecCardSaid : Prop := Claim7.holds Tryz.pinned (.plain (OpenSpec.ofChange graunkeSpecSpec)) graunkeSpecCard

/-- THE TIED CARD OF 'ropelinelaw16.GraunkePlays'. -/
def graunkePlaysCard : Claim7 := { stood := { row := graunkePlaysRow, standIns := [], harness := (true, "43557374b2e0baec6f1af5200aa634f9c0f79f24ad66cd72b01a2f786278eb24"), looks := true }, kinds := [], alts := [], laidByText := true, laidKinds := [.data, .data, .data, .data, .sentinel, .sentinel, .pinned], laidTests := true, laidLooks := .later }
def GraunkePlaysCardSaid : Prop := Claim7.holds Tryz.pinned (.plain (OpenSpec.ofChange graunkePlaysSpec)) graunkePlaysCard

/-- THE TIED CARD OF 'ropelinelaw16.GraunkeTurns'. -/
def graunkeTurnsCard : Claim7 := { stood := { row := graunkeTurnsRow, standIns := [], harness := (true, "43557374b2e0baec6f1af5200aa634f9c0f79f24ad66cd72b01a2f786278eb24"), looks := true }, kinds := [], alts := [], laidByText := true, laidKinds := [.data, .data, .data, .data, .sentinel, .sentinel, .pinned], laidTests := true, laidLooks := .later }
def GraunkeTurnsCardSaid : Prop := Claim7.holds Tryz.pinned (.plain (OpenSpec.ofChange graunkeTurnsSpec)) graunkeTurnsCard

/-- THE TIED CARD OF 'ropelinelaw16.GraunkeRests'. -/
def graunkeRestsCard : Claim7 := { stood := { row := graunkeRestsRow, standIns := [], harness := (true, "43557374b2e0baec6f1af5200aa634f9c0f79f24ad66cd72b01a2f786278eb24"), looks := true }, kinds := [], alts := [], laidByText := true, laidKinds := [.data, .data, .data, .data, .sentinel, .sentinel, .pinned], laidTests := true, laidLooks := .later }
def GraunkeRestsCardSaid : Prop := Claim7.holds Tryz.pinned (.plain (OpenSpec.ofChange graunkeRestsSpec)) graunkeRestsCard

/-- THE TIED CARD OF 'ropelinelaw16.GraunkeRuns'. -/
def graunkeRunsCard : Claim7 := { stood := { row := graunkeRunsRow, standIns := [], harness := (true, "43557374b2e0baec6f1af5200aa634f9c0f79f24ad66cd72b01a2f786278eb24"), looks := true }, kinds := [], alts := [], laidByText := true, laidKinds := [.data, .data, .data, .data, .sentinel, .sentinel, .pinned], laidTests := true, laidLooks := .later }
def GraunkeRunsCardSaid : Prop := Claim7.holds Tryz.pinned (.plain (OpenSpec.ofChange graunkeRunsSpec)) graunkeRunsCard

/-- THE SECOND FORM's CARD OF 'ropelinelaw16.GraunkeSpec'. -/
def graunkeSpecUptoCard : Claim7 := { stood := { row := graunkeSpecUptoRow, standIns := [], harness := (true, "43557374b2e0baec6f1af5200aa634f9c0f79f24ad66cd72b01a2f786278eb24"), looks := true }, kinds := [], alts := [], laidByText := true, laidKinds := [.data, .data, .data, .data, .sentinel, .sentinel, .pinned], laidTests := true, laidLooks := .later }
def GraunkeSpecUptoCardSaid : Prop := Claim7.holds Tryz.pinned (.plain (OpenSpec.upto graunkeSpecSpec)) graunkeSpecUptoCard

/-- THE SECOND FORM's CARD OF 'ropelinelaw16.GraunkePlays'. -/
def graunkePlaysUptoCard : Claim7 := { stood := { row := graunkePlaysUptoRow, standIns := [], harness := (true, "43557374b2e0baec6f1af5200aa634f9c0f79f24ad66cd72b01a2f786278eb24"), looks := true }, kinds := [], alts := [], laidByText := true, laidKinds := [.data, .data, .data, .data, .sentinel, .sentinel, .pinned], laidTests := true, laidLooks := .later }
def GraunkePlaysUptoCardSaid : Prop := Claim7.holds Tryz.pinned (.plain (OpenSpec.upto graunkePlaysSpec)) graunkePlaysUptoCard

/-- THE SECOND FORM's CARD OF 'ropelinelaw16.GraunkeTurns'. -/
def graunkeTurnsUptoCard : Claim7 := { stood := { row := graunkeTurnsUptoRow, standIns := [], harness := (true, "43557374b2e0baec6f1af5200aa634f9c0f79f24ad66cd72b01a2f786278eb24"), looks := true }, kinds := [], alts := [], laidByText := true, laidKinds := [.data, .data, .data, .data, .sentinel, .sentinel, .pinned], laidTests := true, laidLooks := .later }
def GraunkeTurnsUptoCardSaid : Prop := Claim7.holds Tryz.pinned (.plain (OpenSpec.upto graunkeTurnsSpec)) graunkeTurnsUptoCard

/-- THE SECOND FORM's CARD OF 'ropelinelaw16.GraunkeRests'. -/
def graunkeRestsUptoCard : Claim7 := { stood := { row := graunkeRestsUptoRow, standIns := [], harness := (true, "43557374b2e0baec6f1af5200aa634f9c0f79f24ad66cd72b01a2f786278eb24"), looks := true }, kinds := [], alts := [], laidByText := true, laidKinds := [.data, .data, .data, .data, .sentinel, .sentinel, .pinned], laidTests := true, laidLooks := .later }
def GraunkeRestsUptoCardSaid : Prop := Claim7.holds Tryz.pinned (.plain (OpenSpec.upto graunkeRestsSpec)) graunkeRestsUptoCard

/-- THE SECOND FORM's CARD OF 'ropelinelaw16.GraunkeRuns'. -/
def graunkeRunsUptoCard : Claim7 := { stood := { row := graunkeRunsUptoRow, standIns := [], harness := (true, "43557374b2e0baec6f1af5200aa634f9c0f79f24ad66cd72b01a2f786278eb24"), looks := true }, kinds := [], alts := [], laidByText := true, laidKinds := [.data, .data, .data, .data, .sentinel, .sentinel, .pinned], laidTests := true, laidLooks := .later }
def GraunkeRunsUptoCardSaid : Prop := Claim7.holds Tryz.pinned (.plain (OpenSpec.upto graunkeRunsSpec)) graunkeRunsUptoCard
end Rows
end Go.Proofs.YtieiifdhdjhnoaaGreatDoor
