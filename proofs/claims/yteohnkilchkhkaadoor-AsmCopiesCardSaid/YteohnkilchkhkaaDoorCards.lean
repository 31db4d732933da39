/-
  DERIVED. GIVEN WITH THE SEED: THE CARDS: each row of YteohnkilchkhkaaDoorRows.lean that lists a variable, with what it lists TIED to the program's text (the seventh form; the later family's looks); each row that meets fmt, with fmt's text TOLD by the authors' own Lean function (tested against real Go, not proved from fmt's source: count such statements apart). THE CARD IS WHAT COUNTS. Prove the row's statement (the work); the ties are given (YteohnkilchkhkaaDoorTie.lean); close each card by the builder's one call (the guide's Derived/Test/ToyasCard.lean, 'card_holds'). Laid BY PROGRAM, IN A SANDBOX (cutbox-door.mjs). By AI agents, Wed Nov 11 2026. No macro, syntax, notation, axiom, sorry.
-/
import Derived.Test.YteohnkilchkhkaaDoorRows
import GoSem.ClaimSeven
namespace Go.Proofs.YteohnkilchkhkaaDoor
namespace Rows

/-- THE TIED CARD OF 'ropelinelaw07.AsmCopies'. -/
def asmCopiesCard : Claim7 := { stood := { row := asmCopiesRow, standIns := [], harness := (true, "d31e6d8e69765366a281f56a6e8357cb1057f23e31dca43318262b6b2a287d65"), looks := true }, kinds := [], alts := [], laidByText := true, laidKinds := [.data, .data, .data, .data, .sentinel, .sentinel, .pinned], laidTests := true, laidLooks := .later }
def AsmCopiesCardSaid : Prop := Claim7.holds Tryd.pinned (.plain (OpenSpec.ofChange asmCopiesSpec)) asmCopiesCard

/-- THE TIED CARD OF 'ropelinelaw07.AsmBig'. -/
def asmBigCard : Claim7 := { stood := { row := asmBigRow, standIns := [], harness := (true, "d31e6d8e69765366a281f56a6e8357cb1057f23e31dca43318262b6b2a287d65"), looks := true }, kinds := [], alts := [], laidByText := true, laidKinds := [.data, .data, .data, .data, .sentinel, .sentinel, .pinned], laidTests := true, laidLooks := .later }
def AsmBigCardSaid : Prop := Claim7.holds Tryd.pinned (.plain (OpenSpec.ofChange asmBigSpec)) asmBigCard

/-- THE SECOND FORM's CARD OF 'ropelinelaw07.AsmCopies'. -/
def asmCopiesUptoCard : Claim7 := { stood := { row := asmCopiesUptoRow, standIns := [], harness := (true, "d31e6d8e69765366a281f56a6e8357cb1057f23e31dca43318262b6b2a287d65"), looks := true }, kinds := [], alts := [], laidByText := true, laidKinds := [.data, .data, .data, .data, .sentinel, .sentinel, .pinned], laidTests := true, laidLooks := .later }
def AsmCopiesUptoCardSaid : Prop := Claim7.holds Tryd.pinned (.plain (OpenSpec.upto asmCopiesSpec)) asmCopiesUptoCard

/-- THE SECOND FORM's CARD OF 'ropelinelaw07.AsmBig'. -/
def asmBigUptoCard : Claim7 := { stood := { row := asmBigUptoRow, standIns := [], harness := (true, "d31e6d8e69765366a281f56a6e8357cb1057f23e31dca43318262b6b2a287d65"), looks := true }, kinds := [], alts := [], laidByText := true, laidKinds := [.data, .data, .data, .data, .sentinel, .sentinel, .pinned], laidTests := true, laidLooks := .later }
def AsmBigUptoCardSaid : Prop := Claim7.holds Tryd.pinned (.plain (OpenSpec.upto asmBigSpec)) asmBigUptoCard
end Rows
end Go.Proofs.YteohnkilchkhkaaDoor
