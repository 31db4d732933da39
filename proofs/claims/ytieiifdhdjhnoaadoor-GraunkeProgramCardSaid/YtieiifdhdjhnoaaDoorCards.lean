/-
  DERIVED. GIVEN WITH THE SEED: THE CARDS: each row of YtieiifdhdjhnoaaDoorRows.lean that lists a variable, with what it lists TIED to the program's text (the seventh form; the later family's looks); each row that meets fmt, with fmt's text TOLD by the authors' own Lean function (tested against real Go, not proved from fmt's source: count such statements apart). THE CARD IS WHAT COUNTS. Prove the row's statement (the work); the ties are given (YtieiifdhdjhnoaaDoorTie.lean); close each card by the builder's one call (the guide's Derived/Test/ToyasCard.lean, 'card_holds'). Laid BY PROGRAM, IN A SANDBOX (cutbox-door.mjs). By AI agents, Wed Nov 11 2026. No macro, syntax, notation, axiom, sorry.
-/
import Derived.Test.YtieiifdhdjhnoaaDoorRows
import GoSem.ClaimSeven
namespace Go.Proofs.YtieiifdhdjhnoaaDoor
namespace Rows

/-- THE TIED CARD OF 'ropelinelaw16.GraunkeProgram'. -/
def graunkeProgramCard : Claim7 := { stood := { row := graunkeProgramRow, standIns := [], harness := (true, "99cdf0ba7d9bb756c219204277552c88c2ccefe1ac67703ffab560e8a8dbb5fa"), looks := true }, kinds := [], alts := [], laidByText := true, laidKinds := [.data, .data, .data, .data, .sentinel, .sentinel, .pinned], laidTests := true, laidLooks := .later }
def GraunkeProgramCardSaid : Prop := Claim7.holds Tryd.pinned (.plain (OpenSpec.ofChange graunkeProgramSpec)) graunkeProgramCard

/-- THE SECOND FORM's CARD OF 'ropelinelaw16.GraunkeProgram'. -/
def graunkeProgramUptoCard : Claim7 := { stood := { row := graunkeProgramUptoRow, standIns := [], harness := (true, "99cdf0ba7d9bb756c219204277552c88c2ccefe1ac67703ffab560e8a8dbb5fa"), looks := true }, kinds := [], alts := [], laidByText := true, laidKinds := [.data, .data, .data, .data, .sentinel, .sentinel, .pinned], laidTests := true, laidLooks := .later }
def GraunkeProgramUptoCardSaid : Prop := Claim7.holds Tryd.pinned (.plain (OpenSpec.upto graunkeProgramSpec)) graunkeProgramUptoCard
end Rows
end Go.Proofs.YtieiifdhdjhnoaaDoor
