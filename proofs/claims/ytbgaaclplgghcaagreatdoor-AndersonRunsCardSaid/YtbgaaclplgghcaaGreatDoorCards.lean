/-
  DERIVED. GIVEN WITH THE SEED: THE CARDS: each row of YtbgaaclplgghcaaGreatDoorRows.lean that lists a variable, with what it lists TIED to the program's text (the seventh form; the later family's looks); each row that meets fmt, with fmt's text TOLD by the authors' own Lean function (tested against real Go, not proved from fmt's source: count such statements apart). THE CARD IS WHAT COUNTS. Prove the row's statement (the work); the ties are given (YtbgaaclplgghcaaGreatDoorTie.lean); close each card by the builder's one call (the guide's Derived/Test/ToyasCard.lean, 'card_holds'). Laid BY PROGRAM, IN A SANDBOX (cutbox-door.mjs). By AI agents, Wed Nov 11 2026. No macro, syntax, notation, axiom, sorry.
-/
import Derived.Test.YtbgaaclplgghcaaGreatDoorRows
import GoSem.ClaimSeven
namespace Go.Proofs.YtbgaaclplgghcaaGreatDoor
namespace Rows

/-- THE TIED CARD OF 'ropelinelaw15.AndersonSpec'. -/
def andersonSpecCard : Claim7 := { stood := { row := andersonSpecRow, standIns := [], harness := (true, "7a552d58978f56c49fb47745ef7f75003461f269ffdd9ce766fac2ab451781b0"), looks := true }, kinds := [], alts := [], laidByText := true, laidKinds := [.data, .data, .data, .data, .sentinel, .sentinel, .pinned], laidTests := true, laidLooks := .later }
def AndersonSpecCardSaid : Prop := Claim7.holds Tryz.pinned (.plain (OpenSpec.ofChange andersonSpecSpec)) andersonSpecCard

/-- THE TIED CARD OF 'ropelinelaw15.AndersonPlays'. -/
def andersonPlaysCard : Claim7 := { stood := { row := andersonPlaysRow, standIns := [], harness := (true, "7a552d58978f56c49fb47745ef7f75003461f269ffdd9ce766fac2ab451781b0"), looks := true }, kinds := [], alts := [], laidByText := true, laidKinds := [.data, .data, .data, .data, .sentinel, .sentinel, .pinned], laidTests := true, laidLooks := .later }
def AndersonPlaysCardSaid : Prop := Claim7.holds Tryz.pinned (.plain (OpenSpec.ofChange andersonPlaysSpec)) andersonPlaysCard

/-- THE TIED CARD OF 'ropelinelaw15.AndersonTurns'. -/
def andersonTurnsCard : Claim7 := { stood := { row := andersonTurnsRow, standIns := [], harness := (true, "7a552d58978f56c49fb47745ef7f75003461f269ffdd9ce766fac2ab451781b0"), looks := true }, kinds := [], alts := [], laidByText := true, laidKinds := [.data, .data, .data, .data, .sentinel, .sentinel, .pinned], laidTests := true, laidLooks := .later }
def AndersonTurnsCardSaid : Prop := Claim7.holds Tryz.pinned (.plain (OpenSpec.ofChange andersonTurnsSpec)) andersonTurnsCard

/-- THE TIED CARD OF 'ropelinelaw15.AndersonRests'. -/
def andersonRestsCard : Claim7 := { stood := { row := andersonRestsRow, standIns := [], harness := (true, "7a552d58978f56c49fb47745ef7f75003461f269ffdd9ce766fac2ab451781b0"), looks := true }, kinds := [], alts := [], laidByText := true, laidKinds := [.data, .data, .data, .data, .sentinel, .sentinel, .pinned], laidTests := true, laidLooks := .later }
def AndersonRestsCardSaid : Prop := Claim7.holds Tryz.pinned (.plain (OpenSpec.ofChange andersonRestsSpec)) andersonRestsCard

/-- THE TIED CARD OF 'ropelinelaw15.AndersonRuns'. -/
def andersonRunsCard : Claim7 := { stood := { row := andersonRunsRow, standIns := [], harness := (true, "7a552d58978f56c49fb47745ef7f75003461f269ffdd9ce766fac2ab451781b0"), looks := true }, kinds := [], alts := [], laidByText := true, laidKinds := [.data, .data, .data, .data, .sentinel, .sentinel, .pinned], laidTests := true, laidLooks := .later }
def AndersonRunsCardSaid : Prop := Claim7.holds Tryz.pinned (.plain (OpenSpec.ofChange andersonRunsSpec)) andersonRunsCard

/-- THE SECOND FORM's CARD OF 'ropelinelaw15.AndersonSpec'. -/
def andersonSpecUptoCard : Claim7 := { stood := { row := andersonSpecUptoRow, standIns := [], harness := (true, "7a552d58978f56c49fb47745ef7f75003461f269ffdd9ce766fac2ab451781b0"), looks := true }, kinds := [], alts := [], laidByText := true, laidKinds := [.data, .data, .data, .data, .sentinel, .sentinel, .pinned], laidTests := true, laidLooks := .later }
def AndersonSpecUptoCardSaid : Prop := Claim7.holds Tryz.pinned (.plain (OpenSpec.upto andersonSpecSpec)) andersonSpecUptoCard

/-- THE SECOND FORM's CARD OF 'ropelinelaw15.AndersonPlays'. -/
def andersonPlaysUptoCard : Claim7 := { stood := { row := andersonPlaysUptoRow, standIns := [], harness := (true, "7a552d58978f56c49fb47745ef7f75003461f269ffdd9ce766fac2ab451781b0"), looks := true }, kinds := [], alts := [], laidByText := true, laidKinds := [.data, .data, .data, .data, .sentinel, .sentinel, .pinned], laidTests := true, laidLooks := .later }
def AndersonPlaysUptoCardSaid : Prop := Claim7.holds Tryz.pinned (.plain (OpenSpec.upto andersonPlaysSpec)) andersonPlaysUptoCard

/-- THE SECOND FORM's CARD OF 'ropelinelaw15.AndersonTurns'. -/
def andersonTurnsUptoCard : Claim7 := { stood := { row := andersonTurnsUptoRow, standIns := [], harness := (true, "7a552d58978f56c49fb47745ef7f75003461f269ffdd9ce766fac2ab451781b0"), looks := true }, kinds := [], alts := [], laidByText := true, laidKinds := [.data, .data, .data, .data, .sentinel, .sentinel, .pinned], laidTests := true, laidLooks := .later }
def AndersonTurnsUptoCardSaid : Prop := Claim7.holds Tryz.pinned (.plain (OpenSpec.upto andersonTurnsSpec)) andersonTurnsUptoCard

/-- THE SECOND FORM's CARD OF 'ropelinelaw15.AndersonRests'. -/
def andersonRestsUptoCard : Claim7 := { stood := { row := andersonRestsUptoRow, standIns := [], harness := (true, "7a552d58978f56c49fb47745ef7f75003461f269ffdd9ce766fac2ab451781b0"), looks := true }, kinds := [], alts := [], laidByText := true, laidKinds := [.data, .data, .data, .data, .sentinel, .sentinel, .pinned], laidTests := true, laidLooks := .later }
def AndersonRestsUptoCardSaid : Prop := Claim7.holds Tryz.pinned (.plain (OpenSpec.upto andersonRestsSpec)) andersonRestsUptoCard

/-- THE SECOND FORM's CARD OF 'ropelinelaw15.AndersonRuns'. -/
def andersonRunsUptoCard : Claim7 := { stood := { row := andersonRunsUptoRow, standIns := [], harness := (true, "7a552d58978f56c49fb47745ef7f75003461f269ffdd9ce766fac2ab451781b0"), looks := true }, kinds := [], alts := [], laidByText := true, laidKinds := [.data, .data, .data, .data, .sentinel, .sentinel, .pinned], laidTests := true, laidLooks := .later }
def AndersonRunsUptoCardSaid : Prop := Claim7.holds Tryz.pinned (.plain (OpenSpec.upto andersonRunsSpec)) andersonRunsUptoCard
end Rows
end Go.Proofs.YtbgaaclplgghcaaGreatDoor
