/-
  DERIVED. GIVEN WITH THE SEED: THE CARDS: each row of YtgbblpmdoacinaaDoorRows.lean that lists a variable, with what it lists TIED to the program's text (the seventh form; the later family's looks); each row that meets fmt, with fmt's text TOLD by the authors' own Lean function (tested against real Go, not proved from fmt's source: count such statements apart). THE CARD IS WHAT COUNTS. Prove the row's statement (the work); the ties are given (YtgbblpmdoacinaaDoorTie.lean); close each card by the builder's one call (the guide's Derived/Test/ToyasCard.lean, 'card_holds'). Laid BY PROGRAM, IN A SANDBOX (cutbox-door.mjs). By AI agents, Wed Nov 11 2026. No macro, syntax, notation, axiom, sorry.
-/
import Derived.Test.YtgbblpmdoacinaaDoorRows
import GoSem.ClaimSeven
namespace Go.Proofs.YtgbblpmdoacinaaDoor
namespace Rows

/-- THE TIED CARD OF 'ropelinelaw06.InstRight'. -/
def instRightCard : Claim7 := { stood := { row := instRightRow, standIns := [], harness := (true, "68d54625d9f5682d4411f017e6d8a22c426cd78e502e268c85efdca5d2dae740"), looks := true }, kinds := [], alts := [], laidByText := true, laidKinds := [.data, .data, .data, .data, .sentinel, .sentinel, .pinned], laidTests := true, laidLooks := .later }
def InstRightCardSaid : Prop := Claim7.holds Tryd.pinned (.plain (OpenSpec.ofChange instRightSpec)) instRightCard

/-- THE TIED CARD OF 'ropelinelaw06.InstTexts'. -/
def instTextsCard : Claim7 := { stood := { row := instTextsRow, standIns := [], harness := (true, "68d54625d9f5682d4411f017e6d8a22c426cd78e502e268c85efdca5d2dae740"), looks := true }, kinds := [], alts := [], laidByText := true, laidKinds := [.data, .data, .data, .data, .sentinel, .sentinel, .pinned], laidTests := true, laidLooks := .later }
def InstTextsCardSaid : Prop := Claim7.holds Tryd.pinned (.plain (OpenSpec.ofChange instTextsSpec)) instTextsCard

/-- THE TIED CARD OF 'ropelinelaw06.InstParses'. -/
def instParsesCard : Claim7 := { stood := { row := instParsesRow, standIns := [], harness := (true, "68d54625d9f5682d4411f017e6d8a22c426cd78e502e268c85efdca5d2dae740"), looks := true }, kinds := [], alts := [], laidByText := true, laidKinds := [.data, .data, .data, .data, .sentinel, .sentinel, .pinned], laidTests := true, laidLooks := .later }
def InstParsesCardSaid : Prop := Claim7.holds Tryd.pinned (.plain (OpenSpec.ofChange instParsesSpec)) instParsesCard

/-- THE TIED CARD OF 'ropelinelaw06.InstUnlike'. -/
def instUnlikeCard : Claim7 := { stood := { row := instUnlikeRow, standIns := [], harness := (true, "68d54625d9f5682d4411f017e6d8a22c426cd78e502e268c85efdca5d2dae740"), looks := true }, kinds := [], alts := [], laidByText := true, laidKinds := [.data, .data, .data, .data, .sentinel, .sentinel, .pinned], laidTests := true, laidLooks := .later }
def InstUnlikeCardSaid : Prop := Claim7.holds Tryd.pinned (.plain (OpenSpec.ofChange instUnlikeSpec)) instUnlikeCard

/-- THE SECOND FORM's CARD OF 'ropelinelaw06.InstRight'. -/
def instRightUptoCard : Claim7 := { stood := { row := instRightUptoRow, standIns := [], harness := (true, "68d54625d9f5682d4411f017e6d8a22c426cd78e502e268c85efdca5d2dae740"), looks := true }, kinds := [], alts := [], laidByText := true, laidKinds := [.data, .data, .data, .data, .sentinel, .sentinel, .pinned], laidTests := true, laidLooks := .later }
def InstRightUptoCardSaid : Prop := Claim7.holds Tryd.pinned (.plain (OpenSpec.upto instRightSpec)) instRightUptoCard

/-- THE SECOND FORM's CARD OF 'ropelinelaw06.InstTexts'. -/
def instTextsUptoCard : Claim7 := { stood := { row := instTextsUptoRow, standIns := [], harness := (true, "68d54625d9f5682d4411f017e6d8a22c426cd78e502e268c85efdca5d2dae740"), looks := true }, kinds := [], alts := [], laidByText := true, laidKinds := [.data, .data, .data, .data, .sentinel, .sentinel, .pinned], laidTests := true, laidLooks := .later }
def InstTextsUptoCardSaid : Prop := Claim7.holds Tryd.pinned (.plain (OpenSpec.upto instTextsSpec)) instTextsUptoCard

/-- THE SECOND FORM's CARD OF 'ropelinelaw06.InstParses'. -/
def instParsesUptoCard : Claim7 := { stood := { row := instParsesUptoRow, standIns := [], harness := (true, "68d54625d9f5682d4411f017e6d8a22c426cd78e502e268c85efdca5d2dae740"), looks := true }, kinds := [], alts := [], laidByText := true, laidKinds := [.data, .data, .data, .data, .sentinel, .sentinel, .pinned], laidTests := true, laidLooks := .later }
def InstParsesUptoCardSaid : Prop := Claim7.holds Tryd.pinned (.plain (OpenSpec.upto instParsesSpec)) instParsesUptoCard

/-- THE SECOND FORM's CARD OF 'ropelinelaw06.InstUnlike'. -/
def instUnlikeUptoCard : Claim7 := { stood := { row := instUnlikeUptoRow, standIns := [], harness := (true, "68d54625d9f5682d4411f017e6d8a22c426cd78e502e268c85efdca5d2dae740"), looks := true }, kinds := [], alts := [], laidByText := true, laidKinds := [.data, .data, .data, .data, .sentinel, .sentinel, .pinned], laidTests := true, laidLooks := .later }
def InstUnlikeUptoCardSaid : Prop := Claim7.holds Tryd.pinned (.plain (OpenSpec.upto instUnlikeSpec)) instUnlikeUptoCard
end Rows
end Go.Proofs.YtgbblpmdoacinaaDoor
