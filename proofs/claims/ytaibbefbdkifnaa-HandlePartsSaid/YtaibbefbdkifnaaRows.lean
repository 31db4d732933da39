/-
  No cell of these rows narrows 'for every input' (looked for: loops, veiled, ifaces, maps, wideKeys, modest, calm, conditions, laid).
  DERIVED. THE GIVEN ROWS OF THIS SEAT. 4 by the template 'for every input the law returns true; each argument reads behind the call as it read before'; 0 by the template 'total and deterministic' (their statements: YtaibbefbdkifnaaTotals.lean).
  GIVEN WITH THE SEED: the statements are not yours to turn. If you find one false, say at which input.
  Laid BY PROGRAM, IN A SANDBOX (cutbox-rows.mjs): the forced cells as the released guide's own fill.sh prints them over the translation ca5067a933f2c852… (all of the seat's roots in one cut). By AI agents, Wed Nov 11 2026. No macro, syntax, notation, axiom, sorry.
-/
import Derived.Test.YtaibbefbdkifnaaChecked
import GoSem.Claim
import GoSem.ClaimJoined
import GoSem.ClaimMapViews
import Derived.JoinedTies
import Derived.KernelRfl
namespace Go.Proofs.Ytaibbefbdkifnaa
/- THE CELL 'sum', in the pinned program and in every row, IS THE sha256 OF THE DUMP (.gsa) THAT YtaibbefbdkifnaaProg.lean LOADS. Nothing in Lean hashes anything: it is a label: what it is worth is what the hold of that sum in a sandbox is worth. -/
noncomputable def Try.pinned : Pinned := { name := "ytaibbefbdkifnaa", sum := "ca5067a933f2c8529a8c500275380c29727a4e31cdcb1675fa1247412e911c6b", checked := Try.checked }
namespace Rows
def none {H : Type} : Left H := { results := [], args := [] }

/-- 'ropelinelaw01.HandleMakes': WHATEVER THE INPUT: true; the input reads as it did. -/
def handleMakesSpec : ChangeSpec := { name := "handleMakes", fn := fun _ => fun
  | [d1, d2] => { results := [.lit (.bool true)], args := [d1, d2] }
  | _ => none }
def handleMakesRow : OpenClaim := { program := "ytaibbefbdkifnaa", sum := "ca5067a933f2c8529a8c500275380c29727a4e31cdcb1675fa1247412e911c6b", func := "ropeline/ropelinelaw01.HandleMakes", spec := "handleMakes", apart := false }
def HandleMakesSaid : Prop := handleMakesRow.holds Try.pinned (OpenSpec.ofChange handleMakesSpec)

/-- ITS FALSE NEIGHBOUR: 'it returns false'. Refute it at one input. -/
def handleMakesWrong : ChangeSpec := { name := "handleMakes", fn := fun _ => fun
  | [d1, d2] => { results := [.lit (.bool false)], args := [d1, d2] }
  | _ => none }
def HandleMakesWrongFalsely : Prop := handleMakesRow.holds Try.pinned (OpenSpec.ofChange handleMakesWrong)

/-- 'ropelinelaw01.HandleParts': WHATEVER THE INPUT: true; the input reads as it did. -/
def handlePartsSpec : ChangeSpec := { name := "handleParts", fn := fun _ => fun
  | [d] => { results := [.lit (.bool true)], args := [d] }
  | _ => none }
def handlePartsRow : OpenClaim := { program := "ytaibbefbdkifnaa", sum := "ca5067a933f2c8529a8c500275380c29727a4e31cdcb1675fa1247412e911c6b", func := "ropeline/ropelinelaw01.HandleParts", spec := "handleParts", apart := false }
def HandlePartsSaid : Prop := handlePartsRow.holds Try.pinned (OpenSpec.ofChange handlePartsSpec)

/-- ITS FALSE NEIGHBOUR: 'it returns false'. Refute it at one input. -/
def handlePartsWrong : ChangeSpec := { name := "handleParts", fn := fun _ => fun
  | [d] => { results := [.lit (.bool false)], args := [d] }
  | _ => none }
def HandlePartsWrongFalsely : Prop := handlePartsRow.holds Try.pinned (OpenSpec.ofChange handlePartsWrong)

/-- 'ropelinelaw01.HandleNext': WHATEVER THE INPUT: true; the input reads as it did. -/
def handleNextSpec : ChangeSpec := { name := "handleNext", fn := fun _ => fun
  | [d1, d2] => { results := [.lit (.bool true)], args := [d1, d2] }
  | _ => none }
def handleNextRow : OpenClaim := { program := "ytaibbefbdkifnaa", sum := "ca5067a933f2c8529a8c500275380c29727a4e31cdcb1675fa1247412e911c6b", func := "ropeline/ropelinelaw01.HandleNext", spec := "handleNext", apart := false }
def HandleNextSaid : Prop := handleNextRow.holds Try.pinned (OpenSpec.ofChange handleNextSpec)

/-- ITS FALSE NEIGHBOUR: 'it returns false'. Refute it at one input. -/
def handleNextWrong : ChangeSpec := { name := "handleNext", fn := fun _ => fun
  | [d1, d2] => { results := [.lit (.bool false)], args := [d1, d2] }
  | _ => none }
def HandleNextWrongFalsely : Prop := handleNextRow.holds Try.pinned (OpenSpec.ofChange handleNextWrong)

/-- 'ropelinelaw01.HandleUnlike': WHATEVER THE INPUT: true; the input reads as it did. -/
def handleUnlikeSpec : ChangeSpec := { name := "handleUnlike", fn := fun _ => fun
  | [d] => { results := [.lit (.bool true)], args := [d] }
  | _ => none }
def handleUnlikeRow : OpenClaim := { program := "ytaibbefbdkifnaa", sum := "ca5067a933f2c8529a8c500275380c29727a4e31cdcb1675fa1247412e911c6b", func := "ropeline/ropelinelaw01.HandleUnlike", spec := "handleUnlike", apart := false }
def HandleUnlikeSaid : Prop := handleUnlikeRow.holds Try.pinned (OpenSpec.ofChange handleUnlikeSpec)

/-- ITS FALSE NEIGHBOUR: 'it returns false'. Refute it at one input. -/
def handleUnlikeWrong : ChangeSpec := { name := "handleUnlike", fn := fun _ => fun
  | [d] => { results := [.lit (.bool false)], args := [d] }
  | _ => none }
def HandleUnlikeWrongFalsely : Prop := handleUnlikeRow.holds Try.pinned (OpenSpec.ofChange handleUnlikeWrong)

/- THE SECOND FORM. 'bulk': how many values and letters a reading holds, each counted each time it is reached (what is shared counts as often as it is met; a slice's spare places count too). A statement '..UptoSaid' is the law's where the arguments, and the package variables that the reading takes, are together of bulk at most 1048576: NARROWER than '..Said'. Prove '..Said' where nothing that the law and all that it calls make is longer than what came in: it says more and counts as full. Else prove '..UptoSaid'. A law counts once. -/
mutual
def uptoBulk {H : Type} : DataW H → Nat
  | .lit (.string bytes) => bytes.length + 1
  | .lit _ => 1
  | .nil => 1
  | .ptr d => uptoBulk d + 1
  | .slice elems spare => uptoBulkAll elems + uptoBulkAll spare + 1
  | .agg parts => uptoBulkAll parts + 1
  | .iface _ d => uptoBulk d + 1
  | .map entries => uptoBulkEntries entries + 1
  | .held _ => 1
def uptoBulkAll {H : Type} : List (DataW H) → Nat
  | [] => 0
  | d :: r => uptoBulk d + uptoBulkAll r
def uptoBulkEntries {H : Type} : List (Lit × DataW H) → Nat
  | [] => 0
  | x :: r => uptoBulkEntry x + uptoBulkEntries r
def uptoBulkEntry {H : Type} : Lit × DataW H → Nat
  | (.string bytes, d) => bytes.length + uptoBulk d + 1
  | (_, d) => uptoBulk d + 1
 end
def uptoSmall : (H : Type) → List (DataW H) → Bool := fun _ ds => decide (uptoBulkAll ds ≤ 1048576)
def OpenSpec.upto (s : _root_.Go.ChangeSpec) : _root_.Go.OpenSpec := { _root_.Go.OpenSpec.ofChange s with cond := some uptoSmall }

/-- 'ropelinelaw01.HandleMakes', WHERE WHAT IT READS IS OF BULK AT MOST 1048576: true; the input reads as it did. -/
def handleMakesUptoRow : OpenClaim := { program := "ytaibbefbdkifnaa", sum := "ca5067a933f2c8529a8c500275380c29727a4e31cdcb1675fa1247412e911c6b", func := "ropeline/ropelinelaw01.HandleMakes", spec := "handleMakes", apart := false, narrowed := true }
def HandleMakesUptoSaid : Prop := handleMakesUptoRow.holds Try.pinned (OpenSpec.upto handleMakesSpec)

/-- 'ropelinelaw01.HandleParts', WHERE WHAT IT READS IS OF BULK AT MOST 1048576: true; the input reads as it did. -/
def handlePartsUptoRow : OpenClaim := { program := "ytaibbefbdkifnaa", sum := "ca5067a933f2c8529a8c500275380c29727a4e31cdcb1675fa1247412e911c6b", func := "ropeline/ropelinelaw01.HandleParts", spec := "handleParts", apart := false, narrowed := true }
def HandlePartsUptoSaid : Prop := handlePartsUptoRow.holds Try.pinned (OpenSpec.upto handlePartsSpec)

/-- 'ropelinelaw01.HandleNext', WHERE WHAT IT READS IS OF BULK AT MOST 1048576: true; the input reads as it did. -/
def handleNextUptoRow : OpenClaim := { program := "ytaibbefbdkifnaa", sum := "ca5067a933f2c8529a8c500275380c29727a4e31cdcb1675fa1247412e911c6b", func := "ropeline/ropelinelaw01.HandleNext", spec := "handleNext", apart := false, narrowed := true }
def HandleNextUptoSaid : Prop := handleNextUptoRow.holds Try.pinned (OpenSpec.upto handleNextSpec)

/-- 'ropelinelaw01.HandleUnlike', WHERE WHAT IT READS IS OF BULK AT MOST 1048576: true; the input reads as it did. -/
def handleUnlikeUptoRow : OpenClaim := { program := "ytaibbefbdkifnaa", sum := "ca5067a933f2c8529a8c500275380c29727a4e31cdcb1675fa1247412e911c6b", func := "ropeline/ropelinelaw01.HandleUnlike", spec := "handleUnlike", apart := false, narrowed := true }
def HandleUnlikeUptoSaid : Prop := handleUnlikeUptoRow.holds Try.pinned (OpenSpec.upto handleUnlikeSpec)

end Rows
end Go.Proofs.Ytaibbefbdkifnaa
