/-
  No cell of these rows narrows 'for every input' (looked for: loops, veiled, ifaces, maps, wideKeys, modest, calm, conditions, laid).
  DERIVED. THE GIVEN ROWS OF THIS SEAT. 5 by the template 'for every input the law returns true; each argument reads behind the call as it read before'; 0 by the template 'total and deterministic' (their statements: YtipekdeghelpaaaTotals.lean).
  GIVEN WITH THE SEED: the statements are not yours to turn. If you find one false, say at which input.
  Laid BY PROGRAM, IN A SANDBOX (cutbox-rows.mjs): the forced cells as the released guide's own fill.sh prints them over the translation 16be4f005a3cee7d… (all of the seat's roots in one cut). By AI agents, Wed Nov 11 2026. No macro, syntax, notation, axiom, sorry.
-/
import Derived.Test.YtipekdeghelpaaaChecked
import GoSem.Claim
import GoSem.ClaimJoined
import GoSem.ClaimMapViews
import Derived.JoinedTies
import Derived.KernelRfl
namespace Go.Proofs.Ytipekdeghelpaaa
/- THE CELL 'sum', in the pinned program and in every row, IS THE sha256 OF THE DUMP (.gsa) THAT YtipekdeghelpaaaProg.lean LOADS. Nothing in Lean hashes anything: it is a label: what it is worth is what the hold of that sum in a sandbox is worth. -/
noncomputable def Try.pinned : Pinned := { name := "ytipekdeghelpaaa", sum := "16be4f005a3cee7d17aff7ff625569f3d6e32910d9c84ef04c4c4bd86cf0606e", checked := Try.checked }
namespace Rows
def none {H : Type} : Left H := { results := [], args := [] }

/-- 'ropelinelaw13.FifoChecks': WHATEVER THE INPUT: true; the input reads as it did. -/
def fifoChecksSpec : ChangeSpec := { name := "fifoChecks", fn := fun _ => fun
  | [d1, d2] => { results := [.lit (.bool true)], args := [d1, d2] }
  | _ => none }
def fifoChecksRow : OpenClaim := { program := "ytipekdeghelpaaa", sum := "16be4f005a3cee7d17aff7ff625569f3d6e32910d9c84ef04c4c4bd86cf0606e", func := "ropeline/ropelinelaw13.FifoChecks", spec := "fifoChecks", unfollowed := true, recurses := true, apart := false }
def FifoChecksSaid : Prop := fifoChecksRow.holds Try.pinned (OpenSpec.ofChange fifoChecksSpec)

/-- ITS FALSE NEIGHBOUR: 'it returns false'. Refute it at one input. -/
def fifoChecksWrong : ChangeSpec := { name := "fifoChecks", fn := fun _ => fun
  | [d1, d2] => { results := [.lit (.bool false)], args := [d1, d2] }
  | _ => none }
def FifoChecksWrongFalsely : Prop := fifoChecksRow.holds Try.pinned (OpenSpec.ofChange fifoChecksWrong)

/-- 'ropelinelaw13.FifoTakes': WHATEVER THE INPUT: true; the input reads as it did. -/
def fifoTakesSpec : ChangeSpec := { name := "fifoTakes", fn := fun _ => fun
  | [d1, d2] => { results := [.lit (.bool true)], args := [d1, d2] }
  | _ => none }
def fifoTakesRow : OpenClaim := { program := "ytipekdeghelpaaa", sum := "16be4f005a3cee7d17aff7ff625569f3d6e32910d9c84ef04c4c4bd86cf0606e", func := "ropeline/ropelinelaw13.FifoTakes", spec := "fifoTakes", unfollowed := true, recurses := true, apart := false }
def FifoTakesSaid : Prop := fifoTakesRow.holds Try.pinned (OpenSpec.ofChange fifoTakesSpec)

/-- ITS FALSE NEIGHBOUR: 'it returns false'. Refute it at one input. -/
def fifoTakesWrong : ChangeSpec := { name := "fifoTakes", fn := fun _ => fun
  | [d1, d2] => { results := [.lit (.bool false)], args := [d1, d2] }
  | _ => none }
def FifoTakesWrongFalsely : Prop := fifoTakesRow.holds Try.pinned (OpenSpec.ofChange fifoTakesWrong)

/-- 'ropelinelaw13.FifoBegins': WHATEVER THE INPUT: true; the input reads as it did. -/
def fifoBeginsSpec : ChangeSpec := { name := "fifoBegins", fn := fun _ => fun
  | [d1, d2, d3] => { results := [.lit (.bool true)], args := [d1, d2, d3] }
  | _ => none }
def fifoBeginsRow : OpenClaim := { program := "ytipekdeghelpaaa", sum := "16be4f005a3cee7d17aff7ff625569f3d6e32910d9c84ef04c4c4bd86cf0606e", func := "ropeline/ropelinelaw13.FifoBegins", spec := "fifoBegins", unfollowed := true, recurses := true, apart := false }
def FifoBeginsSaid : Prop := fifoBeginsRow.holds Try.pinned (OpenSpec.ofChange fifoBeginsSpec)

/-- ITS FALSE NEIGHBOUR: 'it returns false'. Refute it at one input. -/
def fifoBeginsWrong : ChangeSpec := { name := "fifoBegins", fn := fun _ => fun
  | [d1, d2, d3] => { results := [.lit (.bool false)], args := [d1, d2, d3] }
  | _ => none }
def FifoBeginsWrongFalsely : Prop := fifoBeginsRow.holds Try.pinned (OpenSpec.ofChange fifoBeginsWrong)

/-- 'ropelinelaw13.FifoOne': WHATEVER THE INPUT: true; the input reads as it did. -/
def fifoOneSpec : ChangeSpec := { name := "fifoOne", fn := fun _ => fun
  | [d1, d2] => { results := [.lit (.bool true)], args := [d1, d2] }
  | _ => none }
def fifoOneRow : OpenClaim := { program := "ytipekdeghelpaaa", sum := "16be4f005a3cee7d17aff7ff625569f3d6e32910d9c84ef04c4c4bd86cf0606e", func := "ropeline/ropelinelaw13.FifoOne", spec := "fifoOne", unfollowed := true, recurses := true, apart := false }
def FifoOneSaid : Prop := fifoOneRow.holds Try.pinned (OpenSpec.ofChange fifoOneSpec)

/-- ITS FALSE NEIGHBOUR: 'it returns false'. Refute it at one input. -/
def fifoOneWrong : ChangeSpec := { name := "fifoOne", fn := fun _ => fun
  | [d1, d2] => { results := [.lit (.bool false)], args := [d1, d2] }
  | _ => none }
def FifoOneWrongFalsely : Prop := fifoOneRow.holds Try.pinned (OpenSpec.ofChange fifoOneWrong)

/-- 'ropelinelaw13.FifoStates': WHATEVER THE INPUT: true; the input reads as it did. -/
def fifoStatesSpec : ChangeSpec := { name := "fifoStates", fn := fun _ => fun
  | [d1, d2] => { results := [.lit (.bool true)], args := [d1, d2] }
  | _ => none }
def fifoStatesRow : OpenClaim := { program := "ytipekdeghelpaaa", sum := "16be4f005a3cee7d17aff7ff625569f3d6e32910d9c84ef04c4c4bd86cf0606e", func := "ropeline/ropelinelaw13.FifoStates", spec := "fifoStates", unfollowed := true, recurses := true, apart := false }
def FifoStatesSaid : Prop := fifoStatesRow.holds Try.pinned (OpenSpec.ofChange fifoStatesSpec)

/-- ITS FALSE NEIGHBOUR: 'it returns false'. Refute it at one input. -/
def fifoStatesWrong : ChangeSpec := { name := "fifoStates", fn := fun _ => fun
  | [d1, d2] => { results := [.lit (.bool false)], args := [d1, d2] }
  | _ => none }
def FifoStatesWrongFalsely : Prop := fifoStatesRow.holds Try.pinned (OpenSpec.ofChange fifoStatesWrong)

/- THE SECOND FORM. 'bulk': how many values and letters a reading holds, each counted each time it is reached (what is shared counts as often as it is met; a slice's spare places count too). A statement '..UptoSaid' is the law's where the arguments, and the package variables that the reading takes, are together of bulk at most 1048576: NARROWER than '..Said'. Prove '..Said' where nothing that the law and all that it calls make is longer than what came in: it says more and counts as full. Else prove '..UptoSaid'. A law counts once. -/
mutual
def uptoBulk {H : Type} : DataW H → Nat
  | .lit (.string bytes) => bytes.length + 1
  | .lit _ => 1
  | .nil => 1
  | .ptr d => uptoBulk d + 1
  | .slice elems spare => uptoBulkAll elems + uptoBulkAll spare + 1
  | .agg parts => uptoBulkAll parts + 1
  | .iface _ d => uptoBulk d + 1
  | .map entries => uptoBulkEntries entries + 1
  | .held _ => 1
def uptoBulkAll {H : Type} : List (DataW H) → Nat
  | [] => 0
  | d :: r => uptoBulk d + uptoBulkAll r
def uptoBulkEntries {H : Type} : List (Lit × DataW H) → Nat
  | [] => 0
  | x :: r => uptoBulkEntry x + uptoBulkEntries r
def uptoBulkEntry {H : Type} : Lit × DataW H → Nat
  | (.string bytes, d) => bytes.length + uptoBulk d + 1
  | (_, d) => uptoBulk d + 1
 end
def uptoSmall : (H : Type) → List (DataW H) → Bool := fun _ ds => decide (uptoBulkAll ds ≤ 1048576)
def OpenSpec.upto (s : _root_.Go.ChangeSpec) : _root_.Go.OpenSpec := { _root_.Go.OpenSpec.ofChange s with cond := some uptoSmall }

/-- 'ropelinelaw13.FifoChecks', WHERE WHAT IT READS IS OF BULK AT MOST 1048576: true; the input reads as it did. -/
def fifoChecksUptoRow : OpenClaim := { program := "ytipekdeghelpaaa", sum := "16be4f005a3cee7d17aff7ff625569f3d6e32910d9c84ef04c4c4bd86cf0606e", func := "ropeline/ropelinelaw13.FifoChecks", spec := "fifoChecks", unfollowed := true, recurses := true, apart := false, narrowed := true }
def FifoChecksUptoSaid : Prop := fifoChecksUptoRow.holds Try.pinned (OpenSpec.upto fifoChecksSpec)

/-- 'ropelinelaw13.FifoTakes', WHERE WHAT IT READS IS OF BULK AT MOST 1048576: true; the input reads as it did. -/
def fifoTakesUptoRow : OpenClaim := { program := "ytipekdeghelpaaa", sum := "16be4f005a3cee7d17aff7ff625569f3d6e32910d9c84ef04c4c4bd86cf0606e", func := "ropeline/ropelinelaw13.FifoTakes", spec := "fifoTakes", unfollowed := true, recurses := true, apart := false, narrowed := true }
def FifoTakesUptoSaid : Prop := fifoTakesUptoRow.holds Try.pinned (OpenSpec.upto fifoTakesSpec)

/-- 'ropelinelaw13.FifoBegins', WHERE WHAT IT READS IS OF BULK AT MOST 1048576: true; the input reads as it did. -/
def fifoBeginsUptoRow : OpenClaim := { program := "ytipekdeghelpaaa", sum := "16be4f005a3cee7d17aff7ff625569f3d6e32910d9c84ef04c4c4bd86cf0606e", func := "ropeline/ropelinelaw13.FifoBegins", spec := "fifoBegins", unfollowed := true, recurses := true, apart := false, narrowed := true }
def FifoBeginsUptoSaid : Prop := fifoBeginsUptoRow.holds Try.pinned (OpenSpec.upto fifoBeginsSpec)

/-- 'ropelinelaw13.FifoOne', WHERE WHAT IT READS IS OF BULK AT MOST 1048576: true; the input reads as it did. -/
def fifoOneUptoRow : OpenClaim := { program := "ytipekdeghelpaaa", sum := "16be4f005a3cee7d17aff7ff625569f3d6e32910d9c84ef04c4c4bd86cf0606e", func := "ropeline/ropelinelaw13.FifoOne", spec := "fifoOne", unfollowed := true, recurses := true, apart := false, narrowed := true }
def FifoOneUptoSaid : Prop := fifoOneUptoRow.holds Try.pinned (OpenSpec.upto fifoOneSpec)

/-- 'ropelinelaw13.FifoStates', WHERE WHAT IT READS IS OF BULK AT MOST 1048576: true; the input reads as it did. -/
def fifoStatesUptoRow : OpenClaim := { program := "ytipekdeghelpaaa", sum := "16be4f005a3cee7d17aff7ff625569f3d6e32910d9c84ef04c4c4bd86cf0606e", func := "ropeline/ropelinelaw13.FifoStates", spec := "fifoStates", unfollowed := true, recurses := true, apart := false, narrowed := true }
def FifoStatesUptoSaid : Prop := fifoStatesUptoRow.holds Try.pinned (OpenSpec.upto fifoStatesSpec)

end Rows
end Go.Proofs.Ytipekdeghelpaaa
