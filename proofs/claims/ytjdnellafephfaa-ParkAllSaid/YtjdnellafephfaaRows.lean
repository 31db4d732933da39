/-
  No cell of these rows narrows 'for every input' (looked for: loops, veiled, ifaces, maps, wideKeys, modest, calm, conditions, laid).
  DERIVED. THE GIVEN ROWS OF THIS SEAT. 3 by the template 'for every input the law returns true; each argument reads behind the call as it read before'; 0 by the template 'total and deterministic' (their statements: YtjdnellafephfaaTotals.lean).
  GIVEN WITH THE SEED: the statements are not yours to turn. If you find one false, say at which input.
  Laid BY PROGRAM, IN A SANDBOX (cutbox-rows.mjs): the forced cells as the released guide's own fill.sh prints them over the translation 116f71db9957a9a2… (all of the seat's roots in one cut). By AI agents, Wed Nov 11 2026. No macro, syntax, notation, axiom, sorry.
-/
import Derived.Test.YtjdnellafephfaaChecked
import GoSem.Claim
import GoSem.ClaimJoined
import GoSem.ClaimMapViews
import Derived.JoinedTies
import Derived.KernelRfl
namespace Go.Proofs.Ytjdnellafephfaa
/- THE CELL 'sum', in the pinned program and in every row, IS THE sha256 OF THE DUMP (.gsa) THAT YtjdnellafephfaaProg.lean LOADS. Nothing in Lean hashes anything: it is a label: what it is worth is what the hold of that sum in a sandbox is worth. -/
noncomputable def Try.pinned : Pinned := { name := "ytjdnellafephfaa", sum := "116f71db9957a9a2c2c69b6ad2632a4822420bb00a0c38cb49cd622d1ad3d103", checked := Try.checked }
namespace Rows
def none {H : Type} : Left H := { results := [], args := [] }

/-- 'ropelinelaw11.ParkPlays': WHATEVER THE INPUT: true; the input reads as it did. -/
def parkPlaysSpec : ChangeSpec := { name := "parkPlays", fn := fun _ => fun
  | [d1, d2, d3] => { results := [.lit (.bool true)], args := [d1, d2, d3] }
  | _ => none }
def parkPlaysRow : OpenClaim := { program := "ytjdnellafephfaa", sum := "116f71db9957a9a2c2c69b6ad2632a4822420bb00a0c38cb49cd622d1ad3d103", func := "ropeline/ropelinelaw11.ParkPlays", spec := "parkPlays", apart := false }
def ParkPlaysSaid : Prop := parkPlaysRow.holds Try.pinned (OpenSpec.ofChange parkPlaysSpec)

/-- ITS FALSE NEIGHBOUR: 'it returns false'. Refute it at one input. -/
def parkPlaysWrong : ChangeSpec := { name := "parkPlays", fn := fun _ => fun
  | [d1, d2, d3] => { results := [.lit (.bool false)], args := [d1, d2, d3] }
  | _ => none }
def ParkPlaysWrongFalsely : Prop := parkPlaysRow.holds Try.pinned (OpenSpec.ofChange parkPlaysWrong)

/-- 'ropelinelaw11.ParkBudget': WHATEVER THE INPUT: true; the input reads as it did. -/
def parkBudgetSpec : ChangeSpec := { name := "parkBudget", fn := fun _ => fun
  | [d1, d2, d3] => { results := [.lit (.bool true)], args := [d1, d2, d3] }
  | _ => none }
def parkBudgetRow : OpenClaim := { program := "ytjdnellafephfaa", sum := "116f71db9957a9a2c2c69b6ad2632a4822420bb00a0c38cb49cd622d1ad3d103", func := "ropeline/ropelinelaw11.ParkBudget", spec := "parkBudget", apart := false }
def ParkBudgetSaid : Prop := parkBudgetRow.holds Try.pinned (OpenSpec.ofChange parkBudgetSpec)

/-- ITS FALSE NEIGHBOUR: 'it returns false'. Refute it at one input. -/
def parkBudgetWrong : ChangeSpec := { name := "parkBudget", fn := fun _ => fun
  | [d1, d2, d3] => { results := [.lit (.bool false)], args := [d1, d2, d3] }
  | _ => none }
def ParkBudgetWrongFalsely : Prop := parkBudgetRow.holds Try.pinned (OpenSpec.ofChange parkBudgetWrong)

/-- 'ropelinelaw11.ParkAll': WHATEVER THE INPUT: true; the input reads as it did. -/
def parkAllSpec : ChangeSpec := { name := "parkAll", fn := fun _ => fun
  | [d1, d2] => { results := [.lit (.bool true)], args := [d1, d2] }
  | _ => none }
def parkAllRow : OpenClaim := { program := "ytjdnellafephfaa", sum := "116f71db9957a9a2c2c69b6ad2632a4822420bb00a0c38cb49cd622d1ad3d103", func := "ropeline/ropelinelaw11.ParkAll", spec := "parkAll", apart := false }
def ParkAllSaid : Prop := parkAllRow.holds Try.pinned (OpenSpec.ofChange parkAllSpec)

/-- ITS FALSE NEIGHBOUR: 'it returns false'. Refute it at one input. -/
def parkAllWrong : ChangeSpec := { name := "parkAll", fn := fun _ => fun
  | [d1, d2] => { results := [.lit (.bool false)], args := [d1, d2] }
  | _ => none }
def ParkAllWrongFalsely : Prop := parkAllRow.holds Try.pinned (OpenSpec.ofChange parkAllWrong)

/- THE SECOND FORM. 'bulk': how many values and letters a reading holds, each counted each time it is reached (what is shared counts as often as it is met; a slice's spare places count too). A statement '..UptoSaid' is the law's where the arguments, and the package variables that the reading takes, are together of bulk at most 1048576: NARROWER than '..Said'. Prove '..Said' where nothing that the law and all that it calls make is longer than what came in: it says more and counts as full. Else prove '..UptoSaid'. A law counts once. -/
mutual
def uptoBulk {H : Type} : DataW H → Nat
  | .lit (.string bytes) => bytes.length + 1
  | .lit _ => 1
  | .nil => 1
  | .ptr d => uptoBulk d + 1
  | .slice elems spare => uptoBulkAll elems + uptoBulkAll spare + 1
  | .agg parts => uptoBulkAll parts + 1
  | .iface _ d => uptoBulk d + 1
  | .map entries => uptoBulkEntries entries + 1
  | .held _ => 1
def uptoBulkAll {H : Type} : List (DataW H) → Nat
  | [] => 0
  | d :: r => uptoBulk d + uptoBulkAll r
def uptoBulkEntries {H : Type} : List (Lit × DataW H) → Nat
  | [] => 0
  | x :: r => uptoBulkEntry x + uptoBulkEntries r
def uptoBulkEntry {H : Type} : Lit × DataW H → Nat
  | (.string bytes, d) => bytes.length + uptoBulk d + 1
  | (_, d) => uptoBulk d + 1
 end
def uptoSmall : (H : Type) → List (DataW H) → Bool := fun _ ds => decide (uptoBulkAll ds ≤ 1048576)
def OpenSpec.upto (s : _root_.Go.ChangeSpec) : _root_.Go.OpenSpec := { _root_.Go.OpenSpec.ofChange s with cond := some uptoSmall }

/-- 'ropelinelaw11.ParkPlays', WHERE WHAT IT READS IS OF BULK AT MOST 1048576: true; the input reads as it did. -/
def parkPlaysUptoRow : OpenClaim := { program := "ytjdnellafephfaa", sum := "116f71db9957a9a2c2c69b6ad2632a4822420bb00a0c38cb49cd622d1ad3d103", func := "ropeline/ropelinelaw11.ParkPlays", spec := "parkPlays", apart := false, narrowed := true }
def ParkPlaysUptoSaid : Prop := parkPlaysUptoRow.holds Try.pinned (OpenSpec.upto parkPlaysSpec)

/-- 'ropelinelaw11.ParkBudget', WHERE WHAT IT READS IS OF BULK AT MOST 1048576: true; the input reads as it did. -/
def parkBudgetUptoRow : OpenClaim := { program := "ytjdnellafephfaa", sum := "116f71db9957a9a2c2c69b6ad2632a4822420bb00a0c38cb49cd622d1ad3d103", func := "ropeline/ropelinelaw11.ParkBudget", spec := "parkBudget", apart := false, narrowed := true }
def ParkBudgetUptoSaid : Prop := parkBudgetUptoRow.holds Try.pinned (OpenSpec.upto parkBudgetSpec)

/-- 'ropelinelaw11.ParkAll', WHERE WHAT IT READS IS OF BULK AT MOST 1048576: true; the input reads as it did. -/
def parkAllUptoRow : OpenClaim := { program := "ytjdnellafephfaa", sum := "116f71db9957a9a2c2c69b6ad2632a4822420bb00a0c38cb49cd622d1ad3d103", func := "ropeline/ropelinelaw11.ParkAll", spec := "parkAll", apart := false, narrowed := true }
def ParkAllUptoSaid : Prop := parkAllUptoRow.holds Try.pinned (OpenSpec.upto parkAllSpec)

end Rows
end Go.Proofs.Ytjdnellafephfaa
