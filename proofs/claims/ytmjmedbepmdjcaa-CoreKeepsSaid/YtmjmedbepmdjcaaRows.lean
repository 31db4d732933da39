/-
  No cell of these rows narrows 'for every input' (looked for: loops, veiled, ifaces, maps, wideKeys, modest, calm, conditions, laid).
  DERIVED. THE GIVEN ROWS OF THIS SEAT. 5 by the template 'for every input the law returns true; each argument reads behind the call as it read before'; 0 by the template 'total and deterministic' (their statements: YtmjmedbepmdjcaaTotals.lean).
  GIVEN WITH THE SEED: the statements are not yours to turn. If you find one false, say at which input.
  Laid BY PROGRAM, IN A SANDBOX (cutbox-rows.mjs): the forced cells as the released guide's own fill.sh prints them over the translation 32430259d5002501… (all of the seat's roots in one cut). By AI agents, Wed Nov 11 2026. No macro, syntax, notation, axiom, sorry.
-/
import Derived.Test.YtmjmedbepmdjcaaChecked
import GoSem.Claim
import GoSem.ClaimJoined
import GoSem.ClaimMapViews
import Derived.JoinedTies
import Derived.KernelRfl
namespace Go.Proofs.Ytmjmedbepmdjcaa
/- THE CELL 'sum', in the pinned program and in every row, IS THE sha256 OF THE DUMP (.gsa) THAT YtmjmedbepmdjcaaProg.lean LOADS. Nothing in Lean hashes anything: it is a label: what it is worth is what the hold of that sum in a sandbox is worth. -/
noncomputable def Try.pinned : Pinned := { name := "ytmjmedbepmdjcaa", sum := "32430259d50025017b4cc8656605dc1a97e402f3dceb5ac0377e36b4cfa2b0b2", checked := Try.checked }
namespace Rows
def none {H : Type} : Left H := { results := [], args := [] }

/-- 'ropelinelaw08.CoreOne': WHATEVER THE INPUT: true; the input reads as it did. -/
def coreOneSpec : ChangeSpec := { name := "coreOne", fn := fun _ => fun
  | [d1, d2, d3] => { results := [.lit (.bool true)], args := [d1, d2, d3] }
  | _ => none }
def coreOneRow : OpenClaim := { program := "ytmjmedbepmdjcaa", sum := "32430259d50025017b4cc8656605dc1a97e402f3dceb5ac0377e36b4cfa2b0b2", func := "ropeline/ropelinelaw08.CoreOne", spec := "coreOne", apart := false }
def CoreOneSaid : Prop := coreOneRow.holds Try.pinned (OpenSpec.ofChange coreOneSpec)

/-- ITS FALSE NEIGHBOUR: 'it returns false'. Refute it at one input. -/
def coreOneWrong : ChangeSpec := { name := "coreOne", fn := fun _ => fun
  | [d1, d2, d3] => { results := [.lit (.bool false)], args := [d1, d2, d3] }
  | _ => none }
def CoreOneWrongFalsely : Prop := coreOneRow.holds Try.pinned (OpenSpec.ofChange coreOneWrong)

/-- 'ropelinelaw08.CoreRuns': WHATEVER THE INPUT: true; the input reads as it did. -/
def coreRunsSpec : ChangeSpec := { name := "coreRuns", fn := fun _ => fun
  | [d1, d2, d3] => { results := [.lit (.bool true)], args := [d1, d2, d3] }
  | _ => none }
def coreRunsRow : OpenClaim := { program := "ytmjmedbepmdjcaa", sum := "32430259d50025017b4cc8656605dc1a97e402f3dceb5ac0377e36b4cfa2b0b2", func := "ropeline/ropelinelaw08.CoreRuns", spec := "coreRuns", apart := false }
def CoreRunsSaid : Prop := coreRunsRow.holds Try.pinned (OpenSpec.ofChange coreRunsSpec)

/-- ITS FALSE NEIGHBOUR: 'it returns false'. Refute it at one input. -/
def coreRunsWrong : ChangeSpec := { name := "coreRuns", fn := fun _ => fun
  | [d1, d2, d3] => { results := [.lit (.bool false)], args := [d1, d2, d3] }
  | _ => none }
def CoreRunsWrongFalsely : Prop := coreRunsRow.holds Try.pinned (OpenSpec.ofChange coreRunsWrong)

/-- 'ropelinelaw08.CoreBegins': WHATEVER THE INPUT: true; the input reads as it did. -/
def coreBeginsSpec : ChangeSpec := { name := "coreBegins", fn := fun _ => fun
  | [d1, d2, d3] => { results := [.lit (.bool true)], args := [d1, d2, d3] }
  | _ => none }
def coreBeginsRow : OpenClaim := { program := "ytmjmedbepmdjcaa", sum := "32430259d50025017b4cc8656605dc1a97e402f3dceb5ac0377e36b4cfa2b0b2", func := "ropeline/ropelinelaw08.CoreBegins", spec := "coreBegins", apart := false }
def CoreBeginsSaid : Prop := coreBeginsRow.holds Try.pinned (OpenSpec.ofChange coreBeginsSpec)

/-- ITS FALSE NEIGHBOUR: 'it returns false'. Refute it at one input. -/
def coreBeginsWrong : ChangeSpec := { name := "coreBegins", fn := fun _ => fun
  | [d1, d2, d3] => { results := [.lit (.bool false)], args := [d1, d2, d3] }
  | _ => none }
def CoreBeginsWrongFalsely : Prop := coreBeginsRow.holds Try.pinned (OpenSpec.ofChange coreBeginsWrong)

/-- 'ropelinelaw08.CoreAgain': WHATEVER THE INPUT: true; the input reads as it did. -/
def coreAgainSpec : ChangeSpec := { name := "coreAgain", fn := fun _ => fun
  | [d1, d2] => { results := [.lit (.bool true)], args := [d1, d2] }
  | _ => none }
def coreAgainRow : OpenClaim := { program := "ytmjmedbepmdjcaa", sum := "32430259d50025017b4cc8656605dc1a97e402f3dceb5ac0377e36b4cfa2b0b2", func := "ropeline/ropelinelaw08.CoreAgain", spec := "coreAgain", apart := false }
def CoreAgainSaid : Prop := coreAgainRow.holds Try.pinned (OpenSpec.ofChange coreAgainSpec)

/-- ITS FALSE NEIGHBOUR: 'it returns false'. Refute it at one input. -/
def coreAgainWrong : ChangeSpec := { name := "coreAgain", fn := fun _ => fun
  | [d1, d2] => { results := [.lit (.bool false)], args := [d1, d2] }
  | _ => none }
def CoreAgainWrongFalsely : Prop := coreAgainRow.holds Try.pinned (OpenSpec.ofChange coreAgainWrong)

/-- 'ropelinelaw08.CoreKeeps': WHATEVER THE INPUT: true; the input reads as it did. -/
def coreKeepsSpec : ChangeSpec := { name := "coreKeeps", fn := fun _ => fun
  | [d1, d2, d3] => { results := [.lit (.bool true)], args := [d1, d2, d3] }
  | _ => none }
def coreKeepsRow : OpenClaim := { program := "ytmjmedbepmdjcaa", sum := "32430259d50025017b4cc8656605dc1a97e402f3dceb5ac0377e36b4cfa2b0b2", func := "ropeline/ropelinelaw08.CoreKeeps", spec := "coreKeeps", apart := false }
def CoreKeepsSaid : Prop := coreKeepsRow.holds Try.pinned (OpenSpec.ofChange coreKeepsSpec)

/-- ITS FALSE NEIGHBOUR: 'it returns false'. Refute it at one input. -/
def coreKeepsWrong : ChangeSpec := { name := "coreKeeps", fn := fun _ => fun
  | [d1, d2, d3] => { results := [.lit (.bool false)], args := [d1, d2, d3] }
  | _ => none }
def CoreKeepsWrongFalsely : Prop := coreKeepsRow.holds Try.pinned (OpenSpec.ofChange coreKeepsWrong)

/- THE SECOND FORM. 'bulk': how many values and letters a reading holds, each counted each time it is reached (what is shared counts as often as it is met; a slice's spare places count too). A statement '..UptoSaid' is the law's where the arguments, and the package variables that the reading takes, are together of bulk at most 1048576: NARROWER than '..Said'. Prove '..Said' where nothing that the law and all that it calls make is longer than what came in: it says more and counts as full. Else prove '..UptoSaid'. A law counts once. -/
mutual
def uptoBulk {H : Type} : DataW H → Nat
  | .lit (.string bytes) => bytes.length + 1
  | .lit _ => 1
  | .nil => 1
  | .ptr d => uptoBulk d + 1
  | .slice elems spare => uptoBulkAll elems + uptoBulkAll spare + 1
  | .agg parts => uptoBulkAll parts + 1
  | .iface _ d => uptoBulk d + 1
  | .map entries => uptoBulkEntries entries + 1
  | .held _ => 1
def uptoBulkAll {H : Type} : List (DataW H) → Nat
  | [] => 0
  | d :: r => uptoBulk d + uptoBulkAll r
def uptoBulkEntries {H : Type} : List (Lit × DataW H) → Nat
  | [] => 0
  | x :: r => uptoBulkEntry x + uptoBulkEntries r
def uptoBulkEntry {H : Type} : Lit × DataW H → Nat
  | (.string bytes, d) => bytes.length + uptoBulk d + 1
  | (_, d) => uptoBulk d + 1
 end
def uptoSmall : (H : Type) → List (DataW H) → Bool := fun _ ds => decide (uptoBulkAll ds ≤ 1048576)
def OpenSpec.upto (s : _root_.Go.ChangeSpec) : _root_.Go.OpenSpec := { _root_.Go.OpenSpec.ofChange s with cond := some uptoSmall }

/-- 'ropelinelaw08.CoreOne', WHERE WHAT IT READS IS OF BULK AT MOST 1048576: true; the input reads as it did. -/
def coreOneUptoRow : OpenClaim := { program := "ytmjmedbepmdjcaa", sum := "32430259d50025017b4cc8656605dc1a97e402f3dceb5ac0377e36b4cfa2b0b2", func := "ropeline/ropelinelaw08.CoreOne", spec := "coreOne", apart := false, narrowed := true }
def CoreOneUptoSaid : Prop := coreOneUptoRow.holds Try.pinned (OpenSpec.upto coreOneSpec)

/-- 'ropelinelaw08.CoreRuns', WHERE WHAT IT READS IS OF BULK AT MOST 1048576: true; the input reads as it did. -/
def coreRunsUptoRow : OpenClaim := { program := "ytmjmedbepmdjcaa", sum := "32430259d50025017b4cc8656605dc1a97e402f3dceb5ac0377e36b4cfa2b0b2", func := "ropeline/ropelinelaw08.CoreRuns", spec := "coreRuns", apart := false, narrowed := true }
def CoreRunsUptoSaid : Prop := coreRunsUptoRow.holds Try.pinned (OpenSpec.upto coreRunsSpec)

/-- 'ropelinelaw08.CoreBegins', WHERE WHAT IT READS IS OF BULK AT MOST 1048576: true; the input reads as it did. -/
def coreBeginsUptoRow : OpenClaim := { program := "ytmjmedbepmdjcaa", sum := "32430259d50025017b4cc8656605dc1a97e402f3dceb5ac0377e36b4cfa2b0b2", func := "ropeline/ropelinelaw08.CoreBegins", spec := "coreBegins", apart := false, narrowed := true }
def CoreBeginsUptoSaid : Prop := coreBeginsUptoRow.holds Try.pinned (OpenSpec.upto coreBeginsSpec)

/-- 'ropelinelaw08.CoreAgain', WHERE WHAT IT READS IS OF BULK AT MOST 1048576: true; the input reads as it did. -/
def coreAgainUptoRow : OpenClaim := { program := "ytmjmedbepmdjcaa", sum := "32430259d50025017b4cc8656605dc1a97e402f3dceb5ac0377e36b4cfa2b0b2", func := "ropeline/ropelinelaw08.CoreAgain", spec := "coreAgain", apart := false, narrowed := true }
def CoreAgainUptoSaid : Prop := coreAgainUptoRow.holds Try.pinned (OpenSpec.upto coreAgainSpec)

/-- 'ropelinelaw08.CoreKeeps', WHERE WHAT IT READS IS OF BULK AT MOST 1048576: true; the input reads as it did. -/
def coreKeepsUptoRow : OpenClaim := { program := "ytmjmedbepmdjcaa", sum := "32430259d50025017b4cc8656605dc1a97e402f3dceb5ac0377e36b4cfa2b0b2", func := "ropeline/ropelinelaw08.CoreKeeps", spec := "coreKeeps", apart := false, narrowed := true }
def CoreKeepsUptoSaid : Prop := coreKeepsUptoRow.holds Try.pinned (OpenSpec.upto coreKeepsSpec)

end Rows
end Go.Proofs.Ytmjmedbepmdjcaa
