/- The document's Run. -/
import Derived.Test.YtpinpipjlongaaaCoreT
import Derived.Test.YtpinpipjlongaaaCoreU
namespace Go.Proofs.Ytpinpipjlongaaa
set_option maxRecDepth 100000
open Go.ChangeShapes Go.WideShapes Go.ChangeAt Go.RowKit
set_option linter.unusedVariables false

section
variable {w : World} {a : Option Addr} {n ca : Nat} {lo un : Int} {m : Value} {xs : List Int} {pc : Int} {ms : List Int} {wr wx : World}
end

/-- What the document's run returns. -/
def RanR (w : World) (R : Out) (e : Ending) (w' : World) : Prop := ∃ m, e = .returned (.tuple #[rv R.xs R.pc, m, .int .i64 R.done, .int .i64 R.e]) ∧ Lst .i64 3 w' m R.ms ∧ Below w.heap.size w w'

end Go.Proofs.Ytpinpipjlongaaa
