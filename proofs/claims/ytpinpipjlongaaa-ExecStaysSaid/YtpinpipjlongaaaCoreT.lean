/- The document's One. -/
import Derived.Test.YtpinpipjlongaaaCoreS
import Derived.Deep.CutBlock
namespace Go.Proofs.Ytpinpipjlongaaa
set_option maxRecDepth 100000
open Go.ChangeShapes Go.WideShapes Go.ChangeAt Go.RowKit
set_option linter.unusedVariables false

end Go.Proofs.Ytpinpipjlongaaa
