import Derived.Test.YtbgaaclplgghcaaGreatDoorQArR
import Derived.Deep.DeepCutAuto
import Derived.Deep.CutBlock
import Derived.Deep.LoopGhost
set_option linter.unusedVariables false
set_option maxRecDepth 100000
namespace Go.Proofs.YtbgaaclplgghcaaGreatDoor
open Go.ChangeShapes Go.WideShapes Go.ChangeAt Go.RowKit
theorem AG {w:World}{k:IntKind}{t:TypeId}{v:Value}{xs:List Int}(h:ep k t w v xs):ep k t w.drew v xs:=h
section
variable {w:World}{a:Option Addr}{n ca:Nat}{lo un:Int}{m:Value}{xs:List Int}{pc:Int}{ms:List Int}{wr wx:World}
theorem jy (h:ep .i64 3 wr m ms)(hb:Below wr.heap.size wr wx):ep .i64 3 wx m ms:=h.within (af hb) (by simp)
end
