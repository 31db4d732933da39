import Derived.Test.YthdgehcghklflaaGreatDoorRRefP
import Derived.Deep.DeepCutAuto
import Derived.Deep.CutBlock
import Derived.Deep.LoopGhost
set_option linter.unusedVariables false
set_option maxRecDepth 100000
namespace Go.Proofs.YthdgehcghklflaaGreatDoor
open Go.ChangeShapes Go.WideShapes Go.ChangeAt Go.RowKit
theorem yy {w:World}{k:IntKind}{t:TypeId}{v:Value}{xs:List Int}(h:dQ k t w v xs):dQ k t w.drew v xs:=h
section
variable {w:World}{a:Option Addr}{n ca:Nat}{lo un:Int}{m:Value}{xs:List Int}{pc:Int}{ms:List Int}{wr wx:World}
theorem iG (h:dQ .i64 3 wr m ms)(hb:Below wr.heap.size wr wx):dQ .i64 3 wx m ms:=h.within (af hb) (by simp)
end
