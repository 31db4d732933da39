import Derived.Test.YthdgehcghklflaaGreatDoorTRefP
import Derived.Deep.DeepCutAuto
import Derived.Deep.CutBlock
import Derived.Deep.LoopGhost
set_option linter.unusedVariables false
namespace Go.Proofs.YthdgehcghklflaaGreatDoor
set_option maxRecDepth 100000
open Go.ChangeShapes Go.WideShapes Go.ChangeAt Go.RowKit
theorem lst_drew {w:World}{k:IntKind}{t:TypeId}{v:Value}{xs:List Int}(h:Lst k t w v xs):Lst k t w.drew v xs:=h
section
variable {w:World}{a:Option Addr}{n ca:Nat}{lo un:Int}{m:Value}{xs:List Int}{pc:Int}{ms:List Int}{wr wx:World}
theorem lst_below (h:Lst .i64 3 wr m ms)(hb:Below wr.heap.size wr wx):Lst .i64 3 wx m ms:=h.within (within_of_below hb) (by simp)
end
end Go.Proofs.YthdgehcghklflaaGreatDoor
