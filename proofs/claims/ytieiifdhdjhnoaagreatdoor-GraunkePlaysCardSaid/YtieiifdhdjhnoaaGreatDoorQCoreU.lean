import Derived.Test.YtieiifdhdjhnoaaGreatDoorQArR
import Derived.Deep.DeepCutAuto
import Derived.Deep.CutBlock
import Derived.Deep.LoopGhost
set_option linter.unusedVariables false
set_option maxRecDepth 100000
namespace Go.Proofs.YtieiifdhdjhnoaaGreatDoor
open Go.ChangeShapes Go.WideShapes Go.ChangeAt Go.RowKit
theorem Ar {w:World}{k:IntKind}{t:TypeId}{v:Value}{xs:List Int}(h:ef k t w v xs):ef k t w.drew v xs:=h
section
variable {w:World}{a:Option Addr}{n ca:Nat}{lo un:Int}{m:Value}{xs:List Int}{pc:Int}{ms:List Int}{wr wx:World}
theorem ju (h:ef .i64 3 wr m ms)(hb:Below wr.heap.size wr wx):ef .i64 3 wx m ms:=h.within (af hb) (by simp)
end
