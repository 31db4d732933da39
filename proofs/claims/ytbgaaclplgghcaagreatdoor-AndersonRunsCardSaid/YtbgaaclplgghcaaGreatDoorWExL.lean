import Derived.Test.YtbgaaclplgghcaaGreatDoorWExE
import Derived.Test.YtbgaaclplgghcaaGreatDoorWArR
import Derived.Test.YtbgaaclplgghcaaGreatDoorWFlowK
import Derived.Test.YtbgaaclplgghcaaGreatDoorWInstV
set_option linter.unusedVariables false
set_option maxRecDepth 100000
namespace Go.Proofs.YtbgaaclplgghcaaGreatDoor
open Go.ChangeShapes Go.WideShapes Go.ChangeAt Go.RowKit
structure FF (c:ie)(zs init r7:List Int)(each threads:Int):Prop where
 rz:dO zs
 few:jf zs<=8192
 len:init.length=jf zs
 n1:1<=threads
 n64:threads<=64
 e0:0<=each
 e8:each<=8
 rl:(r7.length:Int)=threads
 code:pK c=true
theorem pQ {w W W':World}{n:Nat}{X X':XP}(b:Below w.heap.size w W)(hO:∀ i,X.Own n i->w.heap.size<=i)(s:bh W n X W' X'):Below w.heap.size w W'/\∀ i,X'.Own n i->w.heap.size<=i:=
 ⟨⟨s.1.os.trans b.os,s.1.tape.trans b.tape,s.1.output.trans b.output,Nat.le_trans b.size s.1.size,fun i hi=>(s.1.block i (Nat.lt_of_lt_of_le hi b.size) (fun e=>by have:=hO i (XP.iU e);omega)).trans (b.block i hi)⟩,
  fun i hi=>by
   rcases s.2.1 i hi with e | e
   ·exact hO i e
   ·exact Nat.le_trans b.size e⟩
