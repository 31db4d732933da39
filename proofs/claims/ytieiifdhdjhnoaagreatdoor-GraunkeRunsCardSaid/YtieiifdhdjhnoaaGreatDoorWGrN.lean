import Derived.Test.YtieiifdhdjhnoaaGreatDoorWAsmM
import Derived.Deep.DeepCutAuto
set_option linter.unusedVariables false
set_option maxHeartbeats 1000000
set_option maxRecDepth 100000
open Go.Value renaming int->I,slice->O
open Go.IntKind renaming i64->Q
open Option renaming none->N
open Nat renaming le_refl->Z
namespace Go.Proofs.YtieiifdhdjhnoaaGreatDoor
open Go.ChangeShapes Go.WideShapes Go.ChangeAt Go.RowKit
theorem vz (n:Int)(hn:¬ (1<=n/\n<=64))(w:World):Calls Tryz.prog 8 #[I Q n] w fun e w'=>e=.returned (.tuple #[E7,I Q 5])/\Below w.heap.size w w':=by
 unfold E7
 have b0:Below w.heap.size w (w.alloc (.cells #[O N 0 0,I Q 0,I Q 0,O N 0 0,O N 0 0,I Q 0,O N 0 0] 28)):=(Below.refl _ _).alloc (Z _) _
 have q0:=Bk.made w 28 #[O N 0 0,I Q 0,I Q 0,O N 0 0,O N 0 0,I Q 0,O N 0 0]
 have HNN:=Lib.hid hn
 clear hn
 go_enter Tryz.func8,Tryz.ntmps8
 go_upto_region 1 with fail
 generalize w.alloc (.cells #[O N 0 0,I Q 0,I Q 0,O N 0 0,O N 0 0,I Q 0,O N 0 0] 28)=y at *
 go_cut [12] (fun v wx=>v=.bool true/\y=wx)
 case first=>
  by_cases a1:n<1
  ·go_wp2
   go_meet
   case rel=>exact⟨rfl,rfl⟩
  ·have a2:64<n:=by have:=HNN.out;omega
   go_wp2
   go_meet
   case rel=>exact⟨rfl,rfl⟩
 case rest=>
  obtain⟨rfl,rfl⟩:=hcut
  have KK:=Lib.hid (And.intro (lY q0 (O N 0 0) (I Q 0) (I Q 0) (O N 0 0) (O N 0 0) (I Q 0) (O N 0 0)) (gZ b0 (Z _) (O N 0 0) (I Q 0) (I Q 0) (O N 0 0) (O N 0 0) (I Q 0) (O N 0 0)))
  obtain⟨y0,y1,y2,y3,y4,y5,y6⟩:=q0.BK
  have zf:=Bk.free q0
  clear q0 b0
  go_wp
  clear y0 y1 y2 y3 y4 y5 y6 zf
  generalize hv:(((((((y.setCell ⟨w.heap.size,0,N⟩ (O N 0 0)).setCell ⟨w.heap.size,1,N⟩ (I Q 0)).setCell ⟨w.heap.size,2,N⟩ (I Q 0)).setCell ⟨w.heap.size,3,N⟩ (O N 0 0)).setCell ⟨w.heap.size,4,N⟩ (O N 0 0)).setCell ⟨w.heap.size,5,N⟩ (I Q 0)).setCell ⟨w.heap.size,6,N⟩ (O N 0 0))=x9
  replace hv:mz y w.heap.size (O N 0 0) (I Q 0) (I Q 0) (O N 0 0) (O N 0 0) (I Q 0) (O N 0 0)=x9:=hv
  rw[hv] at KK
  obtain⟨hq,b9⟩:=KK.out
  obtain⟨y0,y1,y2,y3,y4,y5,y6⟩:=hq.BK
  exact bodyPost_ret (v:=.tuple #[.agg #[O N 0 0,I Q 0,I Q 0,O N 0 0,O N 0 0,I Q 0,O N 0 0],I Q 5]) (by simp[results,Tryz.results8,go_sem,y0,y1,y2,y3,y4,y5,y6]) rfl ⟨rfl,b9⟩
theorem sO (n:Int)(hn:¬ (1<=n/\n<=64))(w:World):Calls Tryz.prog 9 #[I Q n] w fun e w'=>e=.returned (.tuple #[E7,.bool false])/\Below w.heap.size w w':=by
 unfold E7
 have b0:Below w.heap.size w (w.alloc (.cells #[O N 0 0,I Q 0,I Q 0,O N 0 0,O N 0 0,I Q 0,O N 0 0] 36)):=(Below.refl _ _).alloc (Z _) _
 have q0:=Bk.made w 36 #[O N 0 0,I Q 0,I Q 0,O N 0 0,O N 0 0,I Q 0,O N 0 0]
 have HNN:=Lib.hid hn
 clear hn
 go_enter Tryz.func9,Tryz.ntmps9
 go_upto_region 1 with fail
 generalize w.alloc (.cells #[O N 0 0,I Q 0,I Q 0,O N 0 0,O N 0 0,I Q 0,O N 0 0] 36)=y at *
 go_cut [13] (fun v wx=>v=.bool true/\y=wx)
 case first=>
  by_cases a1:n<1
  ·go_wp2
   go_meet
   case rel=>exact⟨rfl,rfl⟩
  ·have a2:64<n:=by have:=HNN.out;omega
   go_wp2
   go_meet
   case rel=>exact⟨rfl,rfl⟩
 case rest=>
  obtain⟨rfl,rfl⟩:=hcut
  have KK:=Lib.hid (And.intro (lY q0 (O N 0 0) (I Q 0) (I Q 0) (O N 0 0) (O N 0 0) (I Q 0) (O N 0 0)) (gZ b0 (Z _) (O N 0 0) (I Q 0) (I Q 0) (O N 0 0) (O N 0 0) (I Q 0) (O N 0 0)))
  obtain⟨y0,y1,y2,y3,y4,y5,y6⟩:=q0.BK
  have zf:=Bk.free q0
  clear q0 b0
  go_wp
  clear y0 y1 y2 y3 y4 y5 y6 zf
  generalize hv:(((((((y.setCell ⟨w.heap.size,0,N⟩ (O N 0 0)).setCell ⟨w.heap.size,1,N⟩ (I Q 0)).setCell ⟨w.heap.size,2,N⟩ (I Q 0)).setCell ⟨w.heap.size,3,N⟩ (O N 0 0)).setCell ⟨w.heap.size,4,N⟩ (O N 0 0)).setCell ⟨w.heap.size,5,N⟩ (I Q 0)).setCell ⟨w.heap.size,6,N⟩ (O N 0 0))=x9
  replace hv:mz y w.heap.size (O N 0 0) (I Q 0) (I Q 0) (O N 0 0) (O N 0 0) (I Q 0) (O N 0 0)=x9:=hv
  rw[hv] at KK
  obtain⟨hq,b9⟩:=KK.out
  obtain⟨y0,y1,y2,y3,y4,y5,y6⟩:=hq.BK
  exact bodyPost_ret (v:=.tuple #[.agg #[O N 0 0,I Q 0,I Q 0,O N 0 0,O N 0 0,I Q 0,O N 0 0],.bool false]) (by simp[results,Tryz.results9,go_sem,y0,y1,y2,y3,y4,y5,y6]) rfl ⟨rfl,b9⟩
