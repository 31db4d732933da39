import Derived.Test.YthdgehcghklflaaGreatDoorTTkD
import Derived.Test.YthdgehcghklflaaGreatDoorTAsmM
import Derived.Test.YthdgehcghklflaaGreatDoorTAsmF
import Derived.Test.YthdgehcghklflaaGreatDoorTAsmRb
import Derived.Test.YthdgehcghklflaaGreatDoorTRuE
import Derived.Test.YthdgehcghklflaaGreatDoorTFfS
import Derived.Test.YthdgehcghklflaaGreatDoorTAsmD
import Derived.Test.YthdgehcghklflaaGreatDoorTRuM
import Derived.Test.YthdgehcghklflaaGreatDoorTHold
set_option linter.unusedVariables false
set_option maxHeartbeats 1000000
set_option maxRecDepth 100000
open Go.Value renaming int->I,slice->Z
open Go.IntKind renaming i64->Q
open Option renaming none->O
namespace Go.Proofs.YthdgehcghklflaaGreatDoor
section
open Go.ChangeShapes Go.WideShapes Go.ChangeAt Go.RowKit
theorem zY (w:World)(L:Lb w):Calls Tryz.prog 27 #[bs fB] w (Dd w):=by
 have h:=wE fB qO w L
 unfold BA at h
 rw[yX] at h
 exact h
theorem zX (w:World):Calls Tryz.prog 28 #[bs fB] w (Dc w):=by
 have h:=vj fB qO w
 unfold zQ at h
 rw[yX] at h
 refine h.mono ?_
 rintro e w' ⟨v,h1,⟨sl,rfl,ho⟩,h3⟩
 exact⟨sl,h1,ho,h3⟩
theorem BO (N:Nat)(st:Int)(w:World)(L:Lb w)(h1:1<=N)(h64:N<=64)(h0:0<=st)(h2:st<4294967296):
 Calls Tryz.prog 8 #[I Q N,I .u32 st] w fun e w'=>∃ v,e=.returned (.tuple #[v,I Q 0])/\Sv w' v fG [1,1] [st,st] (rS N) 0/\Below w.heap.size w w':=
 CT N st w h1 h64 h0 h2 (fun W hW=>zY W (L.below hW))
theorem DL (N:Nat)(st:Int)(w:World)(h1:1<=N)(h64:N<=64)(h0:0<=st)(h2:st<4294967296):
 Calls Tryz.prog 9 #[I Q N,I .u32 st] w fun e w'=>∃ v,e=.returned (.tuple #[v,.bool true])/\Rv w.heap.size w' v fG [1,1] [st,st] (rS N) 0/\Below w.heap.size w w':=
 Cm N st w h1 h64 h0 h2 zX
def EW:Value:=.agg #[Z O 0 0,I Q 0,I Q 0,Z O 0 0,Z O 0 0,I Q 0,Z O 0 0]
theorem Ap (n st:Int)(w:World)(hn:¬ (1<=n/\n<=64)):
 Calls Tryz.prog 9 #[I Q n,I .u32 st] w fun e w'=>e=.returned (.tuple #[EW,.bool false])/\Below w.heap.size w w':=by
 have b0:Below w.heap.size w (w.alloc (.cells #[Z O 0 0,I Q 0,I Q 0,Z O 0 0,Z O 0 0,I Q 0,Z O 0 0] 37)):=(Below.refl _ _).alloc (Nat.le_refl _) _
 unfold EW
 have q0:=Bk.made w 37 #[Z O 0 0,I Q 0,I Q 0,Z O 0 0,Z O 0 0,I Q 0,Z O 0 0]
 by_cases h1:n<1
 ·go_enter Tryz.func9,Tryz.ntmps9
  go_upto_region 2 with fail
  generalize w.alloc (.cells #[Z O 0 0,I Q 0,I Q 0,Z O 0 0,Z O 0 0,I Q 0,Z O 0 0] 37)=y at *
  have KK:=Lib.hid (And.intro (jQ q0 (Z O 0 0) (I Q 0) (I Q 0) (Z O 0 0) (Z O 0 0) (I Q 0) (Z O 0 0)) (fO b0 (Nat.le_refl _) (Z O 0 0) (I Q 0) (I Q 0) (Z O 0 0) (Z O 0 0) (I Q 0) (Z O 0 0)))
  obtain⟨y0,y1,y2,y3,y4,y5,y6⟩:=q0.pM
  have zf:=Bk.free q0
  clear q0 b0
  go_wp
  clear y0 y1 y2 y3 y4 y5 y6 zf
  generalize hv:(((((((y.setCell ⟨w.heap.size,0,O⟩ (Z O 0 0)).setCell ⟨w.heap.size,1,O⟩ (I Q 0)).setCell ⟨w.heap.size,2,O⟩ (I Q 0)).setCell ⟨w.heap.size,3,O⟩ (Z O 0 0)).setCell ⟨w.heap.size,4,O⟩ (Z O 0 0)).setCell ⟨w.heap.size,5,O⟩ (I Q 0)).setCell ⟨w.heap.size,6,O⟩ (Z O 0 0))=x9
  replace hv:mq y w.heap.size (Z O 0 0) (I Q 0) (I Q 0) (Z O 0 0) (Z O 0 0) (I Q 0) (Z O 0 0)=x9:=hv
  rw[hv] at KK
  obtain⟨hq,b9⟩:=KK.out
  obtain⟨y0,y1,y2,y3,y4,y5,y6⟩:=hq.pM
  exact bodyPost_ret (v:=.tuple #[.agg #[Z O 0 0,I Q 0,I Q 0,Z O 0 0,Z O 0 0,I Q 0,Z O 0 0],.bool false]) (by simp[results,Tryz.results9,go_sem,y0,y1,y2,y3,y4,y5,y6]) rfl ⟨rfl,b9⟩
 ·have h2:64<n:=by omega
  clear hn
  go_enter Tryz.func9,Tryz.ntmps9
  go_upto_region 2 with fail
  generalize w.alloc (.cells #[Z O 0 0,I Q 0,I Q 0,Z O 0 0,Z O 0 0,I Q 0,Z O 0 0] 37)=y at *
  have KK:=Lib.hid (And.intro (jQ q0 (Z O 0 0) (I Q 0) (I Q 0) (Z O 0 0) (Z O 0 0) (I Q 0) (Z O 0 0)) (fO b0 (Nat.le_refl _) (Z O 0 0) (I Q 0) (I Q 0) (Z O 0 0) (Z O 0 0) (I Q 0) (Z O 0 0)))
  obtain⟨y0,y1,y2,y3,y4,y5,y6⟩:=q0.pM
  have zf:=Bk.free q0
  clear q0 b0
  go_wp
  clear y0 y1 y2 y3 y4 y5 y6 zf
  generalize hv:(((((((y.setCell ⟨w.heap.size,0,O⟩ (Z O 0 0)).setCell ⟨w.heap.size,1,O⟩ (I Q 0)).setCell ⟨w.heap.size,2,O⟩ (I Q 0)).setCell ⟨w.heap.size,3,O⟩ (Z O 0 0)).setCell ⟨w.heap.size,4,O⟩ (Z O 0 0)).setCell ⟨w.heap.size,5,O⟩ (I Q 0)).setCell ⟨w.heap.size,6,O⟩ (Z O 0 0))=x9
  replace hv:mq y w.heap.size (Z O 0 0) (I Q 0) (I Q 0) (Z O 0 0) (Z O 0 0) (I Q 0) (Z O 0 0)=x9:=hv
  rw[hv] at KK
  obtain⟨hq,b9⟩:=KK.out
  obtain⟨y0,y1,y2,y3,y4,y5,y6⟩:=hq.pM
  exact bodyPost_ret (v:=.tuple #[.agg #[Z O 0 0,I Q 0,I Q 0,Z O 0 0,Z O 0 0,I Q 0,Z O 0 0],.bool false]) (by simp[results,Tryz.results9,go_sem,y0,y1,y2,y3,y4,y5,y6]) rfl ⟨rfl,b9⟩
theorem yl (w:World)(L:Lb w):Calls Tryz.prog 12 #[] w fun e w'=>e=.returned (.bool true)/\Below w.heap.size w w':=by
 have HP:=Lib.hid (BO 2 5 w L (by decide) (by decide) (by decide) (by decide))
 go_enter Tryz.func12,Tryz.ntmps12
 go_wp2_with fail
 refine HP.out.mono ?_
 rintro e x ⟨v,rfl,⟨aL,cL,aS,cS,aI,cI,aR,cR,rfl,-⟩,hx⟩
 have hb:Below w.heap.size w (x.alloc (.cells #[Z aL fG.l.length cL,I Q fG.lo,I Q fG.un,Z aS 2 cS,Z aI 2 cI,I Q 0,Z aR 2 cR] 29)):=hx.alloc hx.size _
 have hK:=Bk.made x 29 #[Z aL fG.l.length cL,I Q fG.lo,I Q fG.un,Z aS 2 cS,Z aI 2 cI,I Q 0,Z aR 2 cR]
 rw[show fG.l.length=9 from rfl,show fG.lo=0 from rfl,show fG.un=5 from rfl] at *
 rw[show ([1,1]:List Int).length=2 from rfl,show ([5,5]:List Int).length=2 from rfl,show (rS 2).length=2 from rfl]
 clear HP hx
 go_upto_region 2 with fail
 generalize x.heap.size=q at *
 generalize x.alloc (.cells #[Z aL 9 cL,I Q 0,I Q 5,Z aS 2 cS,Z aI 2 cI,I Q 0,Z aR 2 cR] 29)=y at *
 obtain⟨y0,y6⟩:y.cell? ⟨q,0,O⟩=some (Z aL 9 cL)/\y.cell? ⟨q,6,O⟩=some (Z aR 2 cR):=⟨hK.cell 0,hK.cell 6⟩
 clear hK
 go_wp2
 go_ret
 exact⟨rfl,hb⟩
end
section
open Go.Joins Go.ChangeShapes Go.WideShapes Go.ChangeAt Go.RowKit Go.Deep
theorem wH {B base:Nat}{w A A':World}(h:Below B w A)(hA:af A A' (fun i=>base<=i))(hB:B<=base)(hw:B<=w.heap.size):Below B w A':=
 ⟨hA.os.trans h.os,hA.tape.trans h.tape,hA.output.trans h.output,Nat.le_trans h.size hA.size,fun i hi=>(hA.block i (Nat.lt_of_lt_of_le hi (Nat.le_trans hw h.size)) (by omega)).trans (h.block i hi)⟩
theorem xy {n:Nat}:nj (lR n):=sg (by show Ez.all pX=true;decide)
theorem Cc {n:Nat}{st:Int}(h1:1<=n)(hn:n<=64):Eu fG [1,1] [st,st] (rS n) 0 n where
 rz:=(BD h1 hn).zs
 few:=by show jh [1,1]<=8192;decide
 len:=by show 2=jh [1,1];decide
 n1:=by omega
 n64:=by omega
 e0:=by omega
 e8:=by omega
 rl:=by rw[lB]
 code:=mJ
end
