import Derived.Test.YthdgehcghklflaaGreatDoorWTkD
import Derived.Test.YthdgehcghklflaaGreatDoorWAsmM
import Derived.Test.YthdgehcghklflaaGreatDoorWAsmF
import Derived.Test.YthdgehcghklflaaGreatDoorWAsmRb
import Derived.Test.YthdgehcghklflaaGreatDoorWPrgM
import Derived.Test.YthdgehcghklflaaGreatDoorWRecs
import Derived.Test.YthdgehcghklflaaGreatDoorWEyT
import Derived.Test.YthdgehcghklflaaGreatDoorWArR
import Derived.Test.YthdgehcghklflaaGreatDoorWAsmD
import Derived.BigQuiet
import Derived.Deep.CutBlock
set_option linter.unusedVariables false
set_option maxHeartbeats 1000000
set_option maxRecDepth 100000
open Go.Value renaming int->I,slice->Z
open Go.IntKind renaming i64->Q
open Option renaming none->O
namespace Go.Proofs.YthdgehcghklflaaGreatDoor
section
open Go.ChangeShapes Go.WideShapes Go.ChangeAt Go.RowKit
theorem zR (w:World)(L:Lb w):Calls Tryz.prog 27 #[bs fG] w (Dk w):=by
 have h:=vW fG qy w L
 unfold Bv at h
 rw[yM] at h
 exact h
theorem zQ (w:World):Calls Tryz.prog 28 #[bs fG] w (Dj w):=by
 have h:=uL fG qy w
 unfold zJ at h
 rw[yM] at h
 refine h.mono ?_
 rintro e w' ⟨v,h1,⟨sl,rfl,ho⟩,h3⟩
 exact⟨sl,h1,ho,h3⟩
theorem BK (N:Nat)(st:Int)(w:World)(L:Lb w)(h1:1<=N)(h64:N<=64)(h0:0<=st)(h2:st<4294967296):
 Calls Tryz.prog 8 #[I Q N,I .u32 st] w fun e w'=>∃ v,e=.returned (.tuple #[v,I Q 0])/\Sv w' v cK [1,1] [st,st] (yN N) 0/\Below w.heap.size w w':=
 C1 N st w h1 h64 h0 h2 (fun W hW=>zR W (L.below hW))
theorem DW (N:Nat)(st:Int)(w:World)(h1:1<=N)(h64:N<=64)(h0:0<=st)(h2:st<4294967296):
 Calls Tryz.prog 9 #[I Q N,I .u32 st] w fun e w'=>∃ v,e=.returned (.tuple #[v,.bool true])/\Rv w.heap.size w' v cK [1,1] [st,st] (yN N) 0/\Below w.heap.size w w':=
 Cn N st w h1 h64 h0 h2 zQ
def Fr:Value:=.agg #[Z O 0 0,I Q 0,I Q 0,Z O 0 0,Z O 0 0,I Q 0,Z O 0 0]
theorem Ai (n st:Int)(w:World)(hn:¬ (1<=n/\n<=64)):
 Calls Tryz.prog 9 #[I Q n,I .u32 st] w fun e w'=>e=.returned (.tuple #[Fr,.bool false])/\Below w.heap.size w w':=by
 have b0:Below w.heap.size w (w.alloc (.cells #[Z O 0 0,I Q 0,I Q 0,Z O 0 0,Z O 0 0,I Q 0,Z O 0 0] 37)):=(Below.refl _ _).alloc (Nat.le_refl _) _
 unfold Fr
 have q0:=Bk.made w 37 #[Z O 0 0,I Q 0,I Q 0,Z O 0 0,Z O 0 0,I Q 0,Z O 0 0]
 by_cases h1:n<1
 ·go_enter Tryz.func9,Tryz.ntmps9
  go_upto_region 2 with fail
  generalize w.alloc (.cells #[Z O 0 0,I Q 0,I Q 0,Z O 0 0,Z O 0 0,I Q 0,Z O 0 0] 37)=y at *
  have KK:=Lib.hid (And.intro (lM q0 (Z O 0 0) (I Q 0) (I Q 0) (Z O 0 0) (Z O 0 0) (I Q 0) (Z O 0 0)) (gS b0 (Nat.le_refl _) (Z O 0 0) (I Q 0) (I Q 0) (Z O 0 0) (Z O 0 0) (I Q 0) (Z O 0 0)))
  obtain⟨y0,y1,y2,y3,y4,y5,y6⟩:=q0.Bg
  have zf:=Bk.free q0
  clear q0 b0
  go_wp
  clear y0 y1 y2 y3 y4 y5 y6 zf
  generalize hv:(((((((y.setCell ⟨w.heap.size,0,O⟩ (Z O 0 0)).setCell ⟨w.heap.size,1,O⟩ (I Q 0)).setCell ⟨w.heap.size,2,O⟩ (I Q 0)).setCell ⟨w.heap.size,3,O⟩ (Z O 0 0)).setCell ⟨w.heap.size,4,O⟩ (Z O 0 0)).setCell ⟨w.heap.size,5,O⟩ (I Q 0)).setCell ⟨w.heap.size,6,O⟩ (Z O 0 0))=x9
  replace hv:mr y w.heap.size (Z O 0 0) (I Q 0) (I Q 0) (Z O 0 0) (Z O 0 0) (I Q 0) (Z O 0 0)=x9:=hv
  rw[hv] at KK
  obtain⟨hq,b9⟩:=KK.out
  obtain⟨y0,y1,y2,y3,y4,y5,y6⟩:=hq.Bg
  exact bodyPost_ret (v:=.tuple #[.agg #[Z O 0 0,I Q 0,I Q 0,Z O 0 0,Z O 0 0,I Q 0,Z O 0 0],.bool false]) (by simp[results,Tryz.results9,go_sem,y0,y1,y2,y3,y4,y5,y6]) rfl ⟨rfl,b9⟩
 ·have h2:64<n:=by omega
  clear hn
  go_enter Tryz.func9,Tryz.ntmps9
  go_upto_region 2 with fail
  generalize w.alloc (.cells #[Z O 0 0,I Q 0,I Q 0,Z O 0 0,Z O 0 0,I Q 0,Z O 0 0] 37)=y at *
  have KK:=Lib.hid (And.intro (lM q0 (Z O 0 0) (I Q 0) (I Q 0) (Z O 0 0) (Z O 0 0) (I Q 0) (Z O 0 0)) (gS b0 (Nat.le_refl _) (Z O 0 0) (I Q 0) (I Q 0) (Z O 0 0) (Z O 0 0) (I Q 0) (Z O 0 0)))
  obtain⟨y0,y1,y2,y3,y4,y5,y6⟩:=q0.Bg
  have zf:=Bk.free q0
  clear q0 b0
  go_wp
  clear y0 y1 y2 y3 y4 y5 y6 zf
  generalize hv:(((((((y.setCell ⟨w.heap.size,0,O⟩ (Z O 0 0)).setCell ⟨w.heap.size,1,O⟩ (I Q 0)).setCell ⟨w.heap.size,2,O⟩ (I Q 0)).setCell ⟨w.heap.size,3,O⟩ (Z O 0 0)).setCell ⟨w.heap.size,4,O⟩ (Z O 0 0)).setCell ⟨w.heap.size,5,O⟩ (I Q 0)).setCell ⟨w.heap.size,6,O⟩ (Z O 0 0))=x9
  replace hv:mr y w.heap.size (Z O 0 0) (I Q 0) (I Q 0) (Z O 0 0) (Z O 0 0) (I Q 0) (Z O 0 0)=x9:=hv
  rw[hv] at KK
  obtain⟨hq,b9⟩:=KK.out
  obtain⟨y0,y1,y2,y3,y4,y5,y6⟩:=hq.Bg
  exact bodyPost_ret (v:=.tuple #[.agg #[Z O 0 0,I Q 0,I Q 0,Z O 0 0,Z O 0 0,I Q 0,Z O 0 0],.bool false]) (by simp[results,Tryz.results9,go_sem,y0,y1,y2,y3,y4,y5,y6]) rfl ⟨rfl,b9⟩
theorem xK (w:World)(L:Lb w):Calls Tryz.prog 12 #[] w fun e w'=>e=.returned (.bool true)/\Below w.heap.size w w':=by
 have HP:=Lib.hid (BK 2 5 w L (by decide) (by decide) (by decide) (by decide))
 go_enter Tryz.func12,Tryz.ntmps12
 go_wp2_with fail
 refine HP.out.mono ?_
 rintro e x ⟨v,rfl,⟨aL,cL,aS,cS,aI,cI,aR,cR,rfl,-⟩,hx⟩
 have hb:Below w.heap.size w (x.alloc (.cells #[Z aL cK.l.length cL,I Q cK.lo,I Q cK.un,Z aS 2 cS,Z aI 2 cI,I Q 0,Z aR 2 cR] 29)):=hx.alloc hx.size _
 have hK:=Bk.made x 29 #[Z aL cK.l.length cL,I Q cK.lo,I Q cK.un,Z aS 2 cS,Z aI 2 cI,I Q 0,Z aR 2 cR]
 rw[show cK.l.length=9 from rfl,show cK.lo=0 from rfl,show cK.un=5 from rfl] at *
 rw[show ([1,1]:List Int).length=2 from rfl,show ([5,5]:List Int).length=2 from rfl,show (yN 2).length=2 from rfl]
 clear HP hx
 go_upto_region 2 with fail
 generalize x.heap.size=q at *
 generalize x.alloc (.cells #[Z aL 9 cL,I Q 0,I Q 5,Z aS 2 cS,Z aI 2 cI,I Q 0,Z aR 2 cR] 29)=y at *
 obtain⟨y0,y6⟩:y.cell? ⟨q,0,O⟩=some (Z aL 9 cL)/\y.cell? ⟨q,6,O⟩=some (Z aR 2 cR):=⟨hK.cell 0,hK.cell 6⟩
 clear hK
 go_wp2
 go_ret
 exact⟨rfl,hb⟩
end
section
open Go.Joins Go.ChangeShapes Go.WideShapes Go.ChangeAt Go.RowKit Go.Deep
theorem uV {H:Type}{enc:TypeId×Value->H}{W:World}{base:Nat}{sp:Nat->Bool}{held:Bool}{fuel:Nat}{a:Option Addr}{len cap:Nat}{x:DataW H×List MemPlace}
 (hf:DataW.trod enc Tryz.prog W base sp held fuel 45 [Z a len cap]=some x):∃ l:List Du,len=l.length/\rA W.heap.size W a l/\l.length<=maxLen:=by
 obtain⟨hle,hr⟩:=uU Tryz.underlying45 Tryz.underlying61 (by kernel_rfl) (by kernel_rfl) (by decide) hf
 by_cases h0:0<len
 ·obtain⟨b,off,rfl,hlt,hc⟩:=hr h0
  have one:∀ i,i<len->∃ x:Du,W.cell? ⟨b,off+i*3,O⟩=some (I Q x.kd)/\W.cell? ⟨b,off+i*3+1,O⟩=some (I Q x.t)/\W.cell? ⟨b,off+i*3+2,O⟩=some (I Q x.L):=by
   intro i hi
   have get:∀ j,j<3->∃ n:Int,W.cell? ⟨b,off+i*3+j,O⟩=some (I Q n):=by
    intro j hj
    obtain⟨u,hu,hw⟩:=hc i hi j hj
    match j,hj with
    | 0,_=>obtain⟨n,y,hy⟩:=hw _ rfl;obtain⟨x,e,_,wx⟩:=DataW.trod_int Tryz.underlying3 hy;simp at e;subst e;exact⟨x,hu⟩
    | 1,_=>obtain⟨n,y,hy⟩:=hw _ rfl;obtain⟨x,e,_,wx⟩:=DataW.trod_int Tryz.underlying3 hy;simp at e;subst e;exact⟨x,hu⟩
    | 2,_=>obtain⟨n,y,hy⟩:=hw _ rfl;obtain⟨x,e,_,wx⟩:=DataW.trod_int Tryz.underlying3 hy;simp at e;subst e;exact⟨x,hu⟩
   obtain⟨k,hk⟩:=get 0 (by omega)
   obtain⟨t,ht⟩:=get 1 (by omega)
   obtain⟨n,hn⟩:=get 2 (by omega)
   exact⟨⟨k,t,n⟩,hk,ht,hn⟩
  obtain⟨l,hl,hp⟩:=uc len one
  subst hl
  exact⟨l,rfl,fun _=>⟨b,off,rfl,hlt,fun k x hk=>hp k x hk⟩,hle⟩
 ·obtain rfl:len=0:=by omega
  exact⟨[],rfl,fun h=>by simp at h,by simp⟩
theorem xB {H:Type}{enc:TypeId×Value->H}{W:World}{base b0:Nat}{sp:Nat->Bool}{held:Bool}{r:Reach}{v:Value}{d:DataW H}{ps:List MemPlace}
 (hval:Value.okWide Tryz.prog W r b0 45 v) (h:DataW.Trod enc Tryz.prog W base sp held 45 v d ps):
 ∃ (l:List Du) (a:Option Addr) (cap:Nat),v=Z a l.length cap/\rA W.heap.size W a l/\l.length<=maxLen:=by
 obtain⟨a,len,cap,rfl⟩:=okWide_slice Tryz.underlying45 hval
 obtain⟨fuel,hf⟩:=h
 obtain⟨l,rfl,h1,h2⟩:=uV (by simpa [Value.cells] using hf)
 exact⟨l,a,cap,rfl,h1,h2⟩
theorem rA.grow {B B':Nat}{w w':World}{a:Option Addr}{l:List Du}(h:rA B w a l)(hw:Below B w w')(hB:B<=w.heap.size)(hBB:B<=B'):rA B' w' a l:=by
 intro h0
 obtain⟨b,off,e,h1,h2⟩:=h h0
 have hk:∀ j,w'.cell? ⟨b,j,O⟩=w.cell? ⟨b,j,O⟩:=fun j=>by
  have:=hw.block b h1
  unfold World.cell?
  simp only[this]
 refine⟨b,off,e,Nat.lt_of_lt_of_le h1 hBB,fun i x hx=>?_⟩
 obtain⟨c0,c1,c2⟩:=h2 i x hx
 exact⟨(hk _).trans c0,(hk _).trans c1,(hk _).trans c2⟩
theorem wX {n:Nat}:zi (i4 n):=rN (by show EJ.all iK=true;decide)
end
