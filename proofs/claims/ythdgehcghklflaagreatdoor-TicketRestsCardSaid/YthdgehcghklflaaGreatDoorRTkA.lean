import Derived.Test.YthdgehcghklflaaGreatDoorRTkD
import Derived.Test.YthdgehcghklflaaGreatDoorRAsmM
import Derived.Test.YthdgehcghklflaaGreatDoorRAsmF
import Derived.Test.YthdgehcghklflaaGreatDoorRAsmRb
import Derived.Test.YthdgehcghklflaaGreatDoorRRuE
import Derived.Test.YthdgehcghklflaaGreatDoorRAsmD
import Derived.Test.YthdgehcghklflaaGreatDoorRRefP
import Derived.Test.YthdgehcghklflaaGreatDoorRWdA
import Derived.Test.YthdgehcghklflaaGreatDoorRRuR
set_option linter.unusedVariables false
set_option maxHeartbeats 1000000
set_option maxRecDepth 100000
open Go.Value renaming int->I,slice->Z
open Go.IntKind renaming i64->Q
open Option renaming none->O
namespace Go.Proofs.YthdgehcghklflaaGreatDoor
section
open Go.ChangeShapes Go.WideShapes Go.ChangeAt Go.RowKit
theorem Ak (w:World)(L:Lb w):Calls Tryz.prog 27 #[bs fB] w (Do w):=by
 have h:=wP fB qR w L
 unfold BP at h
 rw[zq] at h
 exact h
theorem Aj (w:World):Calls Tryz.prog 28 #[bs fB] w (Dn w):=by
 have h:=vw fB qR w
 unfold Ab at h
 rw[zq] at h
 refine h.mono ?_
 rintro e w' ⟨v,h1,⟨sl,rfl,ho⟩,h3⟩
 exact⟨sl,h1,ho,h3⟩
theorem B3 (N:Nat)(st:Int)(w:World)(L:Lb w)(h1:1<=N)(h64:N<=64)(h0:0<=st)(h2:st<4294967296):
 Calls Tryz.prog 8 #[I Q N,I .u32 st] w fun e w'=>∃ v,e=.returned (.tuple #[v,I Q 0])/\Sv w' v dD [1,1] [st,st] (qM N) 0/\Below w.heap.size w w':=
 C6 N st w h1 h64 h0 h2 (fun W hW=>Ak W (L.below hW))
theorem DU (N:Nat)(st:Int)(w:World)(h1:1<=N)(h64:N<=64)(h0:0<=st)(h2:st<4294967296):
 Calls Tryz.prog 9 #[I Q N,I .u32 st] w fun e w'=>∃ v,e=.returned (.tuple #[v,.bool true])/\Rv w.heap.size w' v dD [1,1] [st,st] (qM N) 0/\Below w.heap.size w w':=
 CB N st w h1 h64 h0 h2 Aj
def E0:Value:=.agg #[Z O 0 0,I Q 0,I Q 0,Z O 0 0,Z O 0 0,I Q 0,Z O 0 0]
theorem AB (n st:Int)(w:World)(hn:¬ (1<=n/\n<=64)):
 Calls Tryz.prog 9 #[I Q n,I .u32 st] w fun e w'=>e=.returned (.tuple #[E0,.bool false])/\Below w.heap.size w w':=by
 have b0:Below w.heap.size w (w.alloc (.cells #[Z O 0 0,I Q 0,I Q 0,Z O 0 0,Z O 0 0,I Q 0,Z O 0 0] 37)):=(Below.refl _ _).alloc (Nat.le_refl _) _
 unfold E0
 have q0:=Bk.made w 37 #[Z O 0 0,I Q 0,I Q 0,Z O 0 0,Z O 0 0,I Q 0,Z O 0 0]
 by_cases h1:n<1
 ·go_enter Tryz.func9,Tryz.ntmps9
  go_upto_region 2 with fail
  generalize w.alloc (.cells #[Z O 0 0,I Q 0,I Q 0,Z O 0 0,Z O 0 0,I Q 0,Z O 0 0] 37)=y at *
  have KK:=Lib.hid (And.intro (jP q0 (Z O 0 0) (I Q 0) (I Q 0) (Z O 0 0) (Z O 0 0) (I Q 0) (Z O 0 0)) (fM b0 (Nat.le_refl _) (Z O 0 0) (I Q 0) (I Q 0) (Z O 0 0) (Z O 0 0) (I Q 0) (Z O 0 0)))
  obtain⟨y0,y1,y2,y3,y4,y5,y6⟩:=q0.pO
  have zf:=Bk.free q0
  clear q0 b0
  go_wp
  clear y0 y1 y2 y3 y4 y5 y6 zf
  generalize hv:(((((((y.setCell ⟨w.heap.size,0,O⟩ (Z O 0 0)).setCell ⟨w.heap.size,1,O⟩ (I Q 0)).setCell ⟨w.heap.size,2,O⟩ (I Q 0)).setCell ⟨w.heap.size,3,O⟩ (Z O 0 0)).setCell ⟨w.heap.size,4,O⟩ (Z O 0 0)).setCell ⟨w.heap.size,5,O⟩ (I Q 0)).setCell ⟨w.heap.size,6,O⟩ (Z O 0 0))=x9
  replace hv:mq y w.heap.size (Z O 0 0) (I Q 0) (I Q 0) (Z O 0 0) (Z O 0 0) (I Q 0) (Z O 0 0)=x9:=hv
  rw[hv] at KK
  obtain⟨hq,b9⟩:=KK.out
  obtain⟨y0,y1,y2,y3,y4,y5,y6⟩:=hq.pO
  exact bodyPost_ret (v:=.tuple #[.agg #[Z O 0 0,I Q 0,I Q 0,Z O 0 0,Z O 0 0,I Q 0,Z O 0 0],.bool false]) (by simp[results,Tryz.results9,go_sem,y0,y1,y2,y3,y4,y5,y6]) rfl ⟨rfl,b9⟩
 ·have h2:64<n:=by omega
  clear hn
  go_enter Tryz.func9,Tryz.ntmps9
  go_upto_region 2 with fail
  generalize w.alloc (.cells #[Z O 0 0,I Q 0,I Q 0,Z O 0 0,Z O 0 0,I Q 0,Z O 0 0] 37)=y at *
  have KK:=Lib.hid (And.intro (jP q0 (Z O 0 0) (I Q 0) (I Q 0) (Z O 0 0) (Z O 0 0) (I Q 0) (Z O 0 0)) (fM b0 (Nat.le_refl _) (Z O 0 0) (I Q 0) (I Q 0) (Z O 0 0) (Z O 0 0) (I Q 0) (Z O 0 0)))
  obtain⟨y0,y1,y2,y3,y4,y5,y6⟩:=q0.pO
  have zf:=Bk.free q0
  clear q0 b0
  go_wp
  clear y0 y1 y2 y3 y4 y5 y6 zf
  generalize hv:(((((((y.setCell ⟨w.heap.size,0,O⟩ (Z O 0 0)).setCell ⟨w.heap.size,1,O⟩ (I Q 0)).setCell ⟨w.heap.size,2,O⟩ (I Q 0)).setCell ⟨w.heap.size,3,O⟩ (Z O 0 0)).setCell ⟨w.heap.size,4,O⟩ (Z O 0 0)).setCell ⟨w.heap.size,5,O⟩ (I Q 0)).setCell ⟨w.heap.size,6,O⟩ (Z O 0 0))=x9
  replace hv:mq y w.heap.size (Z O 0 0) (I Q 0) (I Q 0) (Z O 0 0) (Z O 0 0) (I Q 0) (Z O 0 0)=x9:=hv
  rw[hv] at KK
  obtain⟨hq,b9⟩:=KK.out
  obtain⟨y0,y1,y2,y3,y4,y5,y6⟩:=hq.pO
  exact bodyPost_ret (v:=.tuple #[.agg #[Z O 0 0,I Q 0,I Q 0,Z O 0 0,Z O 0 0,I Q 0,Z O 0 0],.bool false]) (by simp[results,Tryz.results9,go_sem,y0,y1,y2,y3,y4,y5,y6]) rfl ⟨rfl,b9⟩
theorem yC (w:World)(L:Lb w):Calls Tryz.prog 12 #[] w fun e w'=>e=.returned (.bool true)/\Below w.heap.size w w':=by
 have HP:=Lib.hid (B3 2 5 w L (by decide) (by decide) (by decide) (by decide))
 go_enter Tryz.func12,Tryz.ntmps12
 go_wp2_with fail
 refine HP.out.mono ?_
 rintro e x ⟨v,rfl,⟨aL,cL,aS,cS,aI,cI,aR,cR,rfl,-⟩,hx⟩
 have hb:Below w.heap.size w (x.alloc (.cells #[Z aL dD.l.length cL,I Q dD.lo,I Q dD.un,Z aS 2 cS,Z aI 2 cI,I Q 0,Z aR 2 cR] 29)):=hx.alloc hx.size _
 have hK:=Bk.made x 29 #[Z aL dD.l.length cL,I Q dD.lo,I Q dD.un,Z aS 2 cS,Z aI 2 cI,I Q 0,Z aR 2 cR]
 rw[show dD.l.length=9 from rfl,show dD.lo=0 from rfl,show dD.un=5 from rfl] at *
 rw[show ([1,1]:List Int).length=2 from rfl,show ([5,5]:List Int).length=2 from rfl,show (qM 2).length=2 from rfl]
 clear HP hx
 go_upto_region 2 with fail
 generalize x.heap.size=q at *
 generalize x.alloc (.cells #[Z aL 9 cL,I Q 0,I Q 5,Z aS 2 cS,Z aI 2 cI,I Q 0,Z aR 2 cR] 29)=y at *
 obtain⟨y0,y6⟩:y.cell? ⟨q,0,O⟩=some (Z aL 9 cL)/\y.cell? ⟨q,6,O⟩=some (Z aR 2 cR):=⟨hK.cell 0,hK.cell 6⟩
 clear hK
 go_wp2
 go_ret
 exact⟨rfl,hb⟩
end
section
open Go.Joins Go.ChangeShapes Go.WideShapes Go.ChangeAt Go.RowKit Go.Deep
theorem vH {H:Type}{enc:TypeId×Value->H}{W:World}{base:Nat}{sp:Nat->Bool}{p9:Bool}{fuel:Nat}{a:Option Addr}{len cap:Nat}{x:DataW H×List MemPlace}
 (hf:DataW.trod enc Tryz.prog W base sp p9 fuel 45 [Z a len cap]=some x):∃ l:List ug,len=l.length/\qg W.heap.size W a l/\l.length<=maxLen:=by
 obtain⟨hle,hr⟩:=vG Tryz.underlying45 Tryz.underlying61 (by kernel_rfl) (by kernel_rfl) (by decide) hf
 by_cases h0:0<len
 ·obtain⟨b,off,rfl,hlt,hc⟩:=hr h0
  have one:∀ i,i<len->∃ x:ug,W.cell? ⟨b,off+i*3,O⟩=some (I Q x.kd)/\W.cell? ⟨b,off+i*3+1,O⟩=some (I Q x.t)/\W.cell? ⟨b,off+i*3+2,O⟩=some (I Q x.L):=by
   intro i hi
   have get:∀ j,j<3->∃ n:Int,W.cell? ⟨b,off+i*3+j,O⟩=some (I Q n):=by
    intro j hj
    obtain⟨u,hu,hw⟩:=hc i hi j hj
    match j,hj with
    | 0,_=>obtain⟨n,y,hy⟩:=hw _ rfl;obtain⟨x,e,_,wx⟩:=DataW.trod_int Tryz.underlying3 hy;simp at e;subst e;exact⟨x,hu⟩
    | 1,_=>obtain⟨n,y,hy⟩:=hw _ rfl;obtain⟨x,e,_,wx⟩:=DataW.trod_int Tryz.underlying3 hy;simp at e;subst e;exact⟨x,hu⟩
    | 2,_=>obtain⟨n,y,hy⟩:=hw _ rfl;obtain⟨x,e,_,wx⟩:=DataW.trod_int Tryz.underlying3 hy;simp at e;subst e;exact⟨x,hu⟩
   obtain⟨k,hk⟩:=get 0 (by omega)
   obtain⟨t,ht⟩:=get 1 (by omega)
   obtain⟨n,hn⟩:=get 2 (by omega)
   exact⟨⟨k,t,n⟩,hk,ht,hn⟩
  obtain⟨l,hl,hp⟩:=uH len one
  subst hl
  exact⟨l,rfl,fun _=>⟨b,off,rfl,hlt,fun k x hk=>hp k x hk⟩,hle⟩
 ·obtain rfl:len=0:=by omega
  exact⟨[],rfl,fun h=>by simp at h,by simp⟩
theorem qg.grow {B B':Nat}{w w':World}{a:Option Addr}{l:List ug}(h:qg B w a l)(hw:Below B w w')(hB:B<=w.heap.size)(hBB:B<=B'):qg B' w' a l:=by
 intro h0
 obtain⟨b,off,e,h1,h2⟩:=h h0
 have hk:∀ j,w'.cell? ⟨b,j,O⟩=w.cell? ⟨b,j,O⟩:=fun j=>by
  have:=hw.block b h1
  unfold World.cell?
  simp only[this]
 refine⟨b,off,e,Nat.lt_of_lt_of_le h1 hBB,fun i x hx=>?_⟩
 obtain⟨c0,c1,c2⟩:=h2 i x hx
 exact⟨(hk _).trans c0,(hk _).trans c1,(hk _).trans c2⟩
theorem wS {B base:Nat}{w A A':World}(h:Below B w A)(hA:ag A A' (fun i=>base<=i))(hB:B<=base)(hw:B<=w.heap.size):Below B w A':=
 ⟨hA.os.trans h.os,hA.tape.trans h.tape,hA.output.trans h.output,Nat.le_trans h.size hA.size,fun i hi=>(hA.block i (Nat.lt_of_lt_of_le hi (Nat.le_trans hw h.size)) (by omega)).trans (h.block i hi)⟩
theorem xK {n:Nat}:iO (gP n):=sr (by show EF.all pZ=true;decide)
theorem Cq {n:Nat}{st:Int}(h1:1<=n)(hn:n<=64):Ez dD [1,1] [st,st] (qM n) 0 n where
 rz:=(BS h1 hn).zs
 few:=by show jh [1,1]<=8192;decide
 len:=by show 2=jh [1,1];decide
 n1:=by omega
 n64:=by omega
 e0:=by omega
 e8:=by omega
 rl:=by rw[lB]
 code:=mL
theorem vF {H:Type}{enc:TypeId×Value->H}{W:World}{base b0:Nat}{sp:Nat->Bool}{p9:Bool}{r:Reach}{v:Value}{d:DataW H}{ps:List MemPlace}
 (hv:Value.okWide Tryz.prog W r b0 52 v) (h:DataW.Trod enc Tryz.prog W base sp p9 52 v d ps):
 ∃ (n st:Int) (l:List ug) (a:Option Addr) (cap:Nat) (c:Nat),v=.agg #[.int .i64 n,.int .u32 st,Z a l.length cap,.int .u8 c]/\(0<=st/\st<4294967296)/\c<256/\qg W.heap.size W a l/\l.length<=maxLen:=by
 obtain⟨c0,c1,c2,c3,y0,y1,y2,y3,m,rfl,_,hs2,hy0,hy1,hy2,hy3⟩:=Joins.open_agg4 Tryz.underlying52 (by kernel_rfl) (by kernel_rfl) hv h
 obtain⟨x0,e0,_,w0⟩:=DataW.trod_int Tryz.underlying3 hy0
 obtain⟨x1,e1,_,w1⟩:=DataW.trod_int Tryz.underlying22 hy1
 obtain⟨x3,e3,_,w3⟩:=DataW.trod_int Tryz.underlying5 hy3
 simp only[List.cons.injEq,and_true] at e0 e1 e3
 subst e0 e1 e3
 obtain⟨a,len,cap,rfl⟩:∃ a len cap,c2=Z a len cap:=by
  rcases open_slice Tryz.underlying45 hy2 with ⟨hcs,_⟩ | ⟨ad,l,c,m',n',D,Pl,hcs,_⟩
  ·simp only[List.cons.injEq,and_true] at hcs;exact⟨_,_,_,hcs⟩
  ·simp only[List.cons.injEq,and_true] at hcs;exact⟨_,_,_,hcs⟩
 obtain⟨l,rfl,h1,h2⟩:=vH hy2
 simp[Lit.wf,IntKind.min,IntKind.max,IntKind.bits,IntKind.signed] at w1 w3
 obtain⟨c,rfl⟩:∃ c:Nat,x3=c:=⟨x3.toNat,by omega⟩
 exact⟨x0,x1,l,a,cap,c,rfl,⟨by omega,by omega⟩,by omega,h1,h2⟩
end
