/- For any number of threads, any number to begin with, and any operations: TicketRuns returns true: the lock at work does, step by step, what the document's does: all cells, cores and nodes are the same; no condition. A tied card: the listed variables of the library are tied to the program's text. -/
import Derived.Test.YthdgehcghklflaaGreatDoorWTkA
import Derived.Test.YthdgehcghklflaaGreatDoorWAsmF
import Derived.Test.YthdgehcghklflaaGreatDoorWExP
import Derived.Test.YthdgehcghklflaaGreatDoorWRuD
import Derived.ChangeMaps5
set_option linter.unusedVariables false
set_option maxHeartbeats 16000000
set_option maxRecDepth 100000
open Option renaming none->I,some->Q
open Bool renaming false->O,true->Z
open Go.Value renaming slice->P,pointer->S
open Go.Obj renaming cells->R
open Go.Lib renaming hid->U
open Go.RowKit.Below renaming refl->K
open Nat renaming le_refl->J
open Go renaming undef->G
namespace Go.Proofs.YthdgehcghklflaaGreatDoor.ticketRuns
open Go.Joins Go.ChangeShapes Go.WideShapes Go.ChangeAt Go.RowKit Go.Deep
theorem walk (x0 x1:Int)(l2:List Du)(a2:Option Addr)(cap2:Nat)(f0:(Lit.int .i64 x0).wf=Z)(f1:(Lit.int .u32 x1).wf=Z)(W:World)(S2:rA W.heap.size W a2 l2)(hb2:l2.length<=maxLen)(L:Lb W):
 Calls Tryz.prog 7 #[.int .i64 x0,.int .u32 x1,P a2 l2.length cap2] W fun e w'=>e=.returned (.bool Z)/\Below W.heap.size W w':=by
 have HLB:Hid (∀ V,Below W.heap.size W V->Lb V):=U (fun V hV=>L.below hV)
 have HAw:Hid (∀ V,Below W.heap.size W V->Calls Tryz.prog 12 #[] V fun e w'=>e=.returned (.bool Z)/\Below V.heap.size V w'):=U (fun V hV=>xK V (HLB.out V hV))
 obtain⟨u0,u1⟩:0<=x1/\x1<4294967296:=by
  simp[Lit.wf,IntKind.min,IntKind.max,IntKind.bits,IntKind.signed] at f1
  omega
 have HS:=U S2
 simp only[maxLen] at hb2
 clear S2 L f0 f1
 by_cases hn:1<=x0/\x0<=64
 ·obtain⟨N,rfl⟩:∃ N:Nat,x0=N:=⟨x0.toNat,by omega⟩
  have h1:1<=N:=by omega
  have h64:N<=64:=by omega
  clear hn
  have HD:=U (DW N x1 W h1 h64 u0 u1)
  go_enter Tryz.func7,Tryz.ntmps7
  go_wp2_with fail
  refine HD.out.mono ?_
  rintro e y ⟨v,rfl,hrv,hy⟩
  have HRV:=U hrv
  obtain⟨sl,bS,dS,bI,dI,bR,dR,rfl,ho,-⟩:=hrv
  obtain⟨bL,dL,rfl,-⟩:=bp ho
  rw[show ([1,1]:List Int).length=2 from rfl,show ([x1,x1]:List Int).length=2 from rfl,lD] at *
  have hyb:=hy.alloc (o:=R #[P bL cK.l.length dL,.int .i64 cK.lo,.int .i64 cK.un,P bS 2 dS,P bI 2 dI,.int .i64 0,P bR N dR] 37) hy.size
  clear HD ho
  by_cases h8:N<=8
  ·by_cases h150:l2.length<=150
   ·go_upto_region 4 with fail
    have qw:=Bk.made y 37 #[P bL cK.l.length dL,.int .i64 cK.lo,.int .i64 cK.un,P bS 2 dS,P bI 2 dI,.int .i64 0,P bR N dR]
    obtain⟨yb,hyb0⟩:∃ yb,y.heap.size=yb:=⟨_,rfl⟩
    rw[hyb0] at qw
    have HRV2:=U (HRV.out.below ((K y.heap.size y).alloc (o:=R #[P bL cK.l.length dL,.int .i64 cK.lo,.int .i64 cK.un,P bS 2 dS,P bI 2 dI,.int .i64 0,P bR N dR] 37) (J _)))
    clear HRV
    try rw[hyb0]
    generalize y.alloc (R #[P bL cK.l.length dL,.int .i64 cK.lo,.int .i64 cK.un,P bS 2 dS,P bI 2 dI,.int .i64 0,P bR N dR] 37)=z at *
    have HC:=U (BK N x1 z (HLB.out z hyb) h1 h64 u0 u1)
    go_wp2_with fail
    refine HC.out.mono ?_
    rintro e z1 ⟨v,rfl,hsv,hz1⟩
    have HSV:=U hsv
    obtain⟨aL,cL,aS,cS,aI,cI,aR,cR,rfl,-⟩:=hsv
    rw[show ([1,1]:List Int).length=2 from rfl,show ([x1,x1]:List Int).length=2 from rfl,lD] at *
    have b1:=hyb.trans (hz1.mono hyb.size)
    have hza:Below z1.heap.size z1 (z1.alloc (R #[P aL cK.l.length cL,.int .i64 cK.lo,.int .i64 cK.un,P aS 2 cS,P aI 2 cI,.int .i64 0,P aR N cR] 29)):=(K _ _).alloc (J _) _
    have q2:=Bk.made z1 29 #[P aL cK.l.length cL,.int .i64 cK.lo,.int .i64 cK.un,P aS 2 cS,P aI 2 cI,.int .i64 0,P aR N cR]
    have b2:=b1.trans (hza.mono b1.size)
    obtain⟨zb,hzb⟩:∃ zb,z1.heap.size=zb:=⟨_,rfl⟩
    rw[hzb] at q2
    have HSV2:=U (HSV.out.below hza)
    clear HC b1 HSV
    go_upto_region 5 with fail
    try rw[hzb]
    generalize z1.alloc (R #[P aL cK.l.length cL,.int .i64 cK.lo,.int .i64 cK.un,P aS 2 cS,P aI 2 cI,.int .i64 0,P aR N cR] 29)=z2 at *
    obtain⟨y0,y1,y2,y3,y4,y5,y6⟩:=q2.Bg
    have HNx:=U (EZ (w:=z2) (k:=i4 N) (init:=[x1,x1]) (r7:=yN N) (By h1 h64) HSV2.out rfl (tR u0 u1) (lD N) (tQ N))
    have qw2:Bk z2 yb 37 #[P bL cK.l.length dL,.int .i64 cK.lo,.int .i64 cK.un,P bS 2 dS,P bI 2 dI,.int .i64 0,P bR N dR]:=((hz1.trans (hza.mono hz1.size)).block _ (Bk.lt qw)).trans qw
    have HRV3:=U (HRV2.out.below (hz1.trans (hza.mono hz1.size)))
    clear hza hzb hz1 qw HRV2 HSV2
    go_wp2_with fail
    refine HNx.out.mono ?_
    rintro e w5 ⟨X,rfl,hX,hw5,hXo⟩
    have b5:=b2.trans (hw5.mono b2.size)
    have HX5:=U hX
    have HXO:Hid (∀ i,X.Own N i->W.heap.size<=i):=U fun i hi=>Nat.le_trans b2.size (hXo i hi)
    have qw5:Bk w5 yb 37 #[P bL cK.l.length dL,.int .i64 cK.lo,.int .i64 cK.un,P bS 2 dS,P bI 2 dI,.int .i64 0,P bR N dR]:=(hw5.block _ (Bk.lt qw2)).trans qw2
    obtain⟨v0,v1,v2,v3,v4,v5,v6⟩:=qw5.Bg
    have HNy:=U (DB (w:=w5) (base:=W.heap.size) (k:=i4 N) (init:=[x1,x1]) (r7:=yN N) b5.size (By h1 h64) (HRV3.out.below hw5) rfl (tR u0 u1) (lD N) (tQ N))
    clear HNx hX hXo qw2 qw5 HRV3 hw5 y0 y1 y2 y3 y4 y5 y6
    go_wp2_with fail
    refine HNy.out.mono ?_
    rintro e w7 ⟨Y,rfl,hY,hw7,hYo⟩
    have HT:=U (zO b5 HX5.out HXO.out hY hw7 hYo)
    clear HNy HX5 HXO hY hw7 hYo v0 v1 v2 v3 v4 v5 v6 b5 b2 hyb
    go_wp2
    go_loopw [62] (fun j wr=>∃ (i:Nat) (M:PM) (Y':YP) (m:Mc),i<=l2.length/\j=.int .i64 i/\Y'.y=Y.y/\zD W (i4 N) { X with M:=M } Y' m m wr) (fun j _=>l2.length-(intOf j).toNat)
    case atStart=>exact⟨0,X.M,Y,_,Nat.zero_le _,rfl,rfl,HT.out⟩
    case round=>
     clear HT
     obtain⟨i,M,Y',m,hi,rfl,hyy,hT⟩:=hrel
     by_cases hlt:i<l2.length
     ·obtain⟨bb,off,rfl,hbb,hcs⟩:=HS.out.grow hT.bel (J _) (J _) (by omega)
      obtain⟨o,ho⟩:∃ o,l2[i]?=Q o:=⟨_,List.getElem?_eq_getElem hlt⟩
      obtain⟨r0,r1,r2⟩:=hcs i o ho
      obtain⟨kd,T0,L⟩:=o
      simp only at r0 r1 r2
      clear hcs ho
      have hBq:=Bk.made wr 61 #[.int .i64 kd,.int .i64 T0,.int .i64 L]
      have hA:Below wr.heap.size wr (wr.alloc (R #[.int .i64 kd,.int .i64 T0,.int .i64 L] 61)):=(K _ _).alloc (J _) _
      have HO:=U (And.intro hBq (And.intro (hT.below hA) (And.intro hyy trivial)))
      clear hBq hA hT hyy
      go_upto_region 12 with fail
      generalize wr.alloc (R #[.int .i64 kd,.int .i64 T0,.int .i64 L] 61)=wd at HO ⊢
      generalize wr.heap.size=qb at HO ⊢
      clear r0 r1 r2
      obtain⟨s0,s1,s2⟩:=HO.out.1.kX
      by_cases hT0:0<=T0
      ·by_cases hT1:T0<N
       ·obtain⟨T,rfl⟩:=Int.eq_ofNat_of_zero_le hT0
        have ht:T<(i4 N).n:=by show T<N;omega
        by_cases hk12:kd=1\/kd=2
        ·rcases hk12 with rfl|rfl
         ·have HX:=U (fun V (hV:iQ W wd (i4 N) { X with M:=M } Y' m (cx (i4 N) m T O).1 qb #[.int .i64 1,.int .i64 (T:Int),.int .i64 L] 0 V)=>zn HO.out.2.1 (fun V h=>yK h T ht O) V hV)
          have HY:=U (fun V (hV:iQ W wd (i4 N) { X with M:=M } Y' m (cx (i4 N) m T O).1 qb #[.int .i64 1,.int .i64 (T:Int),.int .i64 L] 1 V)=>zm (o:=(cx (i4 N) m T O).2) HO.out.2.1 (fun V h=>yJ h T ht O) V hV)
          rw[HO.out.2.2.1] at HY
          go_upto_region 14 with fail
          refine fj [6,13] (iQ W wd (i4 N) { X with M:=M } Y' m (cx (i4 N) m T O).1 qb #[.int .i64 1,.int .i64 (T:Int),.int .i64 L]) (wJ wd) (fun vs=>{ tmps:=#[.int .i64 (N:Int),.int .u32 x1,P (Q ⟨bb,off,I⟩) l2.length cap2,G,G,G,u6,S (Q ⟨yb,0,I⟩),.bool Z,S (Q ⟨zb,0,I⟩),.int .i64 0,S (Q ⟨X.x,0,I⟩),.int .i64 0,S (Q ⟨Y.y,0,I⟩),G,S (Q ⟨qb,0,I⟩),u16,.tuple #[.agg #[P bL cK.l.length dL,.int .i64 cK.lo,.int .i64 cK.un,P bS 2 dS,P bI 2 dI,.int .i64 0,P bR N dR],.bool Z],.int .i64 (N:Int),.int .u32 x1,.tuple #[.agg #[P bL cK.l.length dL,.int .i64 cK.lo,.int .i64 cK.un,P bS 2 dS,P bI 2 dI,.int .i64 0,P bR N dR],.bool Z],.agg #[P bL cK.l.length dL,.int .i64 cK.lo,.int .i64 cK.un,P bS 2 dS,P bI 2 dI,.int .i64 0,P bR N dR],.bool Z,.bool Z,.bool O,.bool O,.int .i64 (N:Int),.bool (decide (8<(N:Int))),.bool (decide (8<(N:Int))),.bool (decide (8<(N:Int))),P (Q ⟨bb,off,I⟩) l2.length cap2,.int .i64 (l2.length:Int),.bool (decide (150<(l2.length:Int))),.bool (decide (8<(N:Int)) || decide (150<(l2.length:Int))),G,.tuple #[.agg #[P aL cK.l.length cL,.int .i64 cK.lo,.int .i64 cK.un,P aS 2 cS,P aI 2 cI,.int .i64 0,P aR N cR],.int .i64 0],.int .i64 (N:Int),.int .u32 x1,.tuple #[.agg #[P aL cK.l.length cL,.int .i64 cK.lo,.int .i64 cK.un,P aS 2 cS,P aI 2 cI,.int .i64 0,P aR N cR],.int .i64 0],.agg #[P aL cK.l.length cL,.int .i64 cK.lo,.int .i64 cK.un,P aS 2 cS,P aI 2 cI,.int .i64 0,P aR N cR],.int .i64 0,.tuple #[S (Q ⟨X.x,0,I⟩),.int .i64 0],.agg #[P aL cK.l.length cL,.int .i64 cK.lo,.int .i64 cK.un,P aS 2 cS,P aI 2 cI,.int .i64 0,P aR N cR],.int .i64 (N:Int),.tuple #[S (Q ⟨X.x,0,I⟩),.int .i64 0],S (Q ⟨X.x,0,I⟩),.int .i64 0,.int .i64 0,.bool O,.bool O,.int .i64 0,.bool O,.bool O,.bool O,S (Q ⟨X.x,0,I⟩),.bool O,.bool O,.agg #[P bL cK.l.length dL,.int .i64 cK.lo,.int .i64 cK.un,P bS 2 dS,P bI 2 dI,.int .i64 0,P bR N dR],.int .i64 (N:Int),S (Q ⟨Y.y,0,I⟩),P (Q ⟨bb,off,I⟩) l2.length cap2,.int .i64 (l2.length:Int),.int .i64 (i:Int),.bool Z,S (Q ⟨bb,off+i*3,I⟩),.agg #[.int .i64 1,.int .i64 (T:Int),.int .i64 L],S (Q ⟨qb,1,I⟩),.int .i64 (T:Int),.bool (decide ((T:Int)<0)),.bool (decide ((T:Int)<0)),S (Q ⟨qb,1,I⟩),.int .i64 (T:Int),.int .i64 (N:Int),.bool (decide (N<=T)),.bool (decide ((T:Int)<0) || decide (N<=T)),S (Q ⟨qb,0,I⟩),.int .i64 1,.bool Z,.bool Z,G,G,G,.bool Z,vs 0,vs 1,vs 2,vs 3,vs 4,vs 5,vs 6,vs 7,vs 8,vs 9,vs 10,vs 11,vs 12,vs 13,vs 14,vs 15,u99,u100,u101,u102,u103,u104,u105,u106,u107,u108,u109,u110,u111,u112,u113,u114,u115,u116,u117,u118,u119,u120,G],defers:=[] }) (rz [(6,iq wd (cx (i4 N) m T O).2),(13,ip (cx (i4 N) m T O).2)] [S (Q ⟨X.x,0,I⟩),S (Q ⟨qb,1,I⟩),.int .i64 (T:Int),S (Q ⟨qb,0,I⟩),.int .i64 1,.bool O,G,S (Q ⟨Y.y,0,I⟩),S (Q ⟨qb,1,I⟩),.int .i64 (T:Int),S (Q ⟨qb,0,I⟩),.int .i64 1,.int .i64 0,G,.bool Z,.bool O]) ?ghm ?ghr ?ghc ?ghnd ?ghlit ?gh0 ?ghW ?ghF ?ghS ?gops ?gdone
          case ghm=>kernel_rfl
          case ghr=>kernel_rfl
          case ghc=>kernel_rfl
          case ghnd=>decide
          case ghlit=>intro vs;rfl
          case gh0=>exact⟨HO.out.1,J _,K _ _⟩
          case ghW=>exact fun kk V V2 h hb=>h.below hb
          case ghF=>exact ik (by
           intro p0 hp
           simp only[List.mem_cons,List.not_mem_nil,or_false] at hp
           rcases hp with rfl|rfl
           ·exact fun k v V V2 h hb=>iq.below (j:=k) h hb
           ·exact fun k v V V2 h hb=>ip.below (j:=k) h hb)
          case ghS=>exact fun kk V V2 _ hs=>kh (by
           intro p0 hp
           simp only[List.mem_cons,List.not_mem_nil,or_false] at hp
           rcases hp with rfl|rfl
           ·exact fun v h=>iq.keep (j:=kk) h hs
           ·exact fun v h=>ip.keep (j:=kk) h hs)
          case gops=>
           refine⟨?_,?_,?_,?_,?_,?_,?_,?_,?_,?_,?_,?_,?_,?_,?_,?_,trivial⟩
           ·intro vs V kk h1 h2 hW hd
            refine aa rfl ?_
            clear hd hW
            go_simp
            exact⟨rfl,K _ _⟩
           ·intro vs V kk h1 h2 hW hd
            refine aa rfl ?_
            clear hd hW
            go_simp
            exact⟨rfl,K _ _⟩
           ·intro vs V kk h1 h2 hW hd
            refine aa rfl ?_
            have e1:vs 1=S (Q ⟨qb,1,I⟩):=hd 1 (by decide)
            have y1:V.cell? ⟨qb,1,I⟩=Q (.int .i64 (T:Int)):=hW.1.cell 1
            clear hd hW
            go_simp
            exact⟨rfl,K _ _⟩
           ·intro vs V kk h1 h2 hW hd
            refine aa rfl ?_
            clear hd hW
            go_simp
            exact⟨rfl,K _ _⟩
           ·intro vs V kk h1 h2 hW hd
            refine aa rfl ?_
            have e3:vs 3=S (Q ⟨qb,0,I⟩):=hd 3 (by decide)
            have y0:V.cell? ⟨qb,0,I⟩=Q (.int .i64 1):=hW.1.cell 0
            clear hd hW
            go_simp
            exact⟨rfl,K _ _⟩
           ·intro vs V kk h1 h2 hW hd
            refine aa rfl ?_
            have e4:vs 4=.int .i64 1:=hd 4 (by decide)
            clear hd hW
            go_simp
            exact⟨rfl,K _ _⟩
           ·intro vs V hW hd
            have e0:vs 0=S (Q ⟨X.x,0,I⟩):=hd 0 (by decide)
            have e2:vs 2=.int .i64 (T:Int):=hd 2 (by decide)
            have e5:vs 5=.bool O:=hd 5 (by decide)
            have HV:=U (HX.out V hW)
            refine aO rfl ?_
            clear hd hW
            go_simp
            refine HV.out.mono ?_
            rintro e zz ⟨v9,rfl,h5,h6,h7⟩
            exact⟨_,rfl,h5,h6,h7⟩
           ·intro vs V kk h1 h2 hW hd
            refine aa rfl ?_
            clear hd hW
            go_simp
            exact⟨rfl,K _ _⟩
           ·intro vs V kk h1 h2 hW hd
            refine aa rfl ?_
            clear hd hW
            go_simp
            exact⟨rfl,K _ _⟩
           ·intro vs V kk h1 h2 hW hd
            refine aa rfl ?_
            have e8:vs 8=S (Q ⟨qb,1,I⟩):=hd 8 (by decide)
            have y1:V.cell? ⟨qb,1,I⟩=Q (.int .i64 (T:Int)):=hW.1.cell 1
            clear hd hW
            go_simp
            exact⟨rfl,K _ _⟩
           ·intro vs V kk h1 h2 hW hd
            refine aa rfl ?_
            clear hd hW
            go_simp
            exact⟨rfl,K _ _⟩
           ·intro vs V kk h1 h2 hW hd
            refine aa rfl ?_
            have e10:vs 10=S (Q ⟨qb,0,I⟩):=hd 10 (by decide)
            have y0:V.cell? ⟨qb,0,I⟩=Q (.int .i64 1):=hW.1.cell 0
            clear hd hW
            go_simp
            exact⟨rfl,K _ _⟩
           ·intro vs V kk h1 h2 hW hd
            refine aa rfl ?_
            have e11:vs 11=.int .i64 1:=hd 11 (by decide)
            clear hd hW
            go_simp
            exact⟨rfl,K _ _⟩
           ·intro vs V hW hd
            have e7:vs 7=S (Q ⟨Y.y,0,I⟩):=hd 7 (by decide)
            have e9:vs 9=.int .i64 (T:Int):=hd 9 (by decide)
            have e12:vs 12=.int .i64 0:=hd 12 (by decide)
            have HV:=U (HY.out V hW)
            refine aO rfl ?_
            clear hd hW
            go_simp
            refine HV.out.mono ?_
            rintro e zz ⟨v9,rfl,h5,h6,h7⟩
            exact⟨_,rfl,h5,h6,h7⟩
           ·intro vs V kk h1 h2 hW hd
            have ea:iq wd (cx (i4 N) m T O).2 kk (vs 6) V:=hd 6 (by decide)
            have eb:ip (cx (i4 N) m T O).2 kk (vs 13) V:=hd 13 (by decide)
            have HV:=U (mO ea eb)
            refine aa rfl ?_
            clear hd hW ea eb
            go_simp
            refine HV.out.mono ?_
            rintro e zz ⟨rfl,h6⟩
            exact⟨_,rfl,rfl,h6⟩
           ·intro vs V kk h1 h2 hW hd
            refine aa rfl ?_
            have e14:vs 14=.bool Z:=hd 14 (by decide)
            clear hd hW
            go_simp
            exact⟨rfl,K _ _⟩
          case gdone=>
           intro vs V hW hf
           have f0:vs 0=S (Q ⟨X.x,0,I⟩):=hf 0 (by decide)
           have f1:vs 1=S (Q ⟨qb,1,I⟩):=hf 1 (by decide)
           have f2:vs 2=.int .i64 (T:Int):=hf 2 (by decide)
           have f3:vs 3=S (Q ⟨qb,0,I⟩):=hf 3 (by decide)
           have f4:vs 4=.int .i64 1:=hf 4 (by decide)
           have f5:vs 5=.bool O:=hf 5 (by decide)
           have f7:vs 7=S (Q ⟨Y.y,0,I⟩):=hf 7 (by decide)
           have f8:vs 8=S (Q ⟨qb,1,I⟩):=hf 8 (by decide)
           have f9:vs 9=.int .i64 (T:Int):=hf 9 (by decide)
           have f10:vs 10=S (Q ⟨qb,0,I⟩):=hf 10 (by decide)
           have f11:vs 11=.int .i64 1:=hf 11 (by decide)
           have f12:vs 12=.int .i64 0:=hf 12 (by decide)
           have f14:vs 14=.bool Z:=hf 14 (by decide)
           have f15:vs 15=.bool O:=hf 15 (by decide)
           simp only[f0,f1,f2,f3,f4,f5,f7,f8,f9,f10,f11,f12,f14,f15]
           clear f0 f1 f2 f3 f4 f5 f7 f8 f9 f10 f11 f12 f14 f15
           generalize vs 6=rx at *
           generalize vs 13=ry at *
           obtain⟨-,-,M3,Y4,hy4,hT4⟩:iQ W wd (i4 N) { X with M:=M } Y' m (cx (i4 N) m T O).1 qb #[.int .i64 1,.int .i64 (T:Int),.int .i64 L] 2 V:=hW
           have hyF:Y4.y=Y.y:=hy4.trans HO.out.2.2.1
           have HAl:Hid (Calls Tryz.prog 26 #[S (Q ⟨X.x,0,I⟩),S (Q ⟨Y.y,0,I⟩)] V fun e w'=>e=.returned (.bool Z)/\Below V.heap.size V w'):=U (by
            have h9:=tE hT4.ex hT4.ey
            rw[hyF] at h9
            exact h9)
           have HT4:=U hT4
           clear hf hT4 hy4
           go_wp2_with fail
           refine HAl.out.mono ?_
           rintro e v9 ⟨rfl,hv9⟩
           have hT9:=HT4.out.below hv9
           clear HAl HT4 hv9
           go_wp2
           go_roundw
           case rel=>exact⟨i+1,M3,Y4,_,by omega,by go_num,hyF,hT9⟩
           case measure=>simp[intOf];omega
         ·have HX:=U (fun V (hV:iQ W wd (i4 N) { X with M:=M } Y' m (cx (i4 N) m T Z).1 qb #[.int .i64 2,.int .i64 (T:Int),.int .i64 L] 0 V)=>zn HO.out.2.1 (fun V h=>yK h T ht Z) V hV)
          have HY:=U (fun V (hV:iQ W wd (i4 N) { X with M:=M } Y' m (cx (i4 N) m T Z).1 qb #[.int .i64 2,.int .i64 (T:Int),.int .i64 L] 1 V)=>zm (o:=(cx (i4 N) m T Z).2) HO.out.2.1 (fun V h=>yJ h T ht Z) V hV)
          rw[HO.out.2.2.1] at HY
          go_upto_region 14 with fail
          refine fj [6,13] (iQ W wd (i4 N) { X with M:=M } Y' m (cx (i4 N) m T Z).1 qb #[.int .i64 2,.int .i64 (T:Int),.int .i64 L]) (wJ wd) (fun vs=>{ tmps:=#[.int .i64 (N:Int),.int .u32 x1,P (Q ⟨bb,off,I⟩) l2.length cap2,G,G,G,u6,S (Q ⟨yb,0,I⟩),.bool Z,S (Q ⟨zb,0,I⟩),.int .i64 0,S (Q ⟨X.x,0,I⟩),.int .i64 0,S (Q ⟨Y.y,0,I⟩),G,S (Q ⟨qb,0,I⟩),u16,.tuple #[.agg #[P bL cK.l.length dL,.int .i64 cK.lo,.int .i64 cK.un,P bS 2 dS,P bI 2 dI,.int .i64 0,P bR N dR],.bool Z],.int .i64 (N:Int),.int .u32 x1,.tuple #[.agg #[P bL cK.l.length dL,.int .i64 cK.lo,.int .i64 cK.un,P bS 2 dS,P bI 2 dI,.int .i64 0,P bR N dR],.bool Z],.agg #[P bL cK.l.length dL,.int .i64 cK.lo,.int .i64 cK.un,P bS 2 dS,P bI 2 dI,.int .i64 0,P bR N dR],.bool Z,.bool Z,.bool O,.bool O,.int .i64 (N:Int),.bool (decide (8<(N:Int))),.bool (decide (8<(N:Int))),.bool (decide (8<(N:Int))),P (Q ⟨bb,off,I⟩) l2.length cap2,.int .i64 (l2.length:Int),.bool (decide (150<(l2.length:Int))),.bool (decide (8<(N:Int)) || decide (150<(l2.length:Int))),G,.tuple #[.agg #[P aL cK.l.length cL,.int .i64 cK.lo,.int .i64 cK.un,P aS 2 cS,P aI 2 cI,.int .i64 0,P aR N cR],.int .i64 0],.int .i64 (N:Int),.int .u32 x1,.tuple #[.agg #[P aL cK.l.length cL,.int .i64 cK.lo,.int .i64 cK.un,P aS 2 cS,P aI 2 cI,.int .i64 0,P aR N cR],.int .i64 0],.agg #[P aL cK.l.length cL,.int .i64 cK.lo,.int .i64 cK.un,P aS 2 cS,P aI 2 cI,.int .i64 0,P aR N cR],.int .i64 0,.tuple #[S (Q ⟨X.x,0,I⟩),.int .i64 0],.agg #[P aL cK.l.length cL,.int .i64 cK.lo,.int .i64 cK.un,P aS 2 cS,P aI 2 cI,.int .i64 0,P aR N cR],.int .i64 (N:Int),.tuple #[S (Q ⟨X.x,0,I⟩),.int .i64 0],S (Q ⟨X.x,0,I⟩),.int .i64 0,.int .i64 0,.bool O,.bool O,.int .i64 0,.bool O,.bool O,.bool O,S (Q ⟨X.x,0,I⟩),.bool O,.bool O,.agg #[P bL cK.l.length dL,.int .i64 cK.lo,.int .i64 cK.un,P bS 2 dS,P bI 2 dI,.int .i64 0,P bR N dR],.int .i64 (N:Int),S (Q ⟨Y.y,0,I⟩),P (Q ⟨bb,off,I⟩) l2.length cap2,.int .i64 (l2.length:Int),.int .i64 (i:Int),.bool Z,S (Q ⟨bb,off+i*3,I⟩),.agg #[.int .i64 2,.int .i64 (T:Int),.int .i64 L],S (Q ⟨qb,1,I⟩),.int .i64 (T:Int),.bool (decide ((T:Int)<0)),.bool (decide ((T:Int)<0)),S (Q ⟨qb,1,I⟩),.int .i64 (T:Int),.int .i64 (N:Int),.bool (decide (N<=T)),.bool (decide ((T:Int)<0) || decide (N<=T)),S (Q ⟨qb,0,I⟩),.int .i64 2,.bool O,.bool O,S (Q ⟨qb,0,I⟩),.int .i64 2,.bool Z,.bool Z,vs 0,vs 1,vs 2,vs 3,vs 4,vs 5,vs 6,vs 7,vs 8,vs 9,vs 10,vs 11,vs 12,vs 13,vs 14,vs 15,u99,u100,u101,u102,u103,u104,u105,u106,u107,u108,u109,u110,u111,u112,u113,u114,u115,u116,u117,u118,u119,u120,G],defers:=[] }) (rz [(6,iq wd (cx (i4 N) m T Z).2),(13,ip (cx (i4 N) m T Z).2)] [S (Q ⟨X.x,0,I⟩),S (Q ⟨qb,1,I⟩),.int .i64 (T:Int),S (Q ⟨qb,0,I⟩),.int .i64 2,.bool Z,G,S (Q ⟨Y.y,0,I⟩),S (Q ⟨qb,1,I⟩),.int .i64 (T:Int),S (Q ⟨qb,0,I⟩),.int .i64 2,.int .i64 1,G,.bool Z,.bool O]) ?ghm ?ghr ?ghc ?ghnd ?ghlit ?gh0 ?ghW ?ghF ?ghS ?gops ?gdone
          case ghm=>kernel_rfl
          case ghr=>kernel_rfl
          case ghc=>kernel_rfl
          case ghnd=>decide
          case ghlit=>intro vs;rfl
          case gh0=>exact⟨HO.out.1,J _,K _ _⟩
          case ghW=>exact fun kk V V2 h hb=>h.below hb
          case ghF=>exact ik (by
           intro p0 hp
           simp only[List.mem_cons,List.not_mem_nil,or_false] at hp
           rcases hp with rfl|rfl
           ·exact fun k v V V2 h hb=>iq.below (j:=k) h hb
           ·exact fun k v V V2 h hb=>ip.below (j:=k) h hb)
          case ghS=>exact fun kk V V2 _ hs=>kh (by
           intro p0 hp
           simp only[List.mem_cons,List.not_mem_nil,or_false] at hp
           rcases hp with rfl|rfl
           ·exact fun v h=>iq.keep (j:=kk) h hs
           ·exact fun v h=>ip.keep (j:=kk) h hs)
          case gops=>
           refine⟨?_,?_,?_,?_,?_,?_,?_,?_,?_,?_,?_,?_,?_,?_,?_,?_,trivial⟩
           ·intro vs V kk h1 h2 hW hd
            refine aa rfl ?_
            clear hd hW
            go_simp
            exact⟨rfl,K _ _⟩
           ·intro vs V kk h1 h2 hW hd
            refine aa rfl ?_
            clear hd hW
            go_simp
            exact⟨rfl,K _ _⟩
           ·intro vs V kk h1 h2 hW hd
            refine aa rfl ?_
            have e1:vs 1=S (Q ⟨qb,1,I⟩):=hd 1 (by decide)
            have y1:V.cell? ⟨qb,1,I⟩=Q (.int .i64 (T:Int)):=hW.1.cell 1
            clear hd hW
            go_simp
            exact⟨rfl,K _ _⟩
           ·intro vs V kk h1 h2 hW hd
            refine aa rfl ?_
            clear hd hW
            go_simp
            exact⟨rfl,K _ _⟩
           ·intro vs V kk h1 h2 hW hd
            refine aa rfl ?_
            have e3:vs 3=S (Q ⟨qb,0,I⟩):=hd 3 (by decide)
            have y0:V.cell? ⟨qb,0,I⟩=Q (.int .i64 2):=hW.1.cell 0
            clear hd hW
            go_simp
            exact⟨rfl,K _ _⟩
           ·intro vs V kk h1 h2 hW hd
            refine aa rfl ?_
            have e4:vs 4=.int .i64 2:=hd 4 (by decide)
            clear hd hW
            go_simp
            exact⟨rfl,K _ _⟩
           ·intro vs V hW hd
            have e0:vs 0=S (Q ⟨X.x,0,I⟩):=hd 0 (by decide)
            have e2:vs 2=.int .i64 (T:Int):=hd 2 (by decide)
            have e5:vs 5=.bool Z:=hd 5 (by decide)
            have HV:=U (HX.out V hW)
            refine aO rfl ?_
            clear hd hW
            go_simp
            refine HV.out.mono ?_
            rintro e zz ⟨v9,rfl,h5,h6,h7⟩
            exact⟨_,rfl,h5,h6,h7⟩
           ·intro vs V kk h1 h2 hW hd
            refine aa rfl ?_
            clear hd hW
            go_simp
            exact⟨rfl,K _ _⟩
           ·intro vs V kk h1 h2 hW hd
            refine aa rfl ?_
            clear hd hW
            go_simp
            exact⟨rfl,K _ _⟩
           ·intro vs V kk h1 h2 hW hd
            refine aa rfl ?_
            have e8:vs 8=S (Q ⟨qb,1,I⟩):=hd 8 (by decide)
            have y1:V.cell? ⟨qb,1,I⟩=Q (.int .i64 (T:Int)):=hW.1.cell 1
            clear hd hW
            go_simp
            exact⟨rfl,K _ _⟩
           ·intro vs V kk h1 h2 hW hd
            refine aa rfl ?_
            clear hd hW
            go_simp
            exact⟨rfl,K _ _⟩
           ·intro vs V kk h1 h2 hW hd
            refine aa rfl ?_
            have e10:vs 10=S (Q ⟨qb,0,I⟩):=hd 10 (by decide)
            have y0:V.cell? ⟨qb,0,I⟩=Q (.int .i64 2):=hW.1.cell 0
            clear hd hW
            go_simp
            exact⟨rfl,K _ _⟩
           ·intro vs V kk h1 h2 hW hd
            refine aa rfl ?_
            have e11:vs 11=.int .i64 2:=hd 11 (by decide)
            clear hd hW
            go_simp
            exact⟨rfl,K _ _⟩
           ·intro vs V hW hd
            have e7:vs 7=S (Q ⟨Y.y,0,I⟩):=hd 7 (by decide)
            have e9:vs 9=.int .i64 (T:Int):=hd 9 (by decide)
            have e12:vs 12=.int .i64 1:=hd 12 (by decide)
            have HV:=U (HY.out V hW)
            refine aO rfl ?_
            clear hd hW
            go_simp
            refine HV.out.mono ?_
            rintro e zz ⟨v9,rfl,h5,h6,h7⟩
            exact⟨_,rfl,h5,h6,h7⟩
           ·intro vs V kk h1 h2 hW hd
            have ea:iq wd (cx (i4 N) m T Z).2 kk (vs 6) V:=hd 6 (by decide)
            have eb:ip (cx (i4 N) m T Z).2 kk (vs 13) V:=hd 13 (by decide)
            have HV:=U (mO ea eb)
            refine aa rfl ?_
            clear hd hW ea eb
            go_simp
            refine HV.out.mono ?_
            rintro e zz ⟨rfl,h6⟩
            exact⟨_,rfl,rfl,h6⟩
           ·intro vs V kk h1 h2 hW hd
            refine aa rfl ?_
            have e14:vs 14=.bool Z:=hd 14 (by decide)
            clear hd hW
            go_simp
            exact⟨rfl,K _ _⟩
          case gdone=>
           intro vs V hW hf
           have f0:vs 0=S (Q ⟨X.x,0,I⟩):=hf 0 (by decide)
           have f1:vs 1=S (Q ⟨qb,1,I⟩):=hf 1 (by decide)
           have f2:vs 2=.int .i64 (T:Int):=hf 2 (by decide)
           have f3:vs 3=S (Q ⟨qb,0,I⟩):=hf 3 (by decide)
           have f4:vs 4=.int .i64 2:=hf 4 (by decide)
           have f5:vs 5=.bool Z:=hf 5 (by decide)
           have f7:vs 7=S (Q ⟨Y.y,0,I⟩):=hf 7 (by decide)
           have f8:vs 8=S (Q ⟨qb,1,I⟩):=hf 8 (by decide)
           have f9:vs 9=.int .i64 (T:Int):=hf 9 (by decide)
           have f10:vs 10=S (Q ⟨qb,0,I⟩):=hf 10 (by decide)
           have f11:vs 11=.int .i64 2:=hf 11 (by decide)
           have f12:vs 12=.int .i64 1:=hf 12 (by decide)
           have f14:vs 14=.bool Z:=hf 14 (by decide)
           have f15:vs 15=.bool O:=hf 15 (by decide)
           simp only[f0,f1,f2,f3,f4,f5,f7,f8,f9,f10,f11,f12,f14,f15]
           clear f0 f1 f2 f3 f4 f5 f7 f8 f9 f10 f11 f12 f14 f15
           generalize vs 6=rx at *
           generalize vs 13=ry at *
           obtain⟨-,-,M3,Y4,hy4,hT4⟩:iQ W wd (i4 N) { X with M:=M } Y' m (cx (i4 N) m T Z).1 qb #[.int .i64 2,.int .i64 (T:Int),.int .i64 L] 2 V:=hW
           have hyF:Y4.y=Y.y:=hy4.trans HO.out.2.2.1
           have HAl:Hid (Calls Tryz.prog 26 #[S (Q ⟨X.x,0,I⟩),S (Q ⟨Y.y,0,I⟩)] V fun e w'=>e=.returned (.bool Z)/\Below V.heap.size V w'):=U (by
            have h9:=tE hT4.ex hT4.ey
            rw[hyF] at h9
            exact h9)
           have HT4:=U hT4
           clear hf hT4 hy4
           go_wp2_with fail
           refine HAl.out.mono ?_
           rintro e v9 ⟨rfl,hv9⟩
           have hT9:=HT4.out.below hv9
           clear HAl HT4 hv9
           go_wp2
           go_roundw
           case rel=>exact⟨i+1,M3,Y4,_,by omega,by go_num,hyF,hT9⟩
           case measure=>simp[intOf];omega
        ·have b1:(kd==1)=O:=by simpa using fun e=>hk12 (.inl e)
         have b2:(kd==2)=O:=by simpa using fun e=>hk12 (.inr e)
         clear hk12
         obtain⟨lt,hL9⟩:∃ lt:Bool,min (max L 0) 1=aM lt:=⟨decide (0<L),by unfold aM;by_cases h:0<L <;> simp[h] <;> omega⟩
         have hw1:decide (aM lt=1)=lt:=by cases lt <;> rfl
         have hw2:(aM lt==1)=lt:=by cases lt <;> rfl
         have HX:=U (fun V (hV:iQ W wd (i4 N) { X with M:=M } Y' m (dx (i4 N) m T lt).1 qb #[.int .i64 kd,.int .i64 (T:Int),.int .i64 L] 0 V)=>zn HO.out.2.1 (fun V h=>BY h T ht lt (fun i hm=>xz (by show EJ.all iK=Z;decide) h.lk hm)) V hV)
         have HY:=U (fun V (hV:iQ W wd (i4 N) { X with M:=M } Y' m (dx (i4 N) m T lt).1 qb #[.int .i64 kd,.int .i64 (T:Int),.int .i64 L] 1 V)=>zm (m':=(dx (i4 N) m T lt).1) (o:=(dx (i4 N) m T lt).2) HO.out.2.1 (fun V h=>by
          have h9:=wX V Y' m T (aM lt) h ht
          rw[show decide (aM lt≠0)=lt by cases lt <;> rfl] at h9
          exact h9) V hV)
         rw[HO.out.2.2.1] at HY
         go_upto_region 17 with fail
         try rw[hL9]
         refine fj [5,10] (iQ W wd (i4 N) { X with M:=M } Y' m (dx (i4 N) m T lt).1 qb #[.int .i64 kd,.int .i64 (T:Int),.int .i64 L]) (wJ wd) (fun vs=>{ tmps:=#[.int .i64 (N:Int),.int .u32 x1,P (Q ⟨bb,off,I⟩) l2.length cap2,G,G,G,u6,S (Q ⟨yb,0,I⟩),.bool Z,S (Q ⟨zb,0,I⟩),.int .i64 0,S (Q ⟨X.x,0,I⟩),.int .i64 0,S (Q ⟨Y.y,0,I⟩),G,S (Q ⟨qb,0,I⟩),.int .i64 (aM lt),.tuple #[.agg #[P bL cK.l.length dL,.int .i64 cK.lo,.int .i64 cK.un,P bS 2 dS,P bI 2 dI,.int .i64 0,P bR N dR],.bool Z],.int .i64 (N:Int),.int .u32 x1,.tuple #[.agg #[P bL cK.l.length dL,.int .i64 cK.lo,.int .i64 cK.un,P bS 2 dS,P bI 2 dI,.int .i64 0,P bR N dR],.bool Z],.agg #[P bL cK.l.length dL,.int .i64 cK.lo,.int .i64 cK.un,P bS 2 dS,P bI 2 dI,.int .i64 0,P bR N dR],.bool Z,.bool Z,.bool O,.bool O,.int .i64 (N:Int),.bool (decide (8<(N:Int))),.bool (decide (8<(N:Int))),.bool (decide (8<(N:Int))),P (Q ⟨bb,off,I⟩) l2.length cap2,.int .i64 (l2.length:Int),.bool (decide (150<(l2.length:Int))),.bool (decide (8<(N:Int)) || decide (150<(l2.length:Int))),G,.tuple #[.agg #[P aL cK.l.length cL,.int .i64 cK.lo,.int .i64 cK.un,P aS 2 cS,P aI 2 cI,.int .i64 0,P aR N cR],.int .i64 0],.int .i64 (N:Int),.int .u32 x1,.tuple #[.agg #[P aL cK.l.length cL,.int .i64 cK.lo,.int .i64 cK.un,P aS 2 cS,P aI 2 cI,.int .i64 0,P aR N cR],.int .i64 0],.agg #[P aL cK.l.length cL,.int .i64 cK.lo,.int .i64 cK.un,P aS 2 cS,P aI 2 cI,.int .i64 0,P aR N cR],.int .i64 0,.tuple #[S (Q ⟨X.x,0,I⟩),.int .i64 0],.agg #[P aL cK.l.length cL,.int .i64 cK.lo,.int .i64 cK.un,P aS 2 cS,P aI 2 cI,.int .i64 0,P aR N cR],.int .i64 (N:Int),.tuple #[S (Q ⟨X.x,0,I⟩),.int .i64 0],S (Q ⟨X.x,0,I⟩),.int .i64 0,.int .i64 0,.bool O,.bool O,.int .i64 0,.bool O,.bool O,.bool O,S (Q ⟨X.x,0,I⟩),.bool O,.bool O,.agg #[P bL cK.l.length dL,.int .i64 cK.lo,.int .i64 cK.un,P bS 2 dS,P bI 2 dI,.int .i64 0,P bR N dR],.int .i64 (N:Int),S (Q ⟨Y.y,0,I⟩),P (Q ⟨bb,off,I⟩) l2.length cap2,.int .i64 (l2.length:Int),.int .i64 (i:Int),.bool Z,S (Q ⟨bb,off+i*3,I⟩),.agg #[.int .i64 kd,.int .i64 (T:Int),.int .i64 L],S (Q ⟨qb,1,I⟩),.int .i64 (T:Int),.bool (decide ((T:Int)<0)),.bool (decide ((T:Int)<0)),S (Q ⟨qb,1,I⟩),.int .i64 (T:Int),.int .i64 (N:Int),.bool (decide (N<=T)),.bool (decide ((T:Int)<0) || decide (N<=T)),S (Q ⟨qb,0,I⟩),.int .i64 kd,.bool O,.bool O,S (Q ⟨qb,0,I⟩),.int .i64 kd,.bool O,.bool O,u83,u84,u85,u86,u87,u88,u89,u90,u91,u92,u93,u94,u95,u96,u97,u98,S (Q ⟨qb,2,I⟩),.int .i64 L,.int .i64 (max L 0),.int .i64 (aM lt),vs 0,vs 1,vs 2,vs 3,vs 4,vs 5,vs 6,vs 7,vs 8,vs 9,vs 10,vs 11,vs 12,u116,u117,u118,u119,u120,G],defers:=[] }) (rz [(5,iq wd (dx (i4 N) m T lt).2),(10,ip (dx (i4 N) m T lt).2)] [S (Q ⟨X.x,0,I⟩),S (Q ⟨qb,1,I⟩),.int .i64 (T:Int),.int .i64 (aM lt),.bool lt,G,S (Q ⟨Y.y,0,I⟩),S (Q ⟨qb,1,I⟩),.int .i64 (T:Int),.int .i64 (aM lt),G,.bool Z,.bool O]) ?ghm ?ghr ?ghc ?ghnd ?ghlit ?gh0 ?ghW ?ghF ?ghS ?gops ?gdone
         case ghm=>kernel_rfl
         case ghr=>kernel_rfl
         case ghc=>kernel_rfl
         case ghnd=>decide
         case ghlit=>intro vs;rfl
         case gh0=>exact⟨HO.out.1,J _,K _ _⟩
         case ghW=>exact fun kk V V2 h hb=>h.below hb
         case ghF=>exact ik (by
          intro p0 hp
          simp only[List.mem_cons,List.not_mem_nil,or_false] at hp
          rcases hp with rfl|rfl
          ·exact fun k v V V2 h hb=>iq.below (j:=k) h hb
          ·exact fun k v V V2 h hb=>ip.below (j:=k) h hb)
         case ghS=>exact fun kk V V2 _ hs=>kh (by
          intro p0 hp
          simp only[List.mem_cons,List.not_mem_nil,or_false] at hp
          rcases hp with rfl|rfl
          ·exact fun v h=>iq.keep (j:=kk) h hs
          ·exact fun v h=>ip.keep (j:=kk) h hs)
         case gops=>
          refine⟨?_,?_,?_,?_,?_,?_,?_,?_,?_,?_,?_,?_,?_,trivial⟩
          ·intro vs V kk h1 h2 hW hd
           refine aa rfl ?_
           clear hd hW
           go_simp
           exact⟨rfl,K _ _⟩
          ·intro vs V kk h1 h2 hW hd
           refine aa rfl ?_
           clear hd hW
           go_simp
           exact⟨rfl,K _ _⟩
          ·intro vs V kk h1 h2 hW hd
           refine aa rfl ?_
           have e1:vs 1=S (Q ⟨qb,1,I⟩):=hd 1 (by decide)
           have y1:V.cell? ⟨qb,1,I⟩=Q (.int .i64 (T:Int)):=hW.1.cell 1
           clear hd hW
           go_simp
           exact⟨rfl,K _ _⟩
          ·intro vs V kk h1 h2 hW hd
           refine aa rfl ?_
           clear hd hW
           go_simp
           exact⟨rfl,K _ _⟩
          ·intro vs V kk h1 h2 hW hd
           refine aa rfl ?_
           have e3:vs 3=.int .i64 (aM lt):=hd 3 (by decide)
           clear hd hW
           go_simp
           exact⟨rfl,K _ _⟩
          ·intro vs V hW hd
           have e0:vs 0=S (Q ⟨X.x,0,I⟩):=hd 0 (by decide)
           have e2:vs 2=.int .i64 (T:Int):=hd 2 (by decide)
           have e4:vs 4=.bool lt:=hd 4 (by decide)
           have HV:=U (HX.out V hW)
           refine aO rfl ?_
           clear hd hW
           go_simp
           refine HV.out.mono ?_
           rintro e zz ⟨v9,rfl,h5,h6,h7⟩
           exact⟨_,rfl,h5,h6,h7⟩
          ·intro vs V kk h1 h2 hW hd
           refine aa rfl ?_
           clear hd hW
           go_simp
           exact⟨rfl,K _ _⟩
          ·intro vs V kk h1 h2 hW hd
           refine aa rfl ?_
           clear hd hW
           go_simp
           exact⟨rfl,K _ _⟩
          ·intro vs V kk h1 h2 hW hd
           refine aa rfl ?_
           have e7:vs 7=S (Q ⟨qb,1,I⟩):=hd 7 (by decide)
           have y1:V.cell? ⟨qb,1,I⟩=Q (.int .i64 (T:Int)):=hW.1.cell 1
           clear hd hW
           go_simp
           exact⟨rfl,K _ _⟩
          ·intro vs V kk h1 h2 hW hd
           refine aa rfl ?_
           clear hd hW
           go_simp
           exact⟨rfl,K _ _⟩
          ·intro vs V hW hd
           have e6:vs 6=S (Q ⟨Y.y,0,I⟩):=hd 6 (by decide)
           have e8:vs 8=.int .i64 (T:Int):=hd 8 (by decide)
           have e9:vs 9=.int .i64 (aM lt):=hd 9 (by decide)
           have HV:=U (HY.out V hW)
           refine aO rfl ?_
           clear hd hW
           go_simp
           refine HV.out.mono ?_
           rintro e zz ⟨v9,rfl,h5,h6,h7⟩
           exact⟨_,rfl,h5,h6,h7⟩
          ·intro vs V kk h1 h2 hW hd
           have ea:iq wd (dx (i4 N) m T lt).2 kk (vs 5) V:=hd 5 (by decide)
           have eb:ip (dx (i4 N) m T lt).2 kk (vs 10) V:=hd 10 (by decide)
           have HV:=U (mO ea eb)
           refine aa rfl ?_
           clear hd hW ea eb
           go_simp
           refine HV.out.mono ?_
           rintro e zz ⟨rfl,h6⟩
           exact⟨_,rfl,rfl,h6⟩
          ·intro vs V kk h1 h2 hW hd
           refine aa rfl ?_
           have e11:vs 11=.bool Z:=hd 11 (by decide)
           clear hd hW
           go_simp
           exact⟨rfl,K _ _⟩
         case gdone=>
          intro vs V hW hf
          have f0:vs 0=S (Q ⟨X.x,0,I⟩):=hf 0 (by decide)
          have f1:vs 1=S (Q ⟨qb,1,I⟩):=hf 1 (by decide)
          have f2:vs 2=.int .i64 (T:Int):=hf 2 (by decide)
          have f3:vs 3=.int .i64 (aM lt):=hf 3 (by decide)
          have f4:vs 4=.bool lt:=hf 4 (by decide)
          have f6:vs 6=S (Q ⟨Y.y,0,I⟩):=hf 6 (by decide)
          have f7:vs 7=S (Q ⟨qb,1,I⟩):=hf 7 (by decide)
          have f8:vs 8=.int .i64 (T:Int):=hf 8 (by decide)
          have f9:vs 9=.int .i64 (aM lt):=hf 9 (by decide)
          have f11:vs 11=.bool Z:=hf 11 (by decide)
          have f12:vs 12=.bool O:=hf 12 (by decide)
          simp only[f0,f1,f2,f3,f4,f6,f7,f8,f9,f11,f12]
          clear f0 f1 f2 f3 f4 f6 f7 f8 f9 f11 f12
          generalize vs 5=rx at *
          generalize vs 10=ry at *
          obtain⟨-,-,M3,Y4,hy4,hT4⟩:iQ W wd (i4 N) { X with M:=M } Y' m (dx (i4 N) m T lt).1 qb #[.int .i64 kd,.int .i64 (T:Int),.int .i64 L] 2 V:=hW
          have hyF:Y4.y=Y.y:=hy4.trans HO.out.2.2.1
          have HAl:Hid (Calls Tryz.prog 26 #[S (Q ⟨X.x,0,I⟩),S (Q ⟨Y.y,0,I⟩)] V fun e w'=>e=.returned (.bool Z)/\Below V.heap.size V w'):=U (by
           have h9:=tE hT4.ex hT4.ey
           rw[hyF] at h9
           exact h9)
          have HT4:=U hT4
          clear hf hT4 hy4
          go_wp2_with fail
          refine HAl.out.mono ?_
          rintro e v9 ⟨rfl,hv9⟩
          have hT9:=HT4.out.below hv9
          clear HAl HT4 hv9
          go_wp2
          go_roundw
          case rel=>exact⟨i+1,M3,Y4,_,by omega,by go_num,hyF,hT9⟩
          case measure=>simp[intOf];omega
       ·go_wp2
        go_roundw
        case rel=>exact⟨i+1,M,Y',m,by omega,by go_num,HO.out.2.2.1,HO.out.2.1⟩
        case measure=>simp[intOf];omega
      ·go_wp2
       go_roundw
       case rel=>exact⟨i+1,M,Y',m,by omega,by go_num,HO.out.2.2.1,HO.out.2.1⟩
       case measure=>simp[intOf];omega
     ·obtain rfl:i=l2.length:=by omega
      have hbe:=hT.bel
      clear hT
      go_wp2_with fail
      refine(HAw.out _ (hbe)).mono ?_
      rintro e w9 ⟨rfl,hw9⟩
      have hf:=(hbe).trans (hw9.mono (hbe).size)
      go_wp2
      go_ret
      exact⟨rfl,hf⟩
   ·have hf1:150<l2.length:=by omega
    go_wp2_with fail
    refine(HAw.out _ (hyb)).mono ?_
    rintro e w9 ⟨rfl,hw9⟩
    have hf:=(hyb).trans (hw9.mono (hyb).size)
    go_wp2
    go_ret
    exact⟨rfl,hf⟩
  ·have hf8:8<N:=by omega
   go_wp2_with fail
   refine(HAw.out _ (hyb)).mono ?_
   rintro e w9 ⟨rfl,hw9⟩
   have hf:=(hyb).trans (hw9.mono (hyb).size)
   go_wp2
   go_ret
   exact⟨rfl,hf⟩
 ·have HD:=U (Ai x0 x1 W hn)
  clear hn
  unfold Fr at HD
  go_enter Tryz.func7,Tryz.ntmps7
  go_wp2_with fail
  refine HD.out.mono ?_
  rintro e y ⟨rfl,hy⟩
  have hyb:=hy.alloc (o:=R #[P I 0 0,.int .i64 0,.int .i64 0,P I 0 0,P I 0 0,.int .i64 0,P I 0 0] 37) hy.size
  clear HD
  go_wp2_with fail
  refine(HAw.out _ (hyb)).mono ?_
  rintro e w9 ⟨rfl,hw9⟩
  have hf:=(hyb).trans (hw9.mono (hyb).size)
  go_wp2
  go_ret
  exact⟨rfl,hf⟩
theorem lifted (os:Os)(started:os.Started)(H:Type)(enc:TypeId×Value->H):
 ReturnsInHanded {} Tryz.checked os 7 .any (fun w args=>(Rows.ticketRunsSpec.pre enc Tryz.prog Tryz.f7 [] O w args/\laidMetH Tryz.prog Rows.ticketRunsRow.laid w)/\sizedMet enc Tryz.prog Tryz.f7 (OpenSpec.ofChange Rows.ticketRunsSpec) O w args)
  (Rows.ticketRunsSpec.post enc Tryz.prog Tryz.f7 O Z O O):=by
 refine oU (C:=Tryz.checked) (X:=fun w _=>laidMetH Tryz.prog Rows.ticketRunsRow.laid w) (fun _ _ _ hh h=>h.of_heap hh) own started (by kernel_rfl) Tryz.func7
  (ChangeSpec.witness_shaped (enc:=enc) (C:=Tryz.checked) (os:=os) (X:=fun w _=>laidMetH Tryz.prog Rows.ticketRunsRow.laid w) O (World.laidAll Tryz.prog os Rows.ticketRunsRow.laid) #[.int .i64 0,.int .u32 0,P I 0 0] 8 (World.laidAll_os _ _ _)
   (World.shaped_of_ZipB (by kernel_rfl) (by kernel_rfl)) (by kernel_rfl) (by kernel_rfl) (by kernel_rfl)
   (by rw[MakeChecks.laidMetH_plain _ _ _ (by kernel_rfl)];exact laidMet_laidAll _ (by kernel_rfl) (by kernel_rfl))) ?_
 intro W base args ds gs before hval0 hW hL hsh
 have hval:∀ (j:Nat) t v,Tryz.f7.params[j]?=Q t->args[j]?=Q v->Value.okWide Tryz.prog W .any base t v:=hval0
 have hW':=hW
 obtain⟨p,q,hA0,hV,rfl,_,_⟩:=hW
 have hA:DataW.TrodAll enc Tryz.prog W 0 (fun _=>Z) Z Tryz.f7.params.toList args.toList ds p:=hA0
 rw[Tryz.params7] at hA hval
 obtain⟨v0,vs0,d0,ds0,p0,q0,hargs,rfl,rfl,h0,r0⟩:=trodAll_cons hA
 obtain⟨v1,vs1,d1,ds1,p1,q1,rfl,rfl,rfl,h1,r1⟩:=trodAll_cons r0
 obtain⟨v2,vs2,d2,ds2,p2,q2,rfl,rfl,rfl,h2,r2⟩:=trodAll_cons r1
 obtain⟨rfl,rfl,rfl⟩:=trodAll_nil r2
 obtain rfl:args=#[v0,v1,v2]:=by cases args;simp_all
 obtain⟨rfl,rfl⟩:=trodVars_none hV
 have k0:=h0
 have lt0:∀ x∈p0,x.block<W.heap.size:=by obtain⟨m,hm⟩:=k0;exact DataW.trod_lt m _ _ _ hm
 obtain⟨x0,rfl,rfl,rfl,f0⟩:=open_int Tryz.underlying3 (hval 0 3 v0 rfl rfl) h0
 have k1:=h1
 have lt1:∀ x∈p1,x.block<W.heap.size:=by obtain⟨m,hm⟩:=k1;exact DataW.trod_lt m _ _ _ hm
 obtain⟨x1,rfl,rfl,rfl,f1⟩:=open_int Tryz.underlying22 (hval 1 22 v1 rfl rfl) h1
 have k2:=h2
 have lt2:∀ x∈p2,x.block<W.heap.size:=by obtain⟨m,hm⟩:=k2;exact DataW.trod_lt m _ _ _ hm
 obtain⟨l2,a2,cap2,rfl,S2,hb2⟩:=xB (hval 2 45 v2 rfl rfl) h2
 clear hA0 hval0
 rw[MakeChecks.laidMetH_plain _ _ _ (by kernel_rfl)] at hL
 refine(walk x0 x1 l2 a2 cap2 f0 f1 W S2 hb2 (D6 hL hsh)).mono fun e W' ⟨he,bel⟩=>?_
 subst he
 exact⟨_,rfl,_,_,_,[],_,[],hW',trodAll_mk1 (shut_bool Tryz.underlying4 _),(trodAll_cons_mk (Below.trod pD (by kernel_rfl) (of_decide_eq_true (by kernel_rfl)) k0 bel lt0) (trodAll_cons_mk (Below.trod pD (by kernel_rfl) (of_decide_eq_true (by kernel_rfl)) k1 bel lt1) (trodAll_cons_mk (Below.trod pD (by kernel_rfl) (of_decide_eq_true (by kernel_rfl)) k2 bel lt2) trodAll_mk0))),rfl,bel.frame _,fun h=>by cases h⟩
theorem over:Rows.ticketRunsRow.holds Tryz.pinned (OpenSpec.ofChange Rows.ticketRunsSpec):=
 OpenClaim.holds_of_wide 7 Tryz.f7 rfl rfl rfl rfl rfl rfl rfl ⟨rfl,rfl,rfl,rfl,rfl⟩ rfl rfl rfl rfl rfl (by kernel_rfl) Tryz.func7 (by kernel_rfl)
  (of_decide_eq_true (by kernel_rfl)) (by unfold Func.isWrapper;first | (rw[if_pos (by decide +kernel)];kernel_rfl) | (rw[if_neg (by decide +kernel)];exact⟨rfl,rfl⟩))
  (fun os started H enc _=>lifted os started H enc)
theorem proved:Rows.TicketRunsCardSaid:=
 Claim7.holds_tied_plain_at .later [] Rows.ticketRunsCard.laidKinds Z Rows.ticketRunsCard.stood.harness Z over (fun _ h=>by cases h) (by kernel_rfl) (fun _ h=>by cases h) ticketRuns_row_tie rfl ⟨rfl,rfl⟩ (by kernel_rfl) rfl
  (fun f fn hf hfn=>by
   obtain rfl:f=7:=Option.some.inj ((show Tryz.prog.funcNamed Rows.ticketRunsRow.func=Q 7 by kernel_rfl).symm.trans hf) |>.symm
   obtain rfl:fn=Tryz.f7:=(Option.some.inj (Tryz.func7.symm.trans hfn)).symm
   exact⟨by kernel_rfl,fun j t ht=>by
    rw[Tryz.params7] at ht
    have hm:t∈[3,22,45]:=by simpa using Array.mem_of_getElem? ht
    have hall:([3,22,45].all fun u=>!Tryz.prog.wantsStandIn u)=Z:=by kernel_rfl
    exact(show Tryz.prog.wantsStandIn t=O by simpa using List.all_eq_true.1 hall t hm)⟩)
  (by kernel_rfl)
#print axioms proved
end Go.Proofs.YthdgehcghklflaaGreatDoor.ticketRuns
