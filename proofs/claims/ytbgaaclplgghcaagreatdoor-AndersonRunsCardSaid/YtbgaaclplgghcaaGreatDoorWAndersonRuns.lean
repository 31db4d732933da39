/- For any lock that may be asked for, and whatever is done with it: AndersonRuns returns true: the lock at work does, step by step, what the document's does: all cells, cores and nodes are the same; no condition. A tied card: the listed variables of the library are tied to the program's text. -/
import Derived.Test.YtbgaaclplgghcaaGreatDoorWAnA
import Derived.Test.YtbgaaclplgghcaaGreatDoorWEyU
import Derived.Test.YtbgaaclplgghcaaGreatDoorWExP
import Derived.Test.YtbgaaclplgghcaaGreatDoorWRuD
import Derived.Test.YtbgaaclplgghcaaGreatDoorWArR
import Derived.ChangeMaps5
set_option linter.unusedVariables false
set_option maxHeartbeats 16000000
set_option maxRecDepth 100000
open Go.Value renaming int->I,slice->R,pointer->U
open Go.IntKind renaming i64->Q,u32->N
open Option renaming none->O,some->Z
open Bool renaming false->P,true->S
open Go.Obj renaming cells->K
open Go.Lib renaming hid->J
open Go.RowKit.Below renaming refl->G
open Nat renaming le_refl->F
open Go renaming undef->E
namespace Go.Proofs.YtbgaaclplgghcaaGreatDoor.andersonRuns
open Go.Joins Go.ChangeShapes Go.WideShapes Go.ChangeAt Go.RowKit Go.Deep
theorem walk (x0 x1 x2:Int)(l2:List DG)(a2:Option Addr)(cap2:Nat)(u:0<=x2/\x2<4294967296)(W:World)(S2:q9 W.heap.size W a2 l2)(hb2:l2.length<=maxLen)(L:Lb W):
 Calls Tryz.prog 7 #[.agg #[I Q x0,I Q x1,I N x2],R a2 l2.length cap2] W fun e w'=>e=.returned (.bool S)/\Below W.heap.size W w':=by
 have HLB:Hid (∀ V,Below W.heap.size W V->Lb V):=J (fun V hV=>L.below hV)
 have HAw:Hid (∀ V,Below W.heap.size W V->Calls Tryz.prog 12 #[] V fun e w'=>e=.returned (.bool S)/\Below V.heap.size V w'):=J (fun V hV=>yD V (HLB.out V hV))
 have HS:=J S2
 simp only[maxLen] at hb2
 clear S2
 clear L
 have bB:Below W.heap.size W (W.alloc (K #[I Q x0,I Q x1,I N x2] 46)):=(G _ _).alloc (F _) _
 have qB:=Bk.made W 46 #[I Q x0,I Q x1,I N x2]
 by_cases hn:Ff x0 x1
 ·obtain⟨k,init,r7,rfl,HK,HC0,HD⟩:=Dd x0 x1 x2 hn u
  have h1:=HK.ok.n1
  have h64:=HK.ok.n64
  have HKL:Hid (k.l.length<=1000):=J (by have:=HK.ok.parts.2.1;omega)
  have HC:Hid (∀ V,Below W.heap.size W V->Calls Tryz.prog 8 #[I Q (k.n:Int),I Q x1,I N x2] V (Dw V k init r7)):=J fun V hV=>HC0 V (HLB.out V hV)
  replace HD:=J HD
  have HKK:=J HK
  clear hn HC0 HK u
  go_enter Tryz.func7,Tryz.ntmps7
  go_upto_region 1 with fail
  generalize W.alloc (K #[I Q (k.n:Int),I Q x1,I N x2] 46)=z0 at *
  obtain⟨y0,y1,y2⟩:=qB.kY
  clear qB
  go_quiet (fail)
  clear y0 y1 y2
  replace bB:=bB.trans ((jp z0 nq).mono bB.size)
  generalize z0.drewN nq=w0 at *
  go_wp2_with fail
  refine(HD.out w0).mono ?_
  rintro e y ⟨v,rfl,hrv,hy⟩
  have HRV:=J (hrv.less bB.size)
  obtain⟨bL,dL,bS,dS,bI,dI,bR,dR,rfl⟩:=D5 hrv
  have hyb:=(bB.trans (hy.mono bB.size)).alloc (o:=K #[R bL k.l.length dL,I Q k.lo,I Q k.un,R bS k.zs.length dS,R bI init.length dI,I Q k.each,R bR r7.length dR] 37) (bB.trans (hy.mono bB.size)).size
  clear HD hrv
  by_cases h8:k.n<=8
  ·by_cases h150:l2.length<=150
   ·have qw:=Bk.made y 37 #[R bL k.l.length dL,I Q k.lo,I Q k.un,R bS k.zs.length dS,R bI init.length dI,I Q k.each,R bR r7.length dR]
    obtain⟨yb,hyb0⟩:∃ yb,y.heap.size=yb:=⟨_,rfl⟩
    rw[hyb0] at qw
    have HRV2:=J (HRV.out.below ((G y.heap.size y).alloc (o:=K #[R bL k.l.length dL,I Q k.lo,I Q k.un,R bS k.zs.length dS,R bI init.length dI,I Q k.each,R bR r7.length dR] 37) (F _)))
    clear HRV
    go_upto_region 5 with fail
    try rw[hyb0]
    generalize y.alloc (K #[R bL k.l.length dL,I Q k.lo,I Q k.un,R bS k.zs.length dS,R bI init.length dI,I Q k.each,R bR r7.length dR] 37)=z at *
    go_wp2_with fail
    refine(HC.out z hyb).mono ?_
    rintro e z1 ⟨v,rfl,hsv,hz1⟩
    have HSV:=J hsv
    obtain⟨aL,cL,aS,cS,aI,cI,aR,cR,rfl⟩:=BJ hsv
    clear hsv
    have b1:=hyb.trans (hz1.mono hyb.size)
    have hza:Below z1.heap.size z1 (z1.alloc (K #[R aL k.l.length cL,I Q k.lo,I Q k.un,R aS k.zs.length cS,R aI init.length cI,I Q k.each,R aR r7.length cR] 29)):=(G _ _).alloc (F _) _
    have q2:=Bk.made z1 29 #[R aL k.l.length cL,I Q k.lo,I Q k.un,R aS k.zs.length cS,R aI init.length cI,I Q k.each,R aR r7.length cR]
    have b2:=b1.trans (hza.mono b1.size)
    obtain⟨zb,hzb⟩:∃ zb,z1.heap.size=zb:=⟨_,rfl⟩
    rw[hzb] at q2
    have HSV2:=J (HSV.out.below hza)
    clear HC b1 HSV
    go_upto_region 6 with fail
    try rw[hzb]
    generalize z1.alloc (K #[R aL k.l.length cL,I Q k.lo,I Q k.un,R aS k.zs.length cS,R aI init.length cI,I Q k.each,R aR r7.length cR] 29)=z2 at *
    obtain⟨y0,y1,y2,y3,y4,y5,y6⟩:=q2.Bq
    have HNx:=J (Fk (w:=z2) (k:=k) (init:=init) (r7:=r7) HKK.out.ok HSV2.out HKK.out.il HKK.out.iu HKK.out.rl HKK.out.ru)
    have qw2:Bk z2 yb 37 #[R bL k.l.length dL,I Q k.lo,I Q k.un,R bS k.zs.length dS,R bI init.length dI,I Q k.each,R bR r7.length dR]:=((hz1.trans (hza.mono hz1.size)).block _ (Bk.lt qw)).trans qw
    have HRV3:=J (HRV2.out.below (hz1.trans (hza.mono hz1.size)))
    clear hza hzb hz1 qw HRV2 HSV2
    go_wp2_with fail
    refine HNx.out.mono ?_
    rintro e w5 ⟨X,rfl,hX,hw5,hXo⟩
    have b5:=b2.trans (hw5.mono b2.size)
    have HX5:=J hX
    have HXO:Hid (∀ i,X.Own k.n i->W.heap.size<=i):=J fun i hi=>Nat.le_trans b2.size (hXo i hi)
    have qw5:Bk w5 yb 37 #[R bL k.l.length dL,I Q k.lo,I Q k.un,R bS k.zs.length dS,R bI init.length dI,I Q k.each,R bR r7.length dR]:=(hw5.block _ (Bk.lt qw2)).trans qw2
    obtain⟨v0,v1,v2,v3,v4,v5,v6⟩:=qw5.Bq
    have HNy:=J (DM (w:=w5) (base:=W.heap.size) (k:=k) (init:=init) (r7:=r7) b5.size HKK.out.ok (HRV3.out.below hw5) HKK.out.il HKK.out.iu HKK.out.rl HKK.out.ru)
    clear HNx hX hXo qw2 qw5 HRV3 hw5 y0 y1 y2 y3 y4 y5 y6
    go_wp2_with fail
    refine HNy.out.mono ?_
    rintro e w7 ⟨Y,rfl,hY,hw7,hYo⟩
    have HT:=J (zQ b5 HX5.out HXO.out hY hw7 hYo)
    clear HNy HX5 HXO hY hw7 hYo v0 v1 v2 v3 v4 v5 v6 b5 b2 hyb
    go_wp2
    go_loopw [71] (fun j wr=>∃ (i:Nat) (M:PM) (Y':YP) (m:Mc),i<=l2.length/\j=I Q i/\Y'.y=Y.y/\zF W k { X with M:=M } Y' m m wr) (fun j _=>l2.length-(intOf j).toNat)
    case atStart=>exact⟨0,X.M,Y,_,Nat.zero_le _,rfl,rfl,HT.out⟩
    case round=>
     clear HT
     obtain⟨i,M,Y',m,hi,rfl,hyy,hT⟩:=hrel
     by_cases hlt:i<l2.length
     ·obtain⟨bb,off,rfl,hbb,hcs⟩:=HS.out.grow hT.bel (F _) (F _) (by omega)
      obtain⟨o,ho⟩:∃ o,l2[i]?=Z o:=⟨_,List.getElem?_eq_getElem hlt⟩
      obtain⟨r0,r1,r2⟩:=hcs i o ho
      obtain⟨kd,T0,L⟩:=o
      simp only at r0 r1 r2
      clear hcs ho
      have hBq:=Bk.made wr 61 #[I Q kd,I Q T0,I Q L]
      have hA:Below wr.heap.size wr (wr.alloc (K #[I Q kd,I Q T0,I Q L] 61)):=(G _ _).alloc (F _) _
      have HO:=J (And.intro hBq (And.intro (hT.below hA) (And.intro hyy trivial)))
      clear hBq hA hT hyy
      go_upto_region 13 with fail
      generalize wr.alloc (K #[I Q kd,I Q T0,I Q L] 61)=wd at HO ⊢
      generalize wr.heap.size=qb at HO ⊢
      clear r0 r1 r2
      obtain⟨s0,s1,s2⟩:=HO.out.1.kY
      by_cases hT0:0<=T0
      ·by_cases hT1:T0<k.n
       ·obtain⟨T,rfl⟩:=Int.eq_ofNat_of_zero_le hT0
        have ht:T<k.n:=by omega
        by_cases hk12:kd=1\/kd=2
        ·rcases hk12 with rfl|rfl
         ·have HX:=J (fun V (hV:iX W wd k { X with M:=M } Y' m (co k m T P).1 qb #[I Q 1,I Q (T:Int),I Q L] 0 V)=>zn HO.out.2.1 (fun V h=>yL h T ht P) V hV)
          have HY:=J (fun V (hV:iX W wd k { X with M:=M } Y' m (co k m T P).1 qb #[I Q 1,I Q (T:Int),I Q L] 1 V)=>zm (o:=(co k m T P).2) HO.out.2.1 (fun V h=>yK h T ht P) V hV)
          rw[HO.out.2.2.1] at HY
          go_upto_region 15 with fail
          refine fi [6,13] (iX W wd k { X with M:=M } Y' m (co k m T P).1 qb #[I Q 1,I Q (T:Int),I Q L]) (wD wd) (fun vs=>{ tmps:=#[.agg #[I Q (k.n:Int),I Q x1,I N x2],R (Z ⟨bb,off,O⟩) l2.length cap2,U (Z ⟨W.heap.size,0,O⟩),E,u4,I Q (k.n:Int),I Q x1,I N x2,U (Z ⟨yb,0,O⟩),.bool S,U (Z ⟨zb,0,O⟩),I Q 0,U (Z ⟨X.x,0,O⟩),I Q 0,U (Z ⟨Y.y,0,O⟩),E,U (Z ⟨qb,0,O⟩),u17,U (Z ⟨W.heap.size,0,O⟩),I Q (k.n:Int),U (Z ⟨W.heap.size,1,O⟩),I Q x1,U (Z ⟨W.heap.size,2,O⟩),I N x2,.tuple #[.agg #[R bL k.l.length dL,I Q k.lo,I Q k.un,R bS k.zs.length dS,R bI init.length dI,I Q (k.each:Int),R bR r7.length dR],.bool S],I Q (k.n:Int),I Q x1,I N x2,.tuple #[.agg #[R bL k.l.length dL,I Q k.lo,I Q k.un,R bS k.zs.length dS,R bI init.length dI,I Q (k.each:Int),R bR r7.length dR],.bool S],.agg #[R bL k.l.length dL,I Q k.lo,I Q k.un,R bS k.zs.length dS,R bI init.length dI,I Q (k.each:Int),R bR r7.length dR],.bool S,.bool S,.bool P,.bool P,I Q (k.n:Int),.bool (decide (8<(k.n:Int))),.bool (decide (8<(k.n:Int))),.bool (decide (8<(k.n:Int))),R (Z ⟨bb,off,O⟩) l2.length cap2,I Q (l2.length:Int),.bool (decide (150<(l2.length:Int))),.bool (decide (8<(k.n:Int)) || decide (150<(l2.length:Int))),E,.tuple #[.agg #[R aL k.l.length cL,I Q k.lo,I Q k.un,R aS k.zs.length cS,R aI init.length cI,I Q (k.each:Int),R aR r7.length cR],I Q 0],I Q (k.n:Int),I Q x1,I N x2,.tuple #[.agg #[R aL k.l.length cL,I Q k.lo,I Q k.un,R aS k.zs.length cS,R aI init.length cI,I Q (k.each:Int),R aR r7.length cR],I Q 0],.agg #[R aL k.l.length cL,I Q k.lo,I Q k.un,R aS k.zs.length cS,R aI init.length cI,I Q (k.each:Int),R aR r7.length cR],I Q 0,.tuple #[U (Z ⟨X.x,0,O⟩),I Q 0],.agg #[R aL k.l.length cL,I Q k.lo,I Q k.un,R aS k.zs.length cS,R aI init.length cI,I Q (k.each:Int),R aR r7.length cR],I Q (k.n:Int),.tuple #[U (Z ⟨X.x,0,O⟩),I Q 0],U (Z ⟨X.x,0,O⟩),I Q 0,I Q 0,.bool P,.bool P,I Q 0,.bool P,.bool P,.bool P,U (Z ⟨X.x,0,O⟩),.bool P,.bool P,.agg #[R bL k.l.length dL,I Q k.lo,I Q k.un,R bS k.zs.length dS,R bI init.length dI,I Q (k.each:Int),R bR r7.length dR],I Q (k.n:Int),U (Z ⟨Y.y,0,O⟩),R (Z ⟨bb,off,O⟩) l2.length cap2,I Q (l2.length:Int),I Q (i:Int),.bool S,U (Z ⟨bb,off+i*3,O⟩),.agg #[I Q 1,I Q (T:Int),I Q L],U (Z ⟨qb,1,O⟩),I Q (T:Int),.bool (decide ((T:Int)<0)),.bool (decide ((T:Int)<0)),U (Z ⟨qb,1,O⟩),I Q (T:Int),I Q (k.n:Int),.bool (decide (k.n<=T)),.bool (decide ((T:Int)<0) || decide (k.n<=T)),U (Z ⟨qb,0,O⟩),I Q 1,.bool S,.bool S,E,E,E,.bool S,vs 0,vs 1,vs 2,vs 3,vs 4,vs 5,vs 6,vs 7,vs 8,vs 9,vs 10,vs 11,vs 12,vs 13,vs 14,vs 15,u108,u109,u110,u111,u112,u113,u114,u115,u116,u117,u118,u119,u120,u121,u122,u123,u124,u125,u126,u127,u128,u129,E],defers:=[] }) (qZ [(6,iD wd (co k m T P).2),(13,iC (co k m T P).2)] [U (Z ⟨X.x,0,O⟩),U (Z ⟨qb,1,O⟩),I Q (T:Int),U (Z ⟨qb,0,O⟩),I Q 1,.bool P,E,U (Z ⟨Y.y,0,O⟩),U (Z ⟨qb,1,O⟩),I Q (T:Int),U (Z ⟨qb,0,O⟩),I Q 1,I Q 0,E,.bool S,.bool P]) ?ghm ?ghr ?ghc ?ghnd ?ghlit ?gh0 ?ghW ?ghF ?ghS ?gops ?gdone
          case ghm=>kernel_rfl
          case ghr=>kernel_rfl
          case ghc=>kernel_rfl
          case ghnd=>decide
          case ghlit=>intro vs;rfl
          case gh0=>exact⟨HO.out.1,F _,G _ _⟩
          case ghW=>exact fun kk V V2 h hb=>h.below hb
          case ghF=>exact iq (by
           intro p0 hp
           simp only[List.mem_cons,List.not_mem_nil,or_false] at hp
           rcases hp with rfl|rfl
           ·exact fun k v V V2 h hb=>iD.below (j:=k) h hb
           ·exact fun k v V V2 h hb=>iC.below (j:=k) h hb)
          case ghS=>exact fun kk V V2 _ hs=>kz (by
           intro p0 hp
           simp only[List.mem_cons,List.not_mem_nil,or_false] at hp
           rcases hp with rfl|rfl
           ·exact fun v h=>iD.keep (j:=kk) h hs
           ·exact fun v h=>iC.keep (j:=kk) h hs)
          case gops=>
           refine⟨?_,?_,?_,?_,?_,?_,?_,?_,?_,?_,?_,?_,?_,?_,?_,?_,trivial⟩
           ·intro vs V kk h1 h2 hW hd
            refine aa rfl ?_
            clear hd hW
            go_simp
            exact⟨rfl,G _ _⟩
           ·intro vs V kk h1 h2 hW hd
            refine aa rfl ?_
            clear hd hW
            go_simp
            exact⟨rfl,G _ _⟩
           ·intro vs V kk h1 h2 hW hd
            refine aa rfl ?_
            have e1:vs 1=U (Z ⟨qb,1,O⟩):=hd 1 (by decide)
            have y1:V.cell? ⟨qb,1,O⟩=Z (I Q (T:Int)):=hW.1.cell 1
            clear hd hW
            go_simp
            exact⟨rfl,G _ _⟩
           ·intro vs V kk h1 h2 hW hd
            refine aa rfl ?_
            clear hd hW
            go_simp
            exact⟨rfl,G _ _⟩
           ·intro vs V kk h1 h2 hW hd
            refine aa rfl ?_
            have e3:vs 3=U (Z ⟨qb,0,O⟩):=hd 3 (by decide)
            have y0:V.cell? ⟨qb,0,O⟩=Z (I Q 1):=hW.1.cell 0
            clear hd hW
            go_simp
            exact⟨rfl,G _ _⟩
           ·intro vs V kk h1 h2 hW hd
            refine aa rfl ?_
            have e4:vs 4=I Q 1:=hd 4 (by decide)
            clear hd hW
            go_simp
            exact⟨rfl,G _ _⟩
           ·intro vs V hW hd
            have e0:vs 0=U (Z ⟨X.x,0,O⟩):=hd 0 (by decide)
            have e2:vs 2=I Q (T:Int):=hd 2 (by decide)
            have e5:vs 5=.bool P:=hd 5 (by decide)
            have HV:=J (HX.out V hW)
            refine aO rfl ?_
            clear hd hW
            go_simp
            refine HV.out.mono ?_
            rintro e zz ⟨v9,rfl,h5,h6,h7⟩
            exact⟨_,rfl,h5,h6,h7⟩
           ·intro vs V kk h1 h2 hW hd
            refine aa rfl ?_
            clear hd hW
            go_simp
            exact⟨rfl,G _ _⟩
           ·intro vs V kk h1 h2 hW hd
            refine aa rfl ?_
            clear hd hW
            go_simp
            exact⟨rfl,G _ _⟩
           ·intro vs V kk h1 h2 hW hd
            refine aa rfl ?_
            have e8:vs 8=U (Z ⟨qb,1,O⟩):=hd 8 (by decide)
            have y1:V.cell? ⟨qb,1,O⟩=Z (I Q (T:Int)):=hW.1.cell 1
            clear hd hW
            go_simp
            exact⟨rfl,G _ _⟩
           ·intro vs V kk h1 h2 hW hd
            refine aa rfl ?_
            clear hd hW
            go_simp
            exact⟨rfl,G _ _⟩
           ·intro vs V kk h1 h2 hW hd
            refine aa rfl ?_
            have e10:vs 10=U (Z ⟨qb,0,O⟩):=hd 10 (by decide)
            have y0:V.cell? ⟨qb,0,O⟩=Z (I Q 1):=hW.1.cell 0
            clear hd hW
            go_simp
            exact⟨rfl,G _ _⟩
           ·intro vs V kk h1 h2 hW hd
            refine aa rfl ?_
            have e11:vs 11=I Q 1:=hd 11 (by decide)
            clear hd hW
            go_simp
            exact⟨rfl,G _ _⟩
           ·intro vs V hW hd
            have e7:vs 7=U (Z ⟨Y.y,0,O⟩):=hd 7 (by decide)
            have e9:vs 9=I Q (T:Int):=hd 9 (by decide)
            have e12:vs 12=I Q 0:=hd 12 (by decide)
            have HV:=J (HY.out V hW)
            refine aO rfl ?_
            clear hd hW
            go_simp
            refine HV.out.mono ?_
            rintro e zz ⟨v9,rfl,h5,h6,h7⟩
            exact⟨_,rfl,h5,h6,h7⟩
           ·intro vs V kk h1 h2 hW hd
            have ea:iD wd (co k m T P).2 kk (vs 6) V:=hd 6 (by decide)
            have eb:iC (co k m T P).2 kk (vs 13) V:=hd 13 (by decide)
            have HV:=J (mM ea eb)
            refine aa rfl ?_
            clear hd hW ea eb
            go_simp
            refine HV.out.mono ?_
            rintro e zz ⟨rfl,h6⟩
            exact⟨_,rfl,rfl,h6⟩
           ·intro vs V kk h1 h2 hW hd
            refine aa rfl ?_
            have e14:vs 14=.bool S:=hd 14 (by decide)
            clear hd hW
            go_simp
            exact⟨rfl,G _ _⟩
          case gdone=>
           intro vs V hW hf
           have f0:vs 0=U (Z ⟨X.x,0,O⟩):=hf 0 (by decide)
           have f1:vs 1=U (Z ⟨qb,1,O⟩):=hf 1 (by decide)
           have f2:vs 2=I Q (T:Int):=hf 2 (by decide)
           have f3:vs 3=U (Z ⟨qb,0,O⟩):=hf 3 (by decide)
           have f4:vs 4=I Q 1:=hf 4 (by decide)
           have f5:vs 5=.bool P:=hf 5 (by decide)
           have f7:vs 7=U (Z ⟨Y.y,0,O⟩):=hf 7 (by decide)
           have f8:vs 8=U (Z ⟨qb,1,O⟩):=hf 8 (by decide)
           have f9:vs 9=I Q (T:Int):=hf 9 (by decide)
           have f10:vs 10=U (Z ⟨qb,0,O⟩):=hf 10 (by decide)
           have f11:vs 11=I Q 1:=hf 11 (by decide)
           have f12:vs 12=I Q 0:=hf 12 (by decide)
           have f14:vs 14=.bool S:=hf 14 (by decide)
           have f15:vs 15=.bool P:=hf 15 (by decide)
           simp only[f0,f1,f2,f3,f4,f5,f7,f8,f9,f10,f11,f12,f14,f15]
           clear f0 f1 f2 f3 f4 f5 f7 f8 f9 f10 f11 f12 f14 f15
           generalize vs 6=rx at *
           generalize vs 13=ry at *
           obtain⟨-,-,M3,Y4,hy4,hT4⟩:iX W wd k { X with M:=M } Y' m (co k m T P).1 qb #[I Q 1,I Q (T:Int),I Q L] 2 V:=hW
           have hyF:Y4.y=Y.y:=hy4.trans HO.out.2.2.1
           have HAl:Hid (Calls Tryz.prog 26 #[U (Z ⟨X.x,0,O⟩),U (Z ⟨Y.y,0,O⟩)] V fun e w'=>e=.returned (.bool S)/\Below V.heap.size V w'):=J (by
            have h9:=tm hT4.ex hT4.ey
            rw[hyF] at h9
            exact h9)
           have HT4:=J hT4
           clear hf hT4 hy4
           go_wp2_with fail
           refine HAl.out.mono ?_
           rintro e v9 ⟨rfl,hv9⟩
           have hT9:=HT4.out.below hv9
           clear HAl HT4 hv9
           go_wp2
           go_roundw
           case rel=>exact⟨i+1,M3,Y4,_,by omega,by go_num,hyF,hT9⟩
           case measure=>simp[intOf];omega
         ·have HX:=J (fun V (hV:iX W wd k { X with M:=M } Y' m (co k m T S).1 qb #[I Q 2,I Q (T:Int),I Q L] 0 V)=>zn HO.out.2.1 (fun V h=>yL h T ht S) V hV)
          have HY:=J (fun V (hV:iX W wd k { X with M:=M } Y' m (co k m T S).1 qb #[I Q 2,I Q (T:Int),I Q L] 1 V)=>zm (o:=(co k m T S).2) HO.out.2.1 (fun V h=>yK h T ht S) V hV)
          rw[HO.out.2.2.1] at HY
          go_upto_region 15 with fail
          refine fi [6,13] (iX W wd k { X with M:=M } Y' m (co k m T S).1 qb #[I Q 2,I Q (T:Int),I Q L]) (wD wd) (fun vs=>{ tmps:=#[.agg #[I Q (k.n:Int),I Q x1,I N x2],R (Z ⟨bb,off,O⟩) l2.length cap2,U (Z ⟨W.heap.size,0,O⟩),E,u4,I Q (k.n:Int),I Q x1,I N x2,U (Z ⟨yb,0,O⟩),.bool S,U (Z ⟨zb,0,O⟩),I Q 0,U (Z ⟨X.x,0,O⟩),I Q 0,U (Z ⟨Y.y,0,O⟩),E,U (Z ⟨qb,0,O⟩),u17,U (Z ⟨W.heap.size,0,O⟩),I Q (k.n:Int),U (Z ⟨W.heap.size,1,O⟩),I Q x1,U (Z ⟨W.heap.size,2,O⟩),I N x2,.tuple #[.agg #[R bL k.l.length dL,I Q k.lo,I Q k.un,R bS k.zs.length dS,R bI init.length dI,I Q (k.each:Int),R bR r7.length dR],.bool S],I Q (k.n:Int),I Q x1,I N x2,.tuple #[.agg #[R bL k.l.length dL,I Q k.lo,I Q k.un,R bS k.zs.length dS,R bI init.length dI,I Q (k.each:Int),R bR r7.length dR],.bool S],.agg #[R bL k.l.length dL,I Q k.lo,I Q k.un,R bS k.zs.length dS,R bI init.length dI,I Q (k.each:Int),R bR r7.length dR],.bool S,.bool S,.bool P,.bool P,I Q (k.n:Int),.bool (decide (8<(k.n:Int))),.bool (decide (8<(k.n:Int))),.bool (decide (8<(k.n:Int))),R (Z ⟨bb,off,O⟩) l2.length cap2,I Q (l2.length:Int),.bool (decide (150<(l2.length:Int))),.bool (decide (8<(k.n:Int)) || decide (150<(l2.length:Int))),E,.tuple #[.agg #[R aL k.l.length cL,I Q k.lo,I Q k.un,R aS k.zs.length cS,R aI init.length cI,I Q (k.each:Int),R aR r7.length cR],I Q 0],I Q (k.n:Int),I Q x1,I N x2,.tuple #[.agg #[R aL k.l.length cL,I Q k.lo,I Q k.un,R aS k.zs.length cS,R aI init.length cI,I Q (k.each:Int),R aR r7.length cR],I Q 0],.agg #[R aL k.l.length cL,I Q k.lo,I Q k.un,R aS k.zs.length cS,R aI init.length cI,I Q (k.each:Int),R aR r7.length cR],I Q 0,.tuple #[U (Z ⟨X.x,0,O⟩),I Q 0],.agg #[R aL k.l.length cL,I Q k.lo,I Q k.un,R aS k.zs.length cS,R aI init.length cI,I Q (k.each:Int),R aR r7.length cR],I Q (k.n:Int),.tuple #[U (Z ⟨X.x,0,O⟩),I Q 0],U (Z ⟨X.x,0,O⟩),I Q 0,I Q 0,.bool P,.bool P,I Q 0,.bool P,.bool P,.bool P,U (Z ⟨X.x,0,O⟩),.bool P,.bool P,.agg #[R bL k.l.length dL,I Q k.lo,I Q k.un,R bS k.zs.length dS,R bI init.length dI,I Q (k.each:Int),R bR r7.length dR],I Q (k.n:Int),U (Z ⟨Y.y,0,O⟩),R (Z ⟨bb,off,O⟩) l2.length cap2,I Q (l2.length:Int),I Q (i:Int),.bool S,U (Z ⟨bb,off+i*3,O⟩),.agg #[I Q 2,I Q (T:Int),I Q L],U (Z ⟨qb,1,O⟩),I Q (T:Int),.bool (decide ((T:Int)<0)),.bool (decide ((T:Int)<0)),U (Z ⟨qb,1,O⟩),I Q (T:Int),I Q (k.n:Int),.bool (decide (k.n<=T)),.bool (decide ((T:Int)<0) || decide (k.n<=T)),U (Z ⟨qb,0,O⟩),I Q 2,.bool P,.bool P,U (Z ⟨qb,0,O⟩),I Q 2,.bool S,.bool S,vs 0,vs 1,vs 2,vs 3,vs 4,vs 5,vs 6,vs 7,vs 8,vs 9,vs 10,vs 11,vs 12,vs 13,vs 14,vs 15,u108,u109,u110,u111,u112,u113,u114,u115,u116,u117,u118,u119,u120,u121,u122,u123,u124,u125,u126,u127,u128,u129,E],defers:=[] }) (qZ [(6,iD wd (co k m T S).2),(13,iC (co k m T S).2)] [U (Z ⟨X.x,0,O⟩),U (Z ⟨qb,1,O⟩),I Q (T:Int),U (Z ⟨qb,0,O⟩),I Q 2,.bool S,E,U (Z ⟨Y.y,0,O⟩),U (Z ⟨qb,1,O⟩),I Q (T:Int),U (Z ⟨qb,0,O⟩),I Q 2,I Q 1,E,.bool S,.bool P]) ?ghm ?ghr ?ghc ?ghnd ?ghlit ?gh0 ?ghW ?ghF ?ghS ?gops ?gdone
          case ghm=>kernel_rfl
          case ghr=>kernel_rfl
          case ghc=>kernel_rfl
          case ghnd=>decide
          case ghlit=>intro vs;rfl
          case gh0=>exact⟨HO.out.1,F _,G _ _⟩
          case ghW=>exact fun kk V V2 h hb=>h.below hb
          case ghF=>exact iq (by
           intro p0 hp
           simp only[List.mem_cons,List.not_mem_nil,or_false] at hp
           rcases hp with rfl|rfl
           ·exact fun k v V V2 h hb=>iD.below (j:=k) h hb
           ·exact fun k v V V2 h hb=>iC.below (j:=k) h hb)
          case ghS=>exact fun kk V V2 _ hs=>kz (by
           intro p0 hp
           simp only[List.mem_cons,List.not_mem_nil,or_false] at hp
           rcases hp with rfl|rfl
           ·exact fun v h=>iD.keep (j:=kk) h hs
           ·exact fun v h=>iC.keep (j:=kk) h hs)
          case gops=>
           refine⟨?_,?_,?_,?_,?_,?_,?_,?_,?_,?_,?_,?_,?_,?_,?_,?_,trivial⟩
           ·intro vs V kk h1 h2 hW hd
            refine aa rfl ?_
            clear hd hW
            go_simp
            exact⟨rfl,G _ _⟩
           ·intro vs V kk h1 h2 hW hd
            refine aa rfl ?_
            clear hd hW
            go_simp
            exact⟨rfl,G _ _⟩
           ·intro vs V kk h1 h2 hW hd
            refine aa rfl ?_
            have e1:vs 1=U (Z ⟨qb,1,O⟩):=hd 1 (by decide)
            have y1:V.cell? ⟨qb,1,O⟩=Z (I Q (T:Int)):=hW.1.cell 1
            clear hd hW
            go_simp
            exact⟨rfl,G _ _⟩
           ·intro vs V kk h1 h2 hW hd
            refine aa rfl ?_
            clear hd hW
            go_simp
            exact⟨rfl,G _ _⟩
           ·intro vs V kk h1 h2 hW hd
            refine aa rfl ?_
            have e3:vs 3=U (Z ⟨qb,0,O⟩):=hd 3 (by decide)
            have y0:V.cell? ⟨qb,0,O⟩=Z (I Q 2):=hW.1.cell 0
            clear hd hW
            go_simp
            exact⟨rfl,G _ _⟩
           ·intro vs V kk h1 h2 hW hd
            refine aa rfl ?_
            have e4:vs 4=I Q 2:=hd 4 (by decide)
            clear hd hW
            go_simp
            exact⟨rfl,G _ _⟩
           ·intro vs V hW hd
            have e0:vs 0=U (Z ⟨X.x,0,O⟩):=hd 0 (by decide)
            have e2:vs 2=I Q (T:Int):=hd 2 (by decide)
            have e5:vs 5=.bool S:=hd 5 (by decide)
            have HV:=J (HX.out V hW)
            refine aO rfl ?_
            clear hd hW
            go_simp
            refine HV.out.mono ?_
            rintro e zz ⟨v9,rfl,h5,h6,h7⟩
            exact⟨_,rfl,h5,h6,h7⟩
           ·intro vs V kk h1 h2 hW hd
            refine aa rfl ?_
            clear hd hW
            go_simp
            exact⟨rfl,G _ _⟩
           ·intro vs V kk h1 h2 hW hd
            refine aa rfl ?_
            clear hd hW
            go_simp
            exact⟨rfl,G _ _⟩
           ·intro vs V kk h1 h2 hW hd
            refine aa rfl ?_
            have e8:vs 8=U (Z ⟨qb,1,O⟩):=hd 8 (by decide)
            have y1:V.cell? ⟨qb,1,O⟩=Z (I Q (T:Int)):=hW.1.cell 1
            clear hd hW
            go_simp
            exact⟨rfl,G _ _⟩
           ·intro vs V kk h1 h2 hW hd
            refine aa rfl ?_
            clear hd hW
            go_simp
            exact⟨rfl,G _ _⟩
           ·intro vs V kk h1 h2 hW hd
            refine aa rfl ?_
            have e10:vs 10=U (Z ⟨qb,0,O⟩):=hd 10 (by decide)
            have y0:V.cell? ⟨qb,0,O⟩=Z (I Q 2):=hW.1.cell 0
            clear hd hW
            go_simp
            exact⟨rfl,G _ _⟩
           ·intro vs V kk h1 h2 hW hd
            refine aa rfl ?_
            have e11:vs 11=I Q 2:=hd 11 (by decide)
            clear hd hW
            go_simp
            exact⟨rfl,G _ _⟩
           ·intro vs V hW hd
            have e7:vs 7=U (Z ⟨Y.y,0,O⟩):=hd 7 (by decide)
            have e9:vs 9=I Q (T:Int):=hd 9 (by decide)
            have e12:vs 12=I Q 1:=hd 12 (by decide)
            have HV:=J (HY.out V hW)
            refine aO rfl ?_
            clear hd hW
            go_simp
            refine HV.out.mono ?_
            rintro e zz ⟨v9,rfl,h5,h6,h7⟩
            exact⟨_,rfl,h5,h6,h7⟩
           ·intro vs V kk h1 h2 hW hd
            have ea:iD wd (co k m T S).2 kk (vs 6) V:=hd 6 (by decide)
            have eb:iC (co k m T S).2 kk (vs 13) V:=hd 13 (by decide)
            have HV:=J (mM ea eb)
            refine aa rfl ?_
            clear hd hW ea eb
            go_simp
            refine HV.out.mono ?_
            rintro e zz ⟨rfl,h6⟩
            exact⟨_,rfl,rfl,h6⟩
           ·intro vs V kk h1 h2 hW hd
            refine aa rfl ?_
            have e14:vs 14=.bool S:=hd 14 (by decide)
            clear hd hW
            go_simp
            exact⟨rfl,G _ _⟩
          case gdone=>
           intro vs V hW hf
           have f0:vs 0=U (Z ⟨X.x,0,O⟩):=hf 0 (by decide)
           have f1:vs 1=U (Z ⟨qb,1,O⟩):=hf 1 (by decide)
           have f2:vs 2=I Q (T:Int):=hf 2 (by decide)
           have f3:vs 3=U (Z ⟨qb,0,O⟩):=hf 3 (by decide)
           have f4:vs 4=I Q 2:=hf 4 (by decide)
           have f5:vs 5=.bool S:=hf 5 (by decide)
           have f7:vs 7=U (Z ⟨Y.y,0,O⟩):=hf 7 (by decide)
           have f8:vs 8=U (Z ⟨qb,1,O⟩):=hf 8 (by decide)
           have f9:vs 9=I Q (T:Int):=hf 9 (by decide)
           have f10:vs 10=U (Z ⟨qb,0,O⟩):=hf 10 (by decide)
           have f11:vs 11=I Q 2:=hf 11 (by decide)
           have f12:vs 12=I Q 1:=hf 12 (by decide)
           have f14:vs 14=.bool S:=hf 14 (by decide)
           have f15:vs 15=.bool P:=hf 15 (by decide)
           simp only[f0,f1,f2,f3,f4,f5,f7,f8,f9,f10,f11,f12,f14,f15]
           clear f0 f1 f2 f3 f4 f5 f7 f8 f9 f10 f11 f12 f14 f15
           generalize vs 6=rx at *
           generalize vs 13=ry at *
           obtain⟨-,-,M3,Y4,hy4,hT4⟩:iX W wd k { X with M:=M } Y' m (co k m T S).1 qb #[I Q 2,I Q (T:Int),I Q L] 2 V:=hW
           have hyF:Y4.y=Y.y:=hy4.trans HO.out.2.2.1
           have HAl:Hid (Calls Tryz.prog 26 #[U (Z ⟨X.x,0,O⟩),U (Z ⟨Y.y,0,O⟩)] V fun e w'=>e=.returned (.bool S)/\Below V.heap.size V w'):=J (by
            have h9:=tm hT4.ex hT4.ey
            rw[hyF] at h9
            exact h9)
           have HT4:=J hT4
           clear hf hT4 hy4
           go_wp2_with fail
           refine HAl.out.mono ?_
           rintro e v9 ⟨rfl,hv9⟩
           have hT9:=HT4.out.below hv9
           clear HAl HT4 hv9
           go_wp2
           go_roundw
           case rel=>exact⟨i+1,M3,Y4,_,by omega,by go_num,hyF,hT9⟩
           case measure=>simp[intOf];omega
        ·have b1:(kd==1)=P:=by simpa using fun e=>hk12 (.inl e)
         have b2:(kd==2)=P:=by simpa using fun e=>hk12 (.inr e)
         clear hk12
         obtain⟨lt,hL9⟩:∃ lt:Bool,min (max L 0) 1=aK lt:=⟨decide (0<L),by unfold aK;by_cases h:0<L <;> simp[h] <;> omega⟩
         have hw1:decide (aK lt=1)=lt:=by cases lt <;> rfl
         have hw2:(aK lt==1)=lt:=by cases lt <;> rfl
         have HX:=J (fun V (hV:iX W wd k { X with M:=M } Y' m (dw k m T lt).1 qb #[I Q kd,I Q (T:Int),I Q L] 0 V)=>zn HO.out.2.1 (fun V h=>B2 h T ht lt (fun i hm=>xp HKK.out.al h.lk hm)) V hV)
         have HY:=J (fun V (hV:iX W wd k { X with M:=M } Y' m (dw k m T lt).1 qb #[I Q kd,I Q (T:Int),I Q L] 1 V)=>zm (m':=(dw k m T lt).1) (o:=(dw k m T lt).2) HO.out.2.1 (fun V h=>by
          have h9:=HKK.out.st V Y' m T (aK lt) h ht
          rw[show decide (aK lt≠0)=lt by cases lt <;> rfl] at h9
          exact h9) V hV)
         rw[HO.out.2.2.1] at HY
         go_upto_region 18 with fail
         try rw[hL9]
         refine fi [5,10] (iX W wd k { X with M:=M } Y' m (dw k m T lt).1 qb #[I Q kd,I Q (T:Int),I Q L]) (wD wd) (fun vs=>{ tmps:=#[.agg #[I Q (k.n:Int),I Q x1,I N x2],R (Z ⟨bb,off,O⟩) l2.length cap2,U (Z ⟨W.heap.size,0,O⟩),E,u4,I Q (k.n:Int),I Q x1,I N x2,U (Z ⟨yb,0,O⟩),.bool S,U (Z ⟨zb,0,O⟩),I Q 0,U (Z ⟨X.x,0,O⟩),I Q 0,U (Z ⟨Y.y,0,O⟩),E,U (Z ⟨qb,0,O⟩),I Q (aK lt),U (Z ⟨W.heap.size,0,O⟩),I Q (k.n:Int),U (Z ⟨W.heap.size,1,O⟩),I Q x1,U (Z ⟨W.heap.size,2,O⟩),I N x2,.tuple #[.agg #[R bL k.l.length dL,I Q k.lo,I Q k.un,R bS k.zs.length dS,R bI init.length dI,I Q (k.each:Int),R bR r7.length dR],.bool S],I Q (k.n:Int),I Q x1,I N x2,.tuple #[.agg #[R bL k.l.length dL,I Q k.lo,I Q k.un,R bS k.zs.length dS,R bI init.length dI,I Q (k.each:Int),R bR r7.length dR],.bool S],.agg #[R bL k.l.length dL,I Q k.lo,I Q k.un,R bS k.zs.length dS,R bI init.length dI,I Q (k.each:Int),R bR r7.length dR],.bool S,.bool S,.bool P,.bool P,I Q (k.n:Int),.bool (decide (8<(k.n:Int))),.bool (decide (8<(k.n:Int))),.bool (decide (8<(k.n:Int))),R (Z ⟨bb,off,O⟩) l2.length cap2,I Q (l2.length:Int),.bool (decide (150<(l2.length:Int))),.bool (decide (8<(k.n:Int)) || decide (150<(l2.length:Int))),E,.tuple #[.agg #[R aL k.l.length cL,I Q k.lo,I Q k.un,R aS k.zs.length cS,R aI init.length cI,I Q (k.each:Int),R aR r7.length cR],I Q 0],I Q (k.n:Int),I Q x1,I N x2,.tuple #[.agg #[R aL k.l.length cL,I Q k.lo,I Q k.un,R aS k.zs.length cS,R aI init.length cI,I Q (k.each:Int),R aR r7.length cR],I Q 0],.agg #[R aL k.l.length cL,I Q k.lo,I Q k.un,R aS k.zs.length cS,R aI init.length cI,I Q (k.each:Int),R aR r7.length cR],I Q 0,.tuple #[U (Z ⟨X.x,0,O⟩),I Q 0],.agg #[R aL k.l.length cL,I Q k.lo,I Q k.un,R aS k.zs.length cS,R aI init.length cI,I Q (k.each:Int),R aR r7.length cR],I Q (k.n:Int),.tuple #[U (Z ⟨X.x,0,O⟩),I Q 0],U (Z ⟨X.x,0,O⟩),I Q 0,I Q 0,.bool P,.bool P,I Q 0,.bool P,.bool P,.bool P,U (Z ⟨X.x,0,O⟩),.bool P,.bool P,.agg #[R bL k.l.length dL,I Q k.lo,I Q k.un,R bS k.zs.length dS,R bI init.length dI,I Q (k.each:Int),R bR r7.length dR],I Q (k.n:Int),U (Z ⟨Y.y,0,O⟩),R (Z ⟨bb,off,O⟩) l2.length cap2,I Q (l2.length:Int),I Q (i:Int),.bool S,U (Z ⟨bb,off+i*3,O⟩),.agg #[I Q kd,I Q (T:Int),I Q L],U (Z ⟨qb,1,O⟩),I Q (T:Int),.bool (decide ((T:Int)<0)),.bool (decide ((T:Int)<0)),U (Z ⟨qb,1,O⟩),I Q (T:Int),I Q (k.n:Int),.bool (decide (k.n<=T)),.bool (decide ((T:Int)<0) || decide (k.n<=T)),U (Z ⟨qb,0,O⟩),I Q kd,.bool P,.bool P,U (Z ⟨qb,0,O⟩),I Q kd,.bool P,.bool P,u92,u93,u94,u95,u96,u97,u98,u99,u100,u101,u102,u103,u104,u105,u106,u107,U (Z ⟨qb,2,O⟩),I Q L,I Q (max L 0),I Q (aK lt),vs 0,vs 1,vs 2,vs 3,vs 4,vs 5,vs 6,vs 7,vs 8,vs 9,vs 10,vs 11,vs 12,u125,u126,u127,u128,u129,E],defers:=[] }) (qZ [(5,iD wd (dw k m T lt).2),(10,iC (dw k m T lt).2)] [U (Z ⟨X.x,0,O⟩),U (Z ⟨qb,1,O⟩),I Q (T:Int),I Q (aK lt),.bool lt,E,U (Z ⟨Y.y,0,O⟩),U (Z ⟨qb,1,O⟩),I Q (T:Int),I Q (aK lt),E,.bool S,.bool P]) ?ghm ?ghr ?ghc ?ghnd ?ghlit ?gh0 ?ghW ?ghF ?ghS ?gops ?gdone
         case ghm=>kernel_rfl
         case ghr=>kernel_rfl
         case ghc=>kernel_rfl
         case ghnd=>decide
         case ghlit=>intro vs;rfl
         case gh0=>exact⟨HO.out.1,F _,G _ _⟩
         case ghW=>exact fun kk V V2 h hb=>h.below hb
         case ghF=>exact iq (by
          intro p0 hp
          simp only[List.mem_cons,List.not_mem_nil,or_false] at hp
          rcases hp with rfl|rfl
          ·exact fun k v V V2 h hb=>iD.below (j:=k) h hb
          ·exact fun k v V V2 h hb=>iC.below (j:=k) h hb)
         case ghS=>exact fun kk V V2 _ hs=>kz (by
          intro p0 hp
          simp only[List.mem_cons,List.not_mem_nil,or_false] at hp
          rcases hp with rfl|rfl
          ·exact fun v h=>iD.keep (j:=kk) h hs
          ·exact fun v h=>iC.keep (j:=kk) h hs)
         case gops=>
          refine⟨?_,?_,?_,?_,?_,?_,?_,?_,?_,?_,?_,?_,?_,trivial⟩
          ·intro vs V kk h1 h2 hW hd
           refine aa rfl ?_
           clear hd hW
           go_simp
           exact⟨rfl,G _ _⟩
          ·intro vs V kk h1 h2 hW hd
           refine aa rfl ?_
           clear hd hW
           go_simp
           exact⟨rfl,G _ _⟩
          ·intro vs V kk h1 h2 hW hd
           refine aa rfl ?_
           have e1:vs 1=U (Z ⟨qb,1,O⟩):=hd 1 (by decide)
           have y1:V.cell? ⟨qb,1,O⟩=Z (I Q (T:Int)):=hW.1.cell 1
           clear hd hW
           go_simp
           exact⟨rfl,G _ _⟩
          ·intro vs V kk h1 h2 hW hd
           refine aa rfl ?_
           clear hd hW
           go_simp
           exact⟨rfl,G _ _⟩
          ·intro vs V kk h1 h2 hW hd
           refine aa rfl ?_
           have e3:vs 3=I Q (aK lt):=hd 3 (by decide)
           clear hd hW
           go_simp
           exact⟨rfl,G _ _⟩
          ·intro vs V hW hd
           have e0:vs 0=U (Z ⟨X.x,0,O⟩):=hd 0 (by decide)
           have e2:vs 2=I Q (T:Int):=hd 2 (by decide)
           have e4:vs 4=.bool lt:=hd 4 (by decide)
           have HV:=J (HX.out V hW)
           refine aO rfl ?_
           clear hd hW
           go_simp
           refine HV.out.mono ?_
           rintro e zz ⟨v9,rfl,h5,h6,h7⟩
           exact⟨_,rfl,h5,h6,h7⟩
          ·intro vs V kk h1 h2 hW hd
           refine aa rfl ?_
           clear hd hW
           go_simp
           exact⟨rfl,G _ _⟩
          ·intro vs V kk h1 h2 hW hd
           refine aa rfl ?_
           clear hd hW
           go_simp
           exact⟨rfl,G _ _⟩
          ·intro vs V kk h1 h2 hW hd
           refine aa rfl ?_
           have e7:vs 7=U (Z ⟨qb,1,O⟩):=hd 7 (by decide)
           have y1:V.cell? ⟨qb,1,O⟩=Z (I Q (T:Int)):=hW.1.cell 1
           clear hd hW
           go_simp
           exact⟨rfl,G _ _⟩
          ·intro vs V kk h1 h2 hW hd
           refine aa rfl ?_
           clear hd hW
           go_simp
           exact⟨rfl,G _ _⟩
          ·intro vs V hW hd
           have e6:vs 6=U (Z ⟨Y.y,0,O⟩):=hd 6 (by decide)
           have e8:vs 8=I Q (T:Int):=hd 8 (by decide)
           have e9:vs 9=I Q (aK lt):=hd 9 (by decide)
           have HV:=J (HY.out V hW)
           refine aO rfl ?_
           clear hd hW
           go_simp
           refine HV.out.mono ?_
           rintro e zz ⟨v9,rfl,h5,h6,h7⟩
           exact⟨_,rfl,h5,h6,h7⟩
          ·intro vs V kk h1 h2 hW hd
           have ea:iD wd (dw k m T lt).2 kk (vs 5) V:=hd 5 (by decide)
           have eb:iC (dw k m T lt).2 kk (vs 10) V:=hd 10 (by decide)
           have HV:=J (mM ea eb)
           refine aa rfl ?_
           clear hd hW ea eb
           go_simp
           refine HV.out.mono ?_
           rintro e zz ⟨rfl,h6⟩
           exact⟨_,rfl,rfl,h6⟩
          ·intro vs V kk h1 h2 hW hd
           refine aa rfl ?_
           have e11:vs 11=.bool S:=hd 11 (by decide)
           clear hd hW
           go_simp
           exact⟨rfl,G _ _⟩
         case gdone=>
          intro vs V hW hf
          have f0:vs 0=U (Z ⟨X.x,0,O⟩):=hf 0 (by decide)
          have f1:vs 1=U (Z ⟨qb,1,O⟩):=hf 1 (by decide)
          have f2:vs 2=I Q (T:Int):=hf 2 (by decide)
          have f3:vs 3=I Q (aK lt):=hf 3 (by decide)
          have f4:vs 4=.bool lt:=hf 4 (by decide)
          have f6:vs 6=U (Z ⟨Y.y,0,O⟩):=hf 6 (by decide)
          have f7:vs 7=U (Z ⟨qb,1,O⟩):=hf 7 (by decide)
          have f8:vs 8=I Q (T:Int):=hf 8 (by decide)
          have f9:vs 9=I Q (aK lt):=hf 9 (by decide)
          have f11:vs 11=.bool S:=hf 11 (by decide)
          have f12:vs 12=.bool P:=hf 12 (by decide)
          simp only[f0,f1,f2,f3,f4,f6,f7,f8,f9,f11,f12]
          clear f0 f1 f2 f3 f4 f6 f7 f8 f9 f11 f12
          generalize vs 5=rx at *
          generalize vs 10=ry at *
          obtain⟨-,-,M3,Y4,hy4,hT4⟩:iX W wd k { X with M:=M } Y' m (dw k m T lt).1 qb #[I Q kd,I Q (T:Int),I Q L] 2 V:=hW
          have hyF:Y4.y=Y.y:=hy4.trans HO.out.2.2.1
          have HAl:Hid (Calls Tryz.prog 26 #[U (Z ⟨X.x,0,O⟩),U (Z ⟨Y.y,0,O⟩)] V fun e w'=>e=.returned (.bool S)/\Below V.heap.size V w'):=J (by
           have h9:=tm hT4.ex hT4.ey
           rw[hyF] at h9
           exact h9)
          have HT4:=J hT4
          clear hf hT4 hy4
          go_wp2_with fail
          refine HAl.out.mono ?_
          rintro e v9 ⟨rfl,hv9⟩
          have hT9:=HT4.out.below hv9
          clear HAl HT4 hv9
          go_wp2
          go_roundw
          case rel=>exact⟨i+1,M3,Y4,_,by omega,by go_num,hyF,hT9⟩
          case measure=>simp[intOf];omega
       ·go_wp2
        go_roundw
        case rel=>exact⟨i+1,M,Y',m,by omega,by go_num,HO.out.2.2.1,HO.out.2.1⟩
        case measure=>simp[intOf];omega
      ·go_wp2
       go_roundw
       case rel=>exact⟨i+1,M,Y',m,by omega,by go_num,HO.out.2.2.1,HO.out.2.1⟩
       case measure=>simp[intOf];omega
     ·obtain rfl:i=l2.length:=by omega
      have hbe:=hT.bel
      clear hT
      go_wp2_with fail
      refine(HAw.out _ (hbe)).mono ?_
      rintro e w9 ⟨rfl,hw9⟩
      have hf:=(hbe).trans (hw9.mono (hbe).size)
      go_wp2
      go_ret
      exact⟨rfl,hf⟩
   ·have hf1:150<l2.length:=by omega
    go_wp2_with fail
    refine(HAw.out _ (hyb)).mono ?_
    rintro e w9 ⟨rfl,hw9⟩
    have hf:=(hyb).trans (hw9.mono (hyb).size)
    go_wp2
    go_ret
    exact⟨rfl,hf⟩
  ·have hf8:8<k.n:=by omega
   go_wp2_with fail
   refine(HAw.out _ (hyb)).mono ?_
   rintro e w9 ⟨rfl,hw9⟩
   have hf:=(hyb).trans (hw9.mono (hyb).size)
   go_wp2
   go_ret
   exact⟨rfl,hf⟩
 ·have HD:=J (EE x0 x1 x2 hn).2
  clear hn
  unfold E0 EL at HD
  go_enter Tryz.func7,Tryz.ntmps7
  go_upto_region 1 with fail
  generalize W.alloc (K #[I Q x0,I Q x1,I N x2] 46)=z0 at *
  obtain⟨y0,y1,y2⟩:=qB.kY
  clear qB
  go_quiet (fail)
  clear y0 y1 y2
  replace bB:=bB.trans ((jp z0 nq).mono bB.size)
  generalize z0.drewN nq=w0 at *
  go_wp2_with fail
  refine(HD.out w0).mono ?_
  rintro e y ⟨rfl,hy⟩
  have hyb:=(bB.trans (hy.mono bB.size)).alloc (o:=K #[R O 0 0,I Q 0,I Q 0,R O 0 0,R O 0 0,I Q 0,R O 0 0] 37) (bB.trans (hy.mono bB.size)).size
  clear HD
  go_wp2_with fail
  refine(HAw.out _ (hyb)).mono ?_
  rintro e w9 ⟨rfl,hw9⟩
  have hf:=(hyb).trans (hw9.mono (hyb).size)
  go_wp2
  go_ret
  exact⟨rfl,hf⟩
theorem lifted (os:Os)(started:os.Started)(H:Type)(enc:TypeId×Value->H):
 ReturnsInHanded {} Tryz.checked os 7 .any (fun w args=>(Rows.andersonRunsSpec.pre enc Tryz.prog Tryz.f7 [] P w args/\laidMetH Tryz.prog Rows.andersonRunsRow.laid w)/\sizedMet enc Tryz.prog Tryz.f7 (OpenSpec.ofChange Rows.andersonRunsSpec) P w args)
  (Rows.andersonRunsSpec.post enc Tryz.prog Tryz.f7 P S P P):=by
 refine oH (C:=Tryz.checked) (X:=fun w _=>laidMetH Tryz.prog Rows.andersonRunsRow.laid w) (fun _ _ _ hh h=>h.of_heap hh) own started (by kernel_rfl) Tryz.func7
  (ChangeSpec.witness_shaped (enc:=enc) (C:=Tryz.checked) (os:=os) (X:=fun w _=>laidMetH Tryz.prog Rows.andersonRunsRow.laid w) P (World.laidAll Tryz.prog os Rows.andersonRunsRow.laid) #[.agg #[I Q 0,I Q 0,I N 0],R O 0 0] 8 (World.laidAll_os _ _ _)
   (World.shaped_of_ZipB (by kernel_rfl) (by kernel_rfl)) (by kernel_rfl) (by kernel_rfl) (by kernel_rfl)
   (by rw[MakeChecks.laidMetH_plain _ _ _ (by kernel_rfl)];exact laidMet_laidAll _ (by kernel_rfl) (by kernel_rfl))) ?_
 intro W base args ds gs before hval0 hW hL hsh
 have hval:∀ (j:Nat) t v,Tryz.f7.params[j]?=Z t->args[j]?=Z v->Value.okWide Tryz.prog W .any base t v:=hval0
 have hW':=hW
 obtain⟨p,q,hA0,hV,rfl,_,_⟩:=hW
 have hA:DataW.TrodAll enc Tryz.prog W 0 (fun _=>S) S Tryz.f7.params.toList args.toList ds p:=hA0
 rw[Tryz.params7] at hA hval
 obtain⟨v0,vs0,d0,ds0,p0,q0,hargs,rfl,rfl,h0,r0⟩:=trodAll_cons hA
 obtain⟨v1,vs1,d1,ds1,p1,q1,rfl,rfl,rfl,h1,r1⟩:=trodAll_cons r0
 obtain⟨rfl,rfl,rfl⟩:=trodAll_nil r1
 obtain rfl:args=#[v0,v1]:=by cases args;simp_all
 obtain⟨rfl,rfl⟩:=trodVars_none hV
 have k0:=h0
 have lt0:∀ x∈p0,x.block<W.heap.size:=by obtain⟨m,hm⟩:=k0;exact DataW.trod_lt m _ _ _ hm
 obtain⟨n0,m0,s0,rfl,u0⟩:=uM (hval 0 46 v0 rfl rfl) h0
 have k1:=h1
 have lt1:∀ x∈p1,x.block<W.heap.size:=by obtain⟨m,hm⟩:=k1;exact DataW.trod_lt m _ _ _ hm
 obtain⟨l1,a1,cap1,rfl,S1,hb1⟩:=xu (hval 1 47 v1 rfl rfl) h1
 clear hA0 hval0
 rw[MakeChecks.laidMetH_plain _ _ _ (by kernel_rfl)] at hL
 refine(walk n0 m0 s0 l1 a1 cap1 u0 W S1 hb1 (Eh hL hsh)).mono fun e W' ⟨he,bel⟩=>?_
 subst he
 exact⟨_,rfl,_,_,_,[],_,[],hW',trodAll_mk1 (shut_bool Tryz.underlying4 _),(trodAll_cons_mk (Below.trod tV (by kernel_rfl) (of_decide_eq_true (by kernel_rfl)) k0 bel lt0) (trodAll_cons_mk (Below.trod tV (by kernel_rfl) (of_decide_eq_true (by kernel_rfl)) k1 bel lt1) trodAll_mk0)),rfl,bel.frame _,fun h=>by cases h⟩
theorem over:Rows.andersonRunsRow.holds Tryz.pinned (OpenSpec.ofChange Rows.andersonRunsSpec):=
 OpenClaim.holds_of_wide 7 Tryz.f7 rfl rfl rfl rfl rfl rfl rfl ⟨rfl,rfl,rfl,rfl,rfl⟩ rfl rfl rfl rfl rfl (by kernel_rfl) Tryz.func7 (by kernel_rfl)
  (of_decide_eq_true (by kernel_rfl)) (by unfold Func.isWrapper;first | (rw[if_pos (by decide +kernel)];kernel_rfl) | (rw[if_neg (by decide +kernel)];exact⟨rfl,rfl⟩))
  (fun os started H enc _=>lifted os started H enc)
theorem proved:Rows.AndersonRunsCardSaid:=
 Claim7.holds_tied_plain_at .later [] Rows.andersonRunsCard.laidKinds S Rows.andersonRunsCard.stood.harness S over (fun _ h=>by cases h) (by kernel_rfl) (fun _ h=>by cases h) andersonRuns_row_tie rfl ⟨rfl,rfl⟩ (by kernel_rfl) rfl
  (fun f fn hf hfn=>by
   obtain rfl:f=7:=Option.some.inj ((show Tryz.prog.funcNamed Rows.andersonRunsRow.func=Z 7 by kernel_rfl).symm.trans hf) |>.symm
   obtain rfl:fn=Tryz.f7:=(Option.some.inj (Tryz.func7.symm.trans hfn)).symm
   exact⟨by kernel_rfl,fun j t ht=>by
    rw[Tryz.params7] at ht
    have hm:t∈[46,47]:=by simpa using Array.mem_of_getElem? ht
    have hall:([46,47].all fun u=>!Tryz.prog.wantsStandIn u)=S:=by kernel_rfl
    exact(show Tryz.prog.wantsStandIn t=P by simpa using List.all_eq_true.1 hall t hm)⟩)
  (by kernel_rfl)
#print axioms proved
end Go.Proofs.YtbgaaclplgghcaaGreatDoor.andersonRuns
