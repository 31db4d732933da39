/- For any lock that may be asked for, and whatever is done with it: GraunkeRuns returns true: the lock at work does, step by step, what the document's does: all cells, cores and nodes are the same; no condition. A tied card: the listed variables of the library are tied to the program's text. -/
import Derived.Test.YtieiifdhdjhnoaaGreatDoorWGrA
import Derived.Test.YtieiifdhdjhnoaaGreatDoorWStGr
import Derived.Test.YtieiifdhdjhnoaaGreatDoorWExG
import Derived.Test.YtieiifdhdjhnoaaGreatDoorWRuD
import Derived.ChangeMaps5
set_option linter.unusedVariables false
set_option maxHeartbeats 16000000
set_option maxRecDepth 100000
open Option renaming none->I,some->Q
open Bool renaming false->N,true->O
open Go.Value renaming slice->Z,pointer->P
open Go.Obj renaming cells->S
open Go.Lib renaming hid->R
open Go.RowKit.Below renaming refl->U
open Nat renaming le_refl->K
open Go renaming undef->J
namespace Go.Proofs.YtieiifdhdjhnoaaGreatDoor.graunkeRuns
open Go.Joins Go.ChangeShapes Go.WideShapes Go.ChangeAt Go.RowKit Go.Deep
theorem walk (x0:Int)(l2:List DU)(a2:Option Addr)(cap2:Nat)(f0:(Lit.int .i64 x0).wf=O)(W:World)(S2:rF W.heap.size W a2 l2)(hb2:l2.length<=maxLen)(L:Lb W):
 Calls Tryz.prog 7 #[.int .i64 x0,Z a2 l2.length cap2] W fun e w'=>e=.returned (.bool O)/\Below W.heap.size W w':=by
 have HLB:Hid (∀ V,Below W.heap.size W V->Lb V):=R (fun V hV=>L.below hV)
 have HAw:Hid (∀ V,Below W.heap.size W V->Calls Tryz.prog 12 #[] V fun e w'=>e=.returned (.bool O)/\Below V.heap.size V w'):=R (fun V hV=>yc V (HLB.out V hV))
 have HS:=R S2
 simp only[maxLen] at hb2
 clear S2
 clear L
 have bB:=U W.heap.size W
 by_cases hn:1<=x0/\x0<=64
 ·obtain⟨k,init,r7,rfl,HK,HC0,HD⟩:=Dm x0 hn
  have h1:=HK.ok.n1
  have h64:=HK.ok.n64
  have HKL:Hid (k.l.length<=1000):=R (by have:=HK.ok.parts.2.1;omega)
  have HC:Hid (∀ V,Below W.heap.size W V->Calls Tryz.prog 8 #[.int .i64 (k.n:Int)] V (DN V k init r7)):=R fun V hV=>HC0 V (HLB.out V hV)
  replace HD:=R HD
  have HKK:=R HK
  clear hn HC0 HK f0
  go_enter Tryz.func7,Tryz.ntmps7
  go_wp2_with fail
  refine(HD.out W).mono ?_
  rintro e y ⟨v,rfl,hrv,hy⟩
  have HRV:=R (hrv.less bB.size)
  obtain⟨bL,dL,bS,dS,bI,dI,bR,dR,rfl⟩:=El hrv
  have hyb:=(bB.trans (hy.mono bB.size)).alloc (o:=S #[Z bL k.l.length dL,.int .i64 k.lo,.int .i64 k.un,Z bS k.zs.length dS,Z bI init.length dI,.int .i64 k.each,Z bR r7.length dR] 36) (bB.trans (hy.mono bB.size)).size
  clear HD hrv
  by_cases h8:k.n<=8
  ·by_cases h150:l2.length<=150
   ·have qw:=Bk.made y 36 #[Z bL k.l.length dL,.int .i64 k.lo,.int .i64 k.un,Z bS k.zs.length dS,Z bI init.length dI,.int .i64 k.each,Z bR r7.length dR]
    obtain⟨yb,hyb0⟩:∃ yb,y.heap.size=yb:=⟨_,rfl⟩
    rw[hyb0] at qw
    have HRV2:=R (HRV.out.below ((U y.heap.size y).alloc (o:=S #[Z bL k.l.length dL,.int .i64 k.lo,.int .i64 k.un,Z bS k.zs.length dS,Z bI init.length dI,.int .i64 k.each,Z bR r7.length dR] 36) (K _)))
    clear HRV
    go_upto_region 4 with fail
    try rw[hyb0]
    generalize y.alloc (S #[Z bL k.l.length dL,.int .i64 k.lo,.int .i64 k.un,Z bS k.zs.length dS,Z bI init.length dI,.int .i64 k.each,Z bR r7.length dR] 36)=z at *
    go_wp2_with fail
    refine(HC.out z hyb).mono ?_
    rintro e z1 ⟨v,rfl,hsv,hz1⟩
    have HSV:=R hsv
    obtain⟨aL,cL,aS,cS,aI,cI,aR,cR,rfl⟩:=BX hsv
    clear hsv
    have b1:=hyb.trans (hz1.mono hyb.size)
    have hza:Below z1.heap.size z1 (z1.alloc (S #[Z aL k.l.length cL,.int .i64 k.lo,.int .i64 k.un,Z aS k.zs.length cS,Z aI init.length cI,.int .i64 k.each,Z aR r7.length cR] 28)):=(U _ _).alloc (K _) _
    have q2:=Bk.made z1 28 #[Z aL k.l.length cL,.int .i64 k.lo,.int .i64 k.un,Z aS k.zs.length cS,Z aI init.length cI,.int .i64 k.each,Z aR r7.length cR]
    have b2:=b1.trans (hza.mono b1.size)
    obtain⟨zb,hzb⟩:∃ zb,z1.heap.size=zb:=⟨_,rfl⟩
    rw[hzb] at q2
    have HSV2:=R (HSV.out.below hza)
    clear HC b1 HSV
    go_upto_region 5 with fail
    try rw[hzb]
    generalize z1.alloc (S #[Z aL k.l.length cL,.int .i64 k.lo,.int .i64 k.un,Z aS k.zs.length cS,Z aI init.length cI,.int .i64 k.each,Z aR r7.length cR] 28)=z2 at *
    obtain⟨y0,y1,y2,y3,y4,y5,y6⟩:=q2.BK
    have HNx:=R (Fy (w:=z2) (k:=k) (init:=init) (r7:=r7) HKK.out.ok HSV2.out HKK.out.il HKK.out.iu HKK.out.rl HKK.out.ru)
    have qw2:Bk z2 yb 36 #[Z bL k.l.length dL,.int .i64 k.lo,.int .i64 k.un,Z bS k.zs.length dS,Z bI init.length dI,.int .i64 k.each,Z bR r7.length dR]:=((hz1.trans (hza.mono hz1.size)).block _ (Bk.lt qw)).trans qw
    have HRV3:=R (HRV2.out.below (hz1.trans (hza.mono hz1.size)))
    clear hza hzb hz1 qw HRV2 HSV2
    go_wp2_with fail
    refine HNx.out.mono ?_
    rintro e w5 ⟨X,rfl,hX,hw5,hXo⟩
    have b5:=b2.trans (hw5.mono b2.size)
    have HX5:=R hX
    have HXO:Hid (∀ i,X.Own k.n i->W.heap.size<=i):=R fun i hi=>Nat.le_trans b2.size (hXo i hi)
    have qw5:Bk w5 yb 36 #[Z bL k.l.length dL,.int .i64 k.lo,.int .i64 k.un,Z bS k.zs.length dS,Z bI init.length dI,.int .i64 k.each,Z bR r7.length dR]:=(hw5.block _ (Bk.lt qw2)).trans qw2
    obtain⟨v0,v1,v2,v3,v4,v5,v6⟩:=qw5.BK
    have HNy:=R (D0 (w:=w5) (base:=W.heap.size) (k:=k) (init:=init) (r7:=r7) b5.size HKK.out.ok (HRV3.out.below hw5) HKK.out.il HKK.out.iu HKK.out.rl HKK.out.ru)
    clear HNx hX hXo qw2 qw5 HRV3 hw5 y0 y1 y2 y3 y4 y5 y6
    go_wp2_with fail
    refine HNy.out.mono ?_
    rintro e w7 ⟨Y,rfl,hY,hw7,hYo⟩
    have HT:=R (Af b5 HX5.out HXO.out hY hw7 hYo)
    clear HNy HX5 HXO hY hw7 hYo v0 v1 v2 v3 v4 v5 v6 b5 b2 hyb
    go_wp2
    go_loopw [58] (fun j wr=>∃ (i:Nat) (M:PM) (Y':YP) (m:Mc),i<=l2.length/\j=.int .i64 i/\Y'.y=Y.y/\zT W k { X with M:=M } Y' m m wr) (fun j _=>l2.length-(intOf j).toNat)
    case atStart=>exact⟨0,X.M,Y,_,Nat.zero_le _,rfl,rfl,HT.out⟩
    case round=>
     clear HT
     obtain⟨i,M,Y',m,hi,rfl,hyy,hT⟩:=hrel
     by_cases hlt:i<l2.length
     ·obtain⟨bb,off,rfl,hbb,hcs⟩:=HS.out.grow hT.bel (K _) (K _) (by omega)
      obtain⟨o,ho⟩:∃ o,l2[i]?=Q o:=⟨_,List.getElem?_eq_getElem hlt⟩
      obtain⟨r0,r1,r2⟩:=hcs i o ho
      obtain⟨kd,T0,L⟩:=o
      simp only at r0 r1 r2
      clear hcs ho
      have hBq:=Bk.made wr 58 #[.int .i64 kd,.int .i64 T0,.int .i64 L]
      have hA:Below wr.heap.size wr (wr.alloc (S #[.int .i64 kd,.int .i64 T0,.int .i64 L] 58)):=(U _ _).alloc (K _) _
      have HO:=R (And.intro hBq (And.intro (hT.below hA) (And.intro hyy trivial)))
      clear hBq hA hT hyy
      go_upto_region 12 with fail
      generalize wr.alloc (S #[.int .i64 kd,.int .i64 T0,.int .i64 L] 58)=wd at HO ⊢
      generalize wr.heap.size=qb at HO ⊢
      clear r0 r1 r2
      obtain⟨s0,s1,s2⟩:=HO.out.1.lz
      by_cases hT0:0<=T0
      ·by_cases hT1:T0<k.n
       ·obtain⟨T,rfl⟩:=Int.eq_ofNat_of_zero_le hT0
        have ht:T<k.n:=by omega
        by_cases hk12:kd=1\/kd=2
        ·rcases hk12 with rfl|rfl
         ·have HX:=R (fun V (hV:i8 W wd k { X with M:=M } Y' m (cJ k m T N).1 qb #[.int .i64 1,.int .i64 (T:Int),.int .i64 L] 0 V)=>zG HO.out.2.1 (fun V h=>yX h T ht N) V hV)
          have HY:=R (fun V (hV:i8 W wd k { X with M:=M } Y' m (cJ k m T N).1 qb #[.int .i64 1,.int .i64 (T:Int),.int .i64 L] 1 V)=>zF (o:=(cJ k m T N).2) HO.out.2.1 (fun V h=>yW h T ht N) V hV)
          rw[HO.out.2.2.1] at HY
          go_upto_region 14 with fail
          refine fj [6,13] (i8 W wd k { X with M:=M } Y' m (cJ k m T N).1 qb #[.int .i64 1,.int .i64 (T:Int),.int .i64 L]) (wO wd) (fun vs=>{ tmps:=#[.int .i64 (k.n:Int),Z (Q ⟨bb,off,I⟩) l2.length cap2,J,J,u4,P (Q ⟨yb,0,I⟩),.bool O,P (Q ⟨zb,0,I⟩),.int .i64 0,P (Q ⟨X.x,0,I⟩),.int .i64 0,P (Q ⟨Y.y,0,I⟩),J,P (Q ⟨qb,0,I⟩),u14,.tuple #[.agg #[Z bL k.l.length dL,.int .i64 k.lo,.int .i64 k.un,Z bS k.zs.length dS,Z bI init.length dI,.int .i64 (k.each:Int),Z bR r7.length dR],.bool O],.int .i64 (k.n:Int),.tuple #[.agg #[Z bL k.l.length dL,.int .i64 k.lo,.int .i64 k.un,Z bS k.zs.length dS,Z bI init.length dI,.int .i64 (k.each:Int),Z bR r7.length dR],.bool O],.agg #[Z bL k.l.length dL,.int .i64 k.lo,.int .i64 k.un,Z bS k.zs.length dS,Z bI init.length dI,.int .i64 (k.each:Int),Z bR r7.length dR],.bool O,.bool O,.bool N,.bool N,.int .i64 (k.n:Int),.bool (decide (8<(k.n:Int))),.bool (decide (8<(k.n:Int))),.bool (decide (8<(k.n:Int))),Z (Q ⟨bb,off,I⟩) l2.length cap2,.int .i64 (l2.length:Int),.bool (decide (150<(l2.length:Int))),.bool (decide (8<(k.n:Int)) || decide (150<(l2.length:Int))),J,.tuple #[.agg #[Z aL k.l.length cL,.int .i64 k.lo,.int .i64 k.un,Z aS k.zs.length cS,Z aI init.length cI,.int .i64 (k.each:Int),Z aR r7.length cR],.int .i64 0],.int .i64 (k.n:Int),.tuple #[.agg #[Z aL k.l.length cL,.int .i64 k.lo,.int .i64 k.un,Z aS k.zs.length cS,Z aI init.length cI,.int .i64 (k.each:Int),Z aR r7.length cR],.int .i64 0],.agg #[Z aL k.l.length cL,.int .i64 k.lo,.int .i64 k.un,Z aS k.zs.length cS,Z aI init.length cI,.int .i64 (k.each:Int),Z aR r7.length cR],.int .i64 0,.tuple #[P (Q ⟨X.x,0,I⟩),.int .i64 0],.agg #[Z aL k.l.length cL,.int .i64 k.lo,.int .i64 k.un,Z aS k.zs.length cS,Z aI init.length cI,.int .i64 (k.each:Int),Z aR r7.length cR],.int .i64 (k.n:Int),.tuple #[P (Q ⟨X.x,0,I⟩),.int .i64 0],P (Q ⟨X.x,0,I⟩),.int .i64 0,.int .i64 0,.bool N,.bool N,.int .i64 0,.bool N,.bool N,.bool N,P (Q ⟨X.x,0,I⟩),.bool N,.bool N,.agg #[Z bL k.l.length dL,.int .i64 k.lo,.int .i64 k.un,Z bS k.zs.length dS,Z bI init.length dI,.int .i64 (k.each:Int),Z bR r7.length dR],.int .i64 (k.n:Int),P (Q ⟨Y.y,0,I⟩),Z (Q ⟨bb,off,I⟩) l2.length cap2,.int .i64 (l2.length:Int),.int .i64 (i:Int),.bool O,P (Q ⟨bb,off+i*3,I⟩),.agg #[.int .i64 1,.int .i64 (T:Int),.int .i64 L],P (Q ⟨qb,1,I⟩),.int .i64 (T:Int),.bool (decide ((T:Int)<0)),.bool (decide ((T:Int)<0)),P (Q ⟨qb,1,I⟩),.int .i64 (T:Int),.int .i64 (k.n:Int),.bool (decide (k.n<=T)),.bool (decide ((T:Int)<0) || decide (k.n<=T)),P (Q ⟨qb,0,I⟩),.int .i64 1,.bool O,.bool O,J,J,J,.bool O,vs 0,vs 1,vs 2,vs 3,vs 4,vs 5,vs 6,vs 7,vs 8,vs 9,vs 10,vs 11,vs 12,vs 13,vs 14,vs 15,u95,u96,u97,u98,u99,u100,u101,u102,u103,u104,u105,u106,u107,u108,u109,u110,u111,u112,u113,u114,u115,u116,J],defers:=[] }) (rE [(6,iG wd (cJ k m T N).2),(13,iF (cJ k m T N).2)] [P (Q ⟨X.x,0,I⟩),P (Q ⟨qb,1,I⟩),.int .i64 (T:Int),P (Q ⟨qb,0,I⟩),.int .i64 1,.bool N,J,P (Q ⟨Y.y,0,I⟩),P (Q ⟨qb,1,I⟩),.int .i64 (T:Int),P (Q ⟨qb,0,I⟩),.int .i64 1,.int .i64 0,J,.bool O,.bool N]) ?ghm ?ghr ?ghc ?ghnd ?ghlit ?gh0 ?ghW ?ghF ?ghS ?gops ?gdone
          case ghm=>kernel_rfl
          case ghr=>kernel_rfl
          case ghc=>kernel_rfl
          case ghnd=>decide
          case ghlit=>intro vs;rfl
          case gh0=>exact⟨HO.out.1,K _,U _ _⟩
          case ghW=>exact fun kk V V2 h hb=>h.below hb
          case ghF=>exact iy (by
           intro p0 hp
           simp only[List.mem_cons,List.not_mem_nil,or_false] at hp
           rcases hp with rfl|rfl
           ·exact fun k v V V2 h hb=>iG.below (j:=k) h hb
           ·exact fun k v V V2 h hb=>iF.below (j:=k) h hb)
          case ghS=>exact fun kk V V2 _ hs=>kG (by
           intro p0 hp
           simp only[List.mem_cons,List.not_mem_nil,or_false] at hp
           rcases hp with rfl|rfl
           ·exact fun v h=>iG.keep (j:=kk) h hs
           ·exact fun v h=>iF.keep (j:=kk) h hs)
          case gops=>
           refine⟨?_,?_,?_,?_,?_,?_,?_,?_,?_,?_,?_,?_,?_,?_,?_,?_,trivial⟩
           ·intro vs V kk h1 h2 hW hd
            refine aa rfl ?_
            clear hd hW
            go_simp
            exact⟨rfl,U _ _⟩
           ·intro vs V kk h1 h2 hW hd
            refine aa rfl ?_
            clear hd hW
            go_simp
            exact⟨rfl,U _ _⟩
           ·intro vs V kk h1 h2 hW hd
            refine aa rfl ?_
            have e1:vs 1=P (Q ⟨qb,1,I⟩):=hd 1 (by decide)
            have y1:V.cell? ⟨qb,1,I⟩=Q (.int .i64 (T:Int)):=hW.1.cell 1
            clear hd hW
            go_simp
            exact⟨rfl,U _ _⟩
           ·intro vs V kk h1 h2 hW hd
            refine aa rfl ?_
            clear hd hW
            go_simp
            exact⟨rfl,U _ _⟩
           ·intro vs V kk h1 h2 hW hd
            refine aa rfl ?_
            have e3:vs 3=P (Q ⟨qb,0,I⟩):=hd 3 (by decide)
            have y0:V.cell? ⟨qb,0,I⟩=Q (.int .i64 1):=hW.1.cell 0
            clear hd hW
            go_simp
            exact⟨rfl,U _ _⟩
           ·intro vs V kk h1 h2 hW hd
            refine aa rfl ?_
            have e4:vs 4=.int .i64 1:=hd 4 (by decide)
            clear hd hW
            go_simp
            exact⟨rfl,U _ _⟩
           ·intro vs V hW hd
            have e0:vs 0=P (Q ⟨X.x,0,I⟩):=hd 0 (by decide)
            have e2:vs 2=.int .i64 (T:Int):=hd 2 (by decide)
            have e5:vs 5=.bool N:=hd 5 (by decide)
            have HV:=R (HX.out V hW)
            refine aM rfl ?_
            clear hd hW
            go_simp
            refine HV.out.mono ?_
            rintro e zz ⟨v9,rfl,h5,h6,h7⟩
            exact⟨_,rfl,h5,h6,h7⟩
           ·intro vs V kk h1 h2 hW hd
            refine aa rfl ?_
            clear hd hW
            go_simp
            exact⟨rfl,U _ _⟩
           ·intro vs V kk h1 h2 hW hd
            refine aa rfl ?_
            clear hd hW
            go_simp
            exact⟨rfl,U _ _⟩
           ·intro vs V kk h1 h2 hW hd
            refine aa rfl ?_
            have e8:vs 8=P (Q ⟨qb,1,I⟩):=hd 8 (by decide)
            have y1:V.cell? ⟨qb,1,I⟩=Q (.int .i64 (T:Int)):=hW.1.cell 1
            clear hd hW
            go_simp
            exact⟨rfl,U _ _⟩
           ·intro vs V kk h1 h2 hW hd
            refine aa rfl ?_
            clear hd hW
            go_simp
            exact⟨rfl,U _ _⟩
           ·intro vs V kk h1 h2 hW hd
            refine aa rfl ?_
            have e10:vs 10=P (Q ⟨qb,0,I⟩):=hd 10 (by decide)
            have y0:V.cell? ⟨qb,0,I⟩=Q (.int .i64 1):=hW.1.cell 0
            clear hd hW
            go_simp
            exact⟨rfl,U _ _⟩
           ·intro vs V kk h1 h2 hW hd
            refine aa rfl ?_
            have e11:vs 11=.int .i64 1:=hd 11 (by decide)
            clear hd hW
            go_simp
            exact⟨rfl,U _ _⟩
           ·intro vs V hW hd
            have e7:vs 7=P (Q ⟨Y.y,0,I⟩):=hd 7 (by decide)
            have e9:vs 9=.int .i64 (T:Int):=hd 9 (by decide)
            have e12:vs 12=.int .i64 0:=hd 12 (by decide)
            have HV:=R (HY.out V hW)
            refine aM rfl ?_
            clear hd hW
            go_simp
            refine HV.out.mono ?_
            rintro e zz ⟨v9,rfl,h5,h6,h7⟩
            exact⟨_,rfl,h5,h6,h7⟩
           ·intro vs V kk h1 h2 hW hd
            have ea:iG wd (cJ k m T N).2 kk (vs 6) V:=hd 6 (by decide)
            have eb:iF (cJ k m T N).2 kk (vs 13) V:=hd 13 (by decide)
            have HV:=R (mS ea eb)
            refine aa rfl ?_
            clear hd hW ea eb
            go_simp
            refine HV.out.mono ?_
            rintro e zz ⟨rfl,h6⟩
            exact⟨_,rfl,rfl,h6⟩
           ·intro vs V kk h1 h2 hW hd
            refine aa rfl ?_
            have e14:vs 14=.bool O:=hd 14 (by decide)
            clear hd hW
            go_simp
            exact⟨rfl,U _ _⟩
          case gdone=>
           intro vs V hW hf
           have f0:vs 0=P (Q ⟨X.x,0,I⟩):=hf 0 (by decide)
           have f1:vs 1=P (Q ⟨qb,1,I⟩):=hf 1 (by decide)
           have f2:vs 2=.int .i64 (T:Int):=hf 2 (by decide)
           have f3:vs 3=P (Q ⟨qb,0,I⟩):=hf 3 (by decide)
           have f4:vs 4=.int .i64 1:=hf 4 (by decide)
           have f5:vs 5=.bool N:=hf 5 (by decide)
           have f7:vs 7=P (Q ⟨Y.y,0,I⟩):=hf 7 (by decide)
           have f8:vs 8=P (Q ⟨qb,1,I⟩):=hf 8 (by decide)
           have f9:vs 9=.int .i64 (T:Int):=hf 9 (by decide)
           have f10:vs 10=P (Q ⟨qb,0,I⟩):=hf 10 (by decide)
           have f11:vs 11=.int .i64 1:=hf 11 (by decide)
           have f12:vs 12=.int .i64 0:=hf 12 (by decide)
           have f14:vs 14=.bool O:=hf 14 (by decide)
           have f15:vs 15=.bool N:=hf 15 (by decide)
           simp only[f0,f1,f2,f3,f4,f5,f7,f8,f9,f10,f11,f12,f14,f15]
           clear f0 f1 f2 f3 f4 f5 f7 f8 f9 f10 f11 f12 f14 f15
           generalize vs 6=rx at *
           generalize vs 13=ry at *
           obtain⟨-,-,M3,Y4,hy4,hT4⟩:i8 W wd k { X with M:=M } Y' m (cJ k m T N).1 qb #[.int .i64 1,.int .i64 (T:Int),.int .i64 L] 2 V:=hW
           have hyF:Y4.y=Y.y:=hy4.trans HO.out.2.2.1
           have HAl:Hid (Calls Tryz.prog 26 #[P (Q ⟨X.x,0,I⟩),P (Q ⟨Y.y,0,I⟩)] V fun e w'=>e=.returned (.bool O)/\Below V.heap.size V w'):=R (by
            have h9:=tL hT4.ex hT4.ey
            rw[hyF] at h9
            exact h9)
           have HT4:=R hT4
           clear hf hT4 hy4
           go_wp2_with fail
           refine HAl.out.mono ?_
           rintro e v9 ⟨rfl,hv9⟩
           have hT9:=HT4.out.below hv9
           clear HAl HT4 hv9
           go_wp2
           go_roundw
           case rel=>exact⟨i+1,M3,Y4,_,by omega,by go_num,hyF,hT9⟩
           case measure=>simp[intOf];omega
         ·have HX:=R (fun V (hV:i8 W wd k { X with M:=M } Y' m (cJ k m T O).1 qb #[.int .i64 2,.int .i64 (T:Int),.int .i64 L] 0 V)=>zG HO.out.2.1 (fun V h=>yX h T ht O) V hV)
          have HY:=R (fun V (hV:i8 W wd k { X with M:=M } Y' m (cJ k m T O).1 qb #[.int .i64 2,.int .i64 (T:Int),.int .i64 L] 1 V)=>zF (o:=(cJ k m T O).2) HO.out.2.1 (fun V h=>yW h T ht O) V hV)
          rw[HO.out.2.2.1] at HY
          go_upto_region 14 with fail
          refine fj [6,13] (i8 W wd k { X with M:=M } Y' m (cJ k m T O).1 qb #[.int .i64 2,.int .i64 (T:Int),.int .i64 L]) (wO wd) (fun vs=>{ tmps:=#[.int .i64 (k.n:Int),Z (Q ⟨bb,off,I⟩) l2.length cap2,J,J,u4,P (Q ⟨yb,0,I⟩),.bool O,P (Q ⟨zb,0,I⟩),.int .i64 0,P (Q ⟨X.x,0,I⟩),.int .i64 0,P (Q ⟨Y.y,0,I⟩),J,P (Q ⟨qb,0,I⟩),u14,.tuple #[.agg #[Z bL k.l.length dL,.int .i64 k.lo,.int .i64 k.un,Z bS k.zs.length dS,Z bI init.length dI,.int .i64 (k.each:Int),Z bR r7.length dR],.bool O],.int .i64 (k.n:Int),.tuple #[.agg #[Z bL k.l.length dL,.int .i64 k.lo,.int .i64 k.un,Z bS k.zs.length dS,Z bI init.length dI,.int .i64 (k.each:Int),Z bR r7.length dR],.bool O],.agg #[Z bL k.l.length dL,.int .i64 k.lo,.int .i64 k.un,Z bS k.zs.length dS,Z bI init.length dI,.int .i64 (k.each:Int),Z bR r7.length dR],.bool O,.bool O,.bool N,.bool N,.int .i64 (k.n:Int),.bool (decide (8<(k.n:Int))),.bool (decide (8<(k.n:Int))),.bool (decide (8<(k.n:Int))),Z (Q ⟨bb,off,I⟩) l2.length cap2,.int .i64 (l2.length:Int),.bool (decide (150<(l2.length:Int))),.bool (decide (8<(k.n:Int)) || decide (150<(l2.length:Int))),J,.tuple #[.agg #[Z aL k.l.length cL,.int .i64 k.lo,.int .i64 k.un,Z aS k.zs.length cS,Z aI init.length cI,.int .i64 (k.each:Int),Z aR r7.length cR],.int .i64 0],.int .i64 (k.n:Int),.tuple #[.agg #[Z aL k.l.length cL,.int .i64 k.lo,.int .i64 k.un,Z aS k.zs.length cS,Z aI init.length cI,.int .i64 (k.each:Int),Z aR r7.length cR],.int .i64 0],.agg #[Z aL k.l.length cL,.int .i64 k.lo,.int .i64 k.un,Z aS k.zs.length cS,Z aI init.length cI,.int .i64 (k.each:Int),Z aR r7.length cR],.int .i64 0,.tuple #[P (Q ⟨X.x,0,I⟩),.int .i64 0],.agg #[Z aL k.l.length cL,.int .i64 k.lo,.int .i64 k.un,Z aS k.zs.length cS,Z aI init.length cI,.int .i64 (k.each:Int),Z aR r7.length cR],.int .i64 (k.n:Int),.tuple #[P (Q ⟨X.x,0,I⟩),.int .i64 0],P (Q ⟨X.x,0,I⟩),.int .i64 0,.int .i64 0,.bool N,.bool N,.int .i64 0,.bool N,.bool N,.bool N,P (Q ⟨X.x,0,I⟩),.bool N,.bool N,.agg #[Z bL k.l.length dL,.int .i64 k.lo,.int .i64 k.un,Z bS k.zs.length dS,Z bI init.length dI,.int .i64 (k.each:Int),Z bR r7.length dR],.int .i64 (k.n:Int),P (Q ⟨Y.y,0,I⟩),Z (Q ⟨bb,off,I⟩) l2.length cap2,.int .i64 (l2.length:Int),.int .i64 (i:Int),.bool O,P (Q ⟨bb,off+i*3,I⟩),.agg #[.int .i64 2,.int .i64 (T:Int),.int .i64 L],P (Q ⟨qb,1,I⟩),.int .i64 (T:Int),.bool (decide ((T:Int)<0)),.bool (decide ((T:Int)<0)),P (Q ⟨qb,1,I⟩),.int .i64 (T:Int),.int .i64 (k.n:Int),.bool (decide (k.n<=T)),.bool (decide ((T:Int)<0) || decide (k.n<=T)),P (Q ⟨qb,0,I⟩),.int .i64 2,.bool N,.bool N,P (Q ⟨qb,0,I⟩),.int .i64 2,.bool O,.bool O,vs 0,vs 1,vs 2,vs 3,vs 4,vs 5,vs 6,vs 7,vs 8,vs 9,vs 10,vs 11,vs 12,vs 13,vs 14,vs 15,u95,u96,u97,u98,u99,u100,u101,u102,u103,u104,u105,u106,u107,u108,u109,u110,u111,u112,u113,u114,u115,u116,J],defers:=[] }) (rE [(6,iG wd (cJ k m T O).2),(13,iF (cJ k m T O).2)] [P (Q ⟨X.x,0,I⟩),P (Q ⟨qb,1,I⟩),.int .i64 (T:Int),P (Q ⟨qb,0,I⟩),.int .i64 2,.bool O,J,P (Q ⟨Y.y,0,I⟩),P (Q ⟨qb,1,I⟩),.int .i64 (T:Int),P (Q ⟨qb,0,I⟩),.int .i64 2,.int .i64 1,J,.bool O,.bool N]) ?ghm ?ghr ?ghc ?ghnd ?ghlit ?gh0 ?ghW ?ghF ?ghS ?gops ?gdone
          case ghm=>kernel_rfl
          case ghr=>kernel_rfl
          case ghc=>kernel_rfl
          case ghnd=>decide
          case ghlit=>intro vs;rfl
          case gh0=>exact⟨HO.out.1,K _,U _ _⟩
          case ghW=>exact fun kk V V2 h hb=>h.below hb
          case ghF=>exact iy (by
           intro p0 hp
           simp only[List.mem_cons,List.not_mem_nil,or_false] at hp
           rcases hp with rfl|rfl
           ·exact fun k v V V2 h hb=>iG.below (j:=k) h hb
           ·exact fun k v V V2 h hb=>iF.below (j:=k) h hb)
          case ghS=>exact fun kk V V2 _ hs=>kG (by
           intro p0 hp
           simp only[List.mem_cons,List.not_mem_nil,or_false] at hp
           rcases hp with rfl|rfl
           ·exact fun v h=>iG.keep (j:=kk) h hs
           ·exact fun v h=>iF.keep (j:=kk) h hs)
          case gops=>
           refine⟨?_,?_,?_,?_,?_,?_,?_,?_,?_,?_,?_,?_,?_,?_,?_,?_,trivial⟩
           ·intro vs V kk h1 h2 hW hd
            refine aa rfl ?_
            clear hd hW
            go_simp
            exact⟨rfl,U _ _⟩
           ·intro vs V kk h1 h2 hW hd
            refine aa rfl ?_
            clear hd hW
            go_simp
            exact⟨rfl,U _ _⟩
           ·intro vs V kk h1 h2 hW hd
            refine aa rfl ?_
            have e1:vs 1=P (Q ⟨qb,1,I⟩):=hd 1 (by decide)
            have y1:V.cell? ⟨qb,1,I⟩=Q (.int .i64 (T:Int)):=hW.1.cell 1
            clear hd hW
            go_simp
            exact⟨rfl,U _ _⟩
           ·intro vs V kk h1 h2 hW hd
            refine aa rfl ?_
            clear hd hW
            go_simp
            exact⟨rfl,U _ _⟩
           ·intro vs V kk h1 h2 hW hd
            refine aa rfl ?_
            have e3:vs 3=P (Q ⟨qb,0,I⟩):=hd 3 (by decide)
            have y0:V.cell? ⟨qb,0,I⟩=Q (.int .i64 2):=hW.1.cell 0
            clear hd hW
            go_simp
            exact⟨rfl,U _ _⟩
           ·intro vs V kk h1 h2 hW hd
            refine aa rfl ?_
            have e4:vs 4=.int .i64 2:=hd 4 (by decide)
            clear hd hW
            go_simp
            exact⟨rfl,U _ _⟩
           ·intro vs V hW hd
            have e0:vs 0=P (Q ⟨X.x,0,I⟩):=hd 0 (by decide)
            have e2:vs 2=.int .i64 (T:Int):=hd 2 (by decide)
            have e5:vs 5=.bool O:=hd 5 (by decide)
            have HV:=R (HX.out V hW)
            refine aM rfl ?_
            clear hd hW
            go_simp
            refine HV.out.mono ?_
            rintro e zz ⟨v9,rfl,h5,h6,h7⟩
            exact⟨_,rfl,h5,h6,h7⟩
           ·intro vs V kk h1 h2 hW hd
            refine aa rfl ?_
            clear hd hW
            go_simp
            exact⟨rfl,U _ _⟩
           ·intro vs V kk h1 h2 hW hd
            refine aa rfl ?_
            clear hd hW
            go_simp
            exact⟨rfl,U _ _⟩
           ·intro vs V kk h1 h2 hW hd
            refine aa rfl ?_
            have e8:vs 8=P (Q ⟨qb,1,I⟩):=hd 8 (by decide)
            have y1:V.cell? ⟨qb,1,I⟩=Q (.int .i64 (T:Int)):=hW.1.cell 1
            clear hd hW
            go_simp
            exact⟨rfl,U _ _⟩
           ·intro vs V kk h1 h2 hW hd
            refine aa rfl ?_
            clear hd hW
            go_simp
            exact⟨rfl,U _ _⟩
           ·intro vs V kk h1 h2 hW hd
            refine aa rfl ?_
            have e10:vs 10=P (Q ⟨qb,0,I⟩):=hd 10 (by decide)
            have y0:V.cell? ⟨qb,0,I⟩=Q (.int .i64 2):=hW.1.cell 0
            clear hd hW
            go_simp
            exact⟨rfl,U _ _⟩
           ·intro vs V kk h1 h2 hW hd
            refine aa rfl ?_
            have e11:vs 11=.int .i64 2:=hd 11 (by decide)
            clear hd hW
            go_simp
            exact⟨rfl,U _ _⟩
           ·intro vs V hW hd
            have e7:vs 7=P (Q ⟨Y.y,0,I⟩):=hd 7 (by decide)
            have e9:vs 9=.int .i64 (T:Int):=hd 9 (by decide)
            have e12:vs 12=.int .i64 1:=hd 12 (by decide)
            have HV:=R (HY.out V hW)
            refine aM rfl ?_
            clear hd hW
            go_simp
            refine HV.out.mono ?_
            rintro e zz ⟨v9,rfl,h5,h6,h7⟩
            exact⟨_,rfl,h5,h6,h7⟩
           ·intro vs V kk h1 h2 hW hd
            have ea:iG wd (cJ k m T O).2 kk (vs 6) V:=hd 6 (by decide)
            have eb:iF (cJ k m T O).2 kk (vs 13) V:=hd 13 (by decide)
            have HV:=R (mS ea eb)
            refine aa rfl ?_
            clear hd hW ea eb
            go_simp
            refine HV.out.mono ?_
            rintro e zz ⟨rfl,h6⟩
            exact⟨_,rfl,rfl,h6⟩
           ·intro vs V kk h1 h2 hW hd
            refine aa rfl ?_
            have e14:vs 14=.bool O:=hd 14 (by decide)
            clear hd hW
            go_simp
            exact⟨rfl,U _ _⟩
          case gdone=>
           intro vs V hW hf
           have f0:vs 0=P (Q ⟨X.x,0,I⟩):=hf 0 (by decide)
           have f1:vs 1=P (Q ⟨qb,1,I⟩):=hf 1 (by decide)
           have f2:vs 2=.int .i64 (T:Int):=hf 2 (by decide)
           have f3:vs 3=P (Q ⟨qb,0,I⟩):=hf 3 (by decide)
           have f4:vs 4=.int .i64 2:=hf 4 (by decide)
           have f5:vs 5=.bool O:=hf 5 (by decide)
           have f7:vs 7=P (Q ⟨Y.y,0,I⟩):=hf 7 (by decide)
           have f8:vs 8=P (Q ⟨qb,1,I⟩):=hf 8 (by decide)
           have f9:vs 9=.int .i64 (T:Int):=hf 9 (by decide)
           have f10:vs 10=P (Q ⟨qb,0,I⟩):=hf 10 (by decide)
           have f11:vs 11=.int .i64 2:=hf 11 (by decide)
           have f12:vs 12=.int .i64 1:=hf 12 (by decide)
           have f14:vs 14=.bool O:=hf 14 (by decide)
           have f15:vs 15=.bool N:=hf 15 (by decide)
           simp only[f0,f1,f2,f3,f4,f5,f7,f8,f9,f10,f11,f12,f14,f15]
           clear f0 f1 f2 f3 f4 f5 f7 f8 f9 f10 f11 f12 f14 f15
           generalize vs 6=rx at *
           generalize vs 13=ry at *
           obtain⟨-,-,M3,Y4,hy4,hT4⟩:i8 W wd k { X with M:=M } Y' m (cJ k m T O).1 qb #[.int .i64 2,.int .i64 (T:Int),.int .i64 L] 2 V:=hW
           have hyF:Y4.y=Y.y:=hy4.trans HO.out.2.2.1
           have HAl:Hid (Calls Tryz.prog 26 #[P (Q ⟨X.x,0,I⟩),P (Q ⟨Y.y,0,I⟩)] V fun e w'=>e=.returned (.bool O)/\Below V.heap.size V w'):=R (by
            have h9:=tL hT4.ex hT4.ey
            rw[hyF] at h9
            exact h9)
           have HT4:=R hT4
           clear hf hT4 hy4
           go_wp2_with fail
           refine HAl.out.mono ?_
           rintro e v9 ⟨rfl,hv9⟩
           have hT9:=HT4.out.below hv9
           clear HAl HT4 hv9
           go_wp2
           go_roundw
           case rel=>exact⟨i+1,M3,Y4,_,by omega,by go_num,hyF,hT9⟩
           case measure=>simp[intOf];omega
        ·have b1:(kd==1)=N:=by simpa using fun e=>hk12 (.inl e)
         have b2:(kd==2)=N:=by simpa using fun e=>hk12 (.inr e)
         clear hk12
         obtain⟨lt,hL9⟩:∃ lt:Bool,min (max L 0) 1=aG lt:=⟨decide (0<L),by unfold aG;by_cases h:0<L <;> simp[h] <;> omega⟩
         have hw1:decide (aG lt=1)=lt:=by cases lt <;> rfl
         have hw2:(aG lt==1)=lt:=by cases lt <;> rfl
         have HX:=R (fun V (hV:i8 W wd k { X with M:=M } Y' m (dv k m T lt).1 qb #[.int .i64 kd,.int .i64 (T:Int),.int .i64 L] 0 V)=>zG HO.out.2.1 (fun V h=>D2 h T ht lt) V hV)
         have HY:=R (fun V (hV:i8 W wd k { X with M:=M } Y' m (dv k m T lt).1 qb #[.int .i64 kd,.int .i64 (T:Int),.int .i64 L] 1 V)=>zF (m':=(dv k m T lt).1) (o:=(dv k m T lt).2) HO.out.2.1 (fun V h=>by
          have h9:=HKK.out.st V Y' m T (aG lt) h ht
          rw[show decide (aG lt≠0)=lt by cases lt <;> rfl] at h9
          exact h9) V hV)
         rw[HO.out.2.2.1] at HY
         go_upto_region 17 with fail
         try rw[hL9]
         refine fj [5,10] (i8 W wd k { X with M:=M } Y' m (dv k m T lt).1 qb #[.int .i64 kd,.int .i64 (T:Int),.int .i64 L]) (wO wd) (fun vs=>{ tmps:=#[.int .i64 (k.n:Int),Z (Q ⟨bb,off,I⟩) l2.length cap2,J,J,u4,P (Q ⟨yb,0,I⟩),.bool O,P (Q ⟨zb,0,I⟩),.int .i64 0,P (Q ⟨X.x,0,I⟩),.int .i64 0,P (Q ⟨Y.y,0,I⟩),J,P (Q ⟨qb,0,I⟩),.int .i64 (aG lt),.tuple #[.agg #[Z bL k.l.length dL,.int .i64 k.lo,.int .i64 k.un,Z bS k.zs.length dS,Z bI init.length dI,.int .i64 (k.each:Int),Z bR r7.length dR],.bool O],.int .i64 (k.n:Int),.tuple #[.agg #[Z bL k.l.length dL,.int .i64 k.lo,.int .i64 k.un,Z bS k.zs.length dS,Z bI init.length dI,.int .i64 (k.each:Int),Z bR r7.length dR],.bool O],.agg #[Z bL k.l.length dL,.int .i64 k.lo,.int .i64 k.un,Z bS k.zs.length dS,Z bI init.length dI,.int .i64 (k.each:Int),Z bR r7.length dR],.bool O,.bool O,.bool N,.bool N,.int .i64 (k.n:Int),.bool (decide (8<(k.n:Int))),.bool (decide (8<(k.n:Int))),.bool (decide (8<(k.n:Int))),Z (Q ⟨bb,off,I⟩) l2.length cap2,.int .i64 (l2.length:Int),.bool (decide (150<(l2.length:Int))),.bool (decide (8<(k.n:Int)) || decide (150<(l2.length:Int))),J,.tuple #[.agg #[Z aL k.l.length cL,.int .i64 k.lo,.int .i64 k.un,Z aS k.zs.length cS,Z aI init.length cI,.int .i64 (k.each:Int),Z aR r7.length cR],.int .i64 0],.int .i64 (k.n:Int),.tuple #[.agg #[Z aL k.l.length cL,.int .i64 k.lo,.int .i64 k.un,Z aS k.zs.length cS,Z aI init.length cI,.int .i64 (k.each:Int),Z aR r7.length cR],.int .i64 0],.agg #[Z aL k.l.length cL,.int .i64 k.lo,.int .i64 k.un,Z aS k.zs.length cS,Z aI init.length cI,.int .i64 (k.each:Int),Z aR r7.length cR],.int .i64 0,.tuple #[P (Q ⟨X.x,0,I⟩),.int .i64 0],.agg #[Z aL k.l.length cL,.int .i64 k.lo,.int .i64 k.un,Z aS k.zs.length cS,Z aI init.length cI,.int .i64 (k.each:Int),Z aR r7.length cR],.int .i64 (k.n:Int),.tuple #[P (Q ⟨X.x,0,I⟩),.int .i64 0],P (Q ⟨X.x,0,I⟩),.int .i64 0,.int .i64 0,.bool N,.bool N,.int .i64 0,.bool N,.bool N,.bool N,P (Q ⟨X.x,0,I⟩),.bool N,.bool N,.agg #[Z bL k.l.length dL,.int .i64 k.lo,.int .i64 k.un,Z bS k.zs.length dS,Z bI init.length dI,.int .i64 (k.each:Int),Z bR r7.length dR],.int .i64 (k.n:Int),P (Q ⟨Y.y,0,I⟩),Z (Q ⟨bb,off,I⟩) l2.length cap2,.int .i64 (l2.length:Int),.int .i64 (i:Int),.bool O,P (Q ⟨bb,off+i*3,I⟩),.agg #[.int .i64 kd,.int .i64 (T:Int),.int .i64 L],P (Q ⟨qb,1,I⟩),.int .i64 (T:Int),.bool (decide ((T:Int)<0)),.bool (decide ((T:Int)<0)),P (Q ⟨qb,1,I⟩),.int .i64 (T:Int),.int .i64 (k.n:Int),.bool (decide (k.n<=T)),.bool (decide ((T:Int)<0) || decide (k.n<=T)),P (Q ⟨qb,0,I⟩),.int .i64 kd,.bool N,.bool N,P (Q ⟨qb,0,I⟩),.int .i64 kd,.bool N,.bool N,u79,u80,u81,u82,u83,u84,u85,u86,u87,u88,u89,u90,u91,u92,u93,u94,P (Q ⟨qb,2,I⟩),.int .i64 L,.int .i64 (max L 0),.int .i64 (aG lt),vs 0,vs 1,vs 2,vs 3,vs 4,vs 5,vs 6,vs 7,vs 8,vs 9,vs 10,vs 11,vs 12,u112,u113,u114,u115,u116,J],defers:=[] }) (rE [(5,iG wd (dv k m T lt).2),(10,iF (dv k m T lt).2)] [P (Q ⟨X.x,0,I⟩),P (Q ⟨qb,1,I⟩),.int .i64 (T:Int),.int .i64 (aG lt),.bool lt,J,P (Q ⟨Y.y,0,I⟩),P (Q ⟨qb,1,I⟩),.int .i64 (T:Int),.int .i64 (aG lt),J,.bool O,.bool N]) ?ghm ?ghr ?ghc ?ghnd ?ghlit ?gh0 ?ghW ?ghF ?ghS ?gops ?gdone
         case ghm=>kernel_rfl
         case ghr=>kernel_rfl
         case ghc=>kernel_rfl
         case ghnd=>decide
         case ghlit=>intro vs;rfl
         case gh0=>exact⟨HO.out.1,K _,U _ _⟩
         case ghW=>exact fun kk V V2 h hb=>h.below hb
         case ghF=>exact iy (by
          intro p0 hp
          simp only[List.mem_cons,List.not_mem_nil,or_false] at hp
          rcases hp with rfl|rfl
          ·exact fun k v V V2 h hb=>iG.below (j:=k) h hb
          ·exact fun k v V V2 h hb=>iF.below (j:=k) h hb)
         case ghS=>exact fun kk V V2 _ hs=>kG (by
          intro p0 hp
          simp only[List.mem_cons,List.not_mem_nil,or_false] at hp
          rcases hp with rfl|rfl
          ·exact fun v h=>iG.keep (j:=kk) h hs
          ·exact fun v h=>iF.keep (j:=kk) h hs)
         case gops=>
          refine⟨?_,?_,?_,?_,?_,?_,?_,?_,?_,?_,?_,?_,?_,trivial⟩
          ·intro vs V kk h1 h2 hW hd
           refine aa rfl ?_
           clear hd hW
           go_simp
           exact⟨rfl,U _ _⟩
          ·intro vs V kk h1 h2 hW hd
           refine aa rfl ?_
           clear hd hW
           go_simp
           exact⟨rfl,U _ _⟩
          ·intro vs V kk h1 h2 hW hd
           refine aa rfl ?_
           have e1:vs 1=P (Q ⟨qb,1,I⟩):=hd 1 (by decide)
           have y1:V.cell? ⟨qb,1,I⟩=Q (.int .i64 (T:Int)):=hW.1.cell 1
           clear hd hW
           go_simp
           exact⟨rfl,U _ _⟩
          ·intro vs V kk h1 h2 hW hd
           refine aa rfl ?_
           clear hd hW
           go_simp
           exact⟨rfl,U _ _⟩
          ·intro vs V kk h1 h2 hW hd
           refine aa rfl ?_
           have e3:vs 3=.int .i64 (aG lt):=hd 3 (by decide)
           clear hd hW
           go_simp
           exact⟨rfl,U _ _⟩
          ·intro vs V hW hd
           have e0:vs 0=P (Q ⟨X.x,0,I⟩):=hd 0 (by decide)
           have e2:vs 2=.int .i64 (T:Int):=hd 2 (by decide)
           have e4:vs 4=.bool lt:=hd 4 (by decide)
           have HV:=R (HX.out V hW)
           refine aM rfl ?_
           clear hd hW
           go_simp
           refine HV.out.mono ?_
           rintro e zz ⟨v9,rfl,h5,h6,h7⟩
           exact⟨_,rfl,h5,h6,h7⟩
          ·intro vs V kk h1 h2 hW hd
           refine aa rfl ?_
           clear hd hW
           go_simp
           exact⟨rfl,U _ _⟩
          ·intro vs V kk h1 h2 hW hd
           refine aa rfl ?_
           clear hd hW
           go_simp
           exact⟨rfl,U _ _⟩
          ·intro vs V kk h1 h2 hW hd
           refine aa rfl ?_
           have e7:vs 7=P (Q ⟨qb,1,I⟩):=hd 7 (by decide)
           have y1:V.cell? ⟨qb,1,I⟩=Q (.int .i64 (T:Int)):=hW.1.cell 1
           clear hd hW
           go_simp
           exact⟨rfl,U _ _⟩
          ·intro vs V kk h1 h2 hW hd
           refine aa rfl ?_
           clear hd hW
           go_simp
           exact⟨rfl,U _ _⟩
          ·intro vs V hW hd
           have e6:vs 6=P (Q ⟨Y.y,0,I⟩):=hd 6 (by decide)
           have e8:vs 8=.int .i64 (T:Int):=hd 8 (by decide)
           have e9:vs 9=.int .i64 (aG lt):=hd 9 (by decide)
           have HV:=R (HY.out V hW)
           refine aM rfl ?_
           clear hd hW
           go_simp
           refine HV.out.mono ?_
           rintro e zz ⟨v9,rfl,h5,h6,h7⟩
           exact⟨_,rfl,h5,h6,h7⟩
          ·intro vs V kk h1 h2 hW hd
           have ea:iG wd (dv k m T lt).2 kk (vs 5) V:=hd 5 (by decide)
           have eb:iF (dv k m T lt).2 kk (vs 10) V:=hd 10 (by decide)
           have HV:=R (mS ea eb)
           refine aa rfl ?_
           clear hd hW ea eb
           go_simp
           refine HV.out.mono ?_
           rintro e zz ⟨rfl,h6⟩
           exact⟨_,rfl,rfl,h6⟩
          ·intro vs V kk h1 h2 hW hd
           refine aa rfl ?_
           have e11:vs 11=.bool O:=hd 11 (by decide)
           clear hd hW
           go_simp
           exact⟨rfl,U _ _⟩
         case gdone=>
          intro vs V hW hf
          have f0:vs 0=P (Q ⟨X.x,0,I⟩):=hf 0 (by decide)
          have f1:vs 1=P (Q ⟨qb,1,I⟩):=hf 1 (by decide)
          have f2:vs 2=.int .i64 (T:Int):=hf 2 (by decide)
          have f3:vs 3=.int .i64 (aG lt):=hf 3 (by decide)
          have f4:vs 4=.bool lt:=hf 4 (by decide)
          have f6:vs 6=P (Q ⟨Y.y,0,I⟩):=hf 6 (by decide)
          have f7:vs 7=P (Q ⟨qb,1,I⟩):=hf 7 (by decide)
          have f8:vs 8=.int .i64 (T:Int):=hf 8 (by decide)
          have f9:vs 9=.int .i64 (aG lt):=hf 9 (by decide)
          have f11:vs 11=.bool O:=hf 11 (by decide)
          have f12:vs 12=.bool N:=hf 12 (by decide)
          simp only[f0,f1,f2,f3,f4,f6,f7,f8,f9,f11,f12]
          clear f0 f1 f2 f3 f4 f6 f7 f8 f9 f11 f12
          generalize vs 5=rx at *
          generalize vs 10=ry at *
          obtain⟨-,-,M3,Y4,hy4,hT4⟩:i8 W wd k { X with M:=M } Y' m (dv k m T lt).1 qb #[.int .i64 kd,.int .i64 (T:Int),.int .i64 L] 2 V:=hW
          have hyF:Y4.y=Y.y:=hy4.trans HO.out.2.2.1
          have HAl:Hid (Calls Tryz.prog 26 #[P (Q ⟨X.x,0,I⟩),P (Q ⟨Y.y,0,I⟩)] V fun e w'=>e=.returned (.bool O)/\Below V.heap.size V w'):=R (by
           have h9:=tL hT4.ex hT4.ey
           rw[hyF] at h9
           exact h9)
          have HT4:=R hT4
          clear hf hT4 hy4
          go_wp2_with fail
          refine HAl.out.mono ?_
          rintro e v9 ⟨rfl,hv9⟩
          have hT9:=HT4.out.below hv9
          clear HAl HT4 hv9
          go_wp2
          go_roundw
          case rel=>exact⟨i+1,M3,Y4,_,by omega,by go_num,hyF,hT9⟩
          case measure=>simp[intOf];omega
       ·go_wp2
        go_roundw
        case rel=>exact⟨i+1,M,Y',m,by omega,by go_num,HO.out.2.2.1,HO.out.2.1⟩
        case measure=>simp[intOf];omega
      ·go_wp2
       go_roundw
       case rel=>exact⟨i+1,M,Y',m,by omega,by go_num,HO.out.2.2.1,HO.out.2.1⟩
       case measure=>simp[intOf];omega
     ·obtain rfl:i=l2.length:=by omega
      have hbe:=hT.bel
      clear hT
      go_wp2_with fail
      refine(HAw.out _ (hbe)).mono ?_
      rintro e w9 ⟨rfl,hw9⟩
      have hf:=(hbe).trans (hw9.mono (hbe).size)
      go_wp2
      go_ret
      exact⟨rfl,hf⟩
   ·have hf1:150<l2.length:=by omega
    go_wp2_with fail
    refine(HAw.out _ (hyb)).mono ?_
    rintro e w9 ⟨rfl,hw9⟩
    have hf:=(hyb).trans (hw9.mono (hyb).size)
    go_wp2
    go_ret
    exact⟨rfl,hf⟩
  ·have hf8:8<k.n:=by omega
   go_wp2_with fail
   refine(HAw.out _ (hyb)).mono ?_
   rintro e w9 ⟨rfl,hw9⟩
   have hf:=(hyb).trans (hw9.mono (hyb).size)
   go_wp2
   go_ret
   exact⟨rfl,hf⟩
 ·have HD:=R (EJ x0 hn).2
  clear hn
  unfold Fi E7 at HD
  go_enter Tryz.func7,Tryz.ntmps7
  go_wp2_with fail
  refine(HD.out W).mono ?_
  rintro e y ⟨rfl,hy⟩
  have hyb:=(bB.trans (hy.mono bB.size)).alloc (o:=S #[Z I 0 0,.int .i64 0,.int .i64 0,Z I 0 0,Z I 0 0,.int .i64 0,Z I 0 0] 36) (bB.trans (hy.mono bB.size)).size
  clear HD
  go_wp2_with fail
  refine(HAw.out _ (hyb)).mono ?_
  rintro e w9 ⟨rfl,hw9⟩
  have hf:=(hyb).trans (hw9.mono (hyb).size)
  go_wp2
  go_ret
  exact⟨rfl,hf⟩
theorem lifted (os:Os)(started:os.Started)(H:Type)(enc:TypeId×Value->H):
 ReturnsInHanded {} Tryz.checked os 7 .any (fun w args=>(Rows.graunkeRunsSpec.pre enc Tryz.prog Tryz.f7 [] N w args/\laidMetH Tryz.prog Rows.graunkeRunsRow.laid w)/\sizedMet enc Tryz.prog Tryz.f7 (OpenSpec.ofChange Rows.graunkeRunsSpec) N w args)
  (Rows.graunkeRunsSpec.post enc Tryz.prog Tryz.f7 N O N N):=by
 refine pa (C:=Tryz.checked) (X:=fun w _=>laidMetH Tryz.prog Rows.graunkeRunsRow.laid w) (fun _ _ _ hh h=>h.of_heap hh) own started (by kernel_rfl) Tryz.func7
  (ChangeSpec.witness_shaped (enc:=enc) (C:=Tryz.checked) (os:=os) (X:=fun w _=>laidMetH Tryz.prog Rows.graunkeRunsRow.laid w) N (World.laidAll Tryz.prog os Rows.graunkeRunsRow.laid) #[.int .i64 0,Z I 0 0] 8 (World.laidAll_os _ _ _)
   (World.shaped_of_ZipB (by kernel_rfl) (by kernel_rfl)) (by kernel_rfl) (by kernel_rfl) (by kernel_rfl)
   (by rw[MakeChecks.laidMetH_plain _ _ _ (by kernel_rfl)];exact laidMet_laidAll _ (by kernel_rfl) (by kernel_rfl))) ?_
 intro W base args ds gs before hval0 hW hL hsh
 have hval:∀ (j:Nat) t v,Tryz.f7.params[j]?=Q t->args[j]?=Q v->Value.okWide Tryz.prog W .any base t v:=hval0
 have hW':=hW
 obtain⟨p,q,hA0,hV,rfl,_,_⟩:=hW
 have hA:DataW.TrodAll enc Tryz.prog W 0 (fun _=>O) O Tryz.f7.params.toList args.toList ds p:=hA0
 rw[Tryz.params7] at hA hval
 obtain⟨v0,vs0,d0,ds0,p0,q0,hargs,rfl,rfl,h0,r0⟩:=trodAll_cons hA
 obtain⟨v1,vs1,d1,ds1,p1,q1,rfl,rfl,rfl,h1,r1⟩:=trodAll_cons r0
 obtain⟨rfl,rfl,rfl⟩:=trodAll_nil r1
 obtain rfl:args=#[v0,v1]:=by cases args;simp_all
 obtain⟨rfl,rfl⟩:=trodVars_none hV
 have k0:=h0
 have lt0:∀ x∈p0,x.block<W.heap.size:=by obtain⟨m,hm⟩:=k0;exact DataW.trod_lt m _ _ _ hm
 obtain⟨x0,rfl,rfl,rfl,f0⟩:=open_int Tryz.underlying3 (hval 0 3 v0 rfl rfl) h0
 have k1:=h1
 have lt1:∀ x∈p1,x.block<W.heap.size:=by obtain⟨m,hm⟩:=k1;exact DataW.trod_lt m _ _ _ hm
 obtain⟨l1,a1,cap1,rfl,S1,hb1⟩:=xH (hval 1 44 v1 rfl rfl) h1
 clear hA0 hval0
 rw[MakeChecks.laidMetH_plain _ _ _ (by kernel_rfl)] at hL
 refine(walk x0 l1 a1 cap1 f0 W S1 hb1 (Ez hL hsh)).mono fun e W' ⟨he,bel⟩=>?_
 subst he
 exact⟨_,rfl,_,_,_,[],_,[],hW',trodAll_mk1 (shut_bool Tryz.underlying4 _),(trodAll_cons_mk (Below.trod uo (by kernel_rfl) (of_decide_eq_true (by kernel_rfl)) k0 bel lt0) (trodAll_cons_mk (Below.trod uo (by kernel_rfl) (of_decide_eq_true (by kernel_rfl)) k1 bel lt1) trodAll_mk0)),rfl,bel.frame _,fun h=>by cases h⟩
theorem over:Rows.graunkeRunsRow.holds Tryz.pinned (OpenSpec.ofChange Rows.graunkeRunsSpec):=
 OpenClaim.holds_of_wide 7 Tryz.f7 rfl rfl rfl rfl rfl rfl rfl ⟨rfl,rfl,rfl,rfl,rfl⟩ rfl rfl rfl rfl rfl (by kernel_rfl) Tryz.func7 (by kernel_rfl)
  (of_decide_eq_true (by kernel_rfl)) (by unfold Func.isWrapper;first | (rw[if_pos (by decide +kernel)];kernel_rfl) | (rw[if_neg (by decide +kernel)];exact⟨rfl,rfl⟩))
  (fun os started H enc _=>lifted os started H enc)
theorem proved:Rows.GraunkeRunsCardSaid:=
 Claim7.holds_tied_plain_at .later [] Rows.graunkeRunsCard.laidKinds O Rows.graunkeRunsCard.stood.harness O over (fun _ h=>by cases h) (by kernel_rfl) (fun _ h=>by cases h) graunkeRuns_row_tie rfl ⟨rfl,rfl⟩ (by kernel_rfl) rfl
  (fun f fn hf hfn=>by
   obtain rfl:f=7:=Option.some.inj ((show Tryz.prog.funcNamed Rows.graunkeRunsRow.func=Q 7 by kernel_rfl).symm.trans hf) |>.symm
   obtain rfl:fn=Tryz.f7:=(Option.some.inj (Tryz.func7.symm.trans hfn)).symm
   exact⟨by kernel_rfl,fun j t ht=>by
    rw[Tryz.params7] at ht
    have hm:t∈[3,44]:=by simpa using Array.mem_of_getElem? ht
    have hall:([3,44].all fun u=>!Tryz.prog.wantsStandIn u)=O:=by kernel_rfl
    exact(show Tryz.prog.wantsStandIn t=N by simpa using List.all_eq_true.1 hall t hm)⟩)
  (by kernel_rfl)
#print axioms proved
end Go.Proofs.YtieiifdhdjhnoaaGreatDoor.graunkeRuns
