/- For any two numbers of threads: GraunkeProgram returns true: the program doesn't hang on how many threads there are; no condition. A tied card: the listed variables of the library are tied to the program's text. -/
import Derived.Test.YtieiifdhdjhnoaaDoorPAsmF
import Derived.Test.YtieiifdhdjhnoaaDoorPRuI
import Derived.ChangeMaps5
set_option linter.unusedVariables false
set_option maxHeartbeats 4000000
set_option maxRecDepth 100000
open Option renaming none->I
open Bool renaming false->Q,true->N
open Go.Value renaming slice->O
open Go.Obj renaming cells->Z
open Go.Lib renaming hid->P
open Go.RowKit.Below renaming refl->S
open Go renaming undef->T
namespace Go.Proofs.YtieiifdhdjhnoaaDoor.graunkeProgram
open Go.Joins Go.ChangeShapes Go.WideShapes Go.ChangeAt Go.RowKit Go.Deep
theorem walk (x0 x1:Int)(f0:(Lit.int .i64 x0).wf=N)(f1:(Lit.int .i64 x1).wf=N)(W:World)(L:Lb W):
 Calls Tryd.prog 3 #[.int .i64 x0,.int .i64 x1] W fun e w'=>e=.returned (.bool N)/\Below W.heap.size W w':=by
 have HLB:Hid (∀ V,Below W.heap.size W V->Lb V):=P (fun V hV=>L.below hV)
 have HAw:Hid (∀ V,Below W.heap.size W V->Calls Tryd.prog 5 #[] V fun e w'=>e=.returned (.bool N)/\Below V.heap.size V w'):=P (fun V hV=>lq V (HLB.out V hV))
 have HPC:Hid (∀ (x:Int),(1<=x/\x<=64)->∀ V,Below W.heap.size W V->Calls Tryd.prog 4 #[.int .i64 x] V (oC m6 V)):=P (fun x hx V hV=>by
  obtain⟨k,init,r7,rfl,hc,h⟩:=nF x hx
  exact(h V (HLB.out V hV)).mono fun e w' h9=>h9.one hc)
 have hcl:m6.l.length<=maxLen:=by unfold maxLen;decide
 have hcm:m6.l.length<=1000:=by decide
 clear f0 f1 L
 have bB:=S W.heap.size W
 generalize m6=c at *
 by_cases hn:1<=x0/\x0<=64
 ·have HC1:=P (HPC.out x0 hn)
  by_cases hm:1<=x1/\x1<=64
  ·have HC2:=P (HPC.out x1 hm)
   have HRf:Hid (∀ V v zs xs rr k,Sv V v c zs xs rr k->Calls Tryd.prog 7 #[v] V fun e w'=>∃ v',e=.returned v'/\jb w' v' c zs xs rr k/\Below V.heap.size V w'):=P (fun V v zs xs rr k hv=>(no hv hcm).mono fun e w' ⟨v',h1,h2,h3⟩=>⟨v',h1,h2.oN,h3⟩)
   have HSm:Hid (∀ V v u,jb V v c [] [] [] 0->jb V u c [] [] [] 0->Calls Tryd.prog 6 #[v,u] V fun e w'=>e=.returned (.bool N)/\Below V.heap.size V w'):=P (fun V v u h1 h2=>jK V v u c [] [] [] 0 h1 h2 (by omega))
   clear hn hm hcl hcm HPC
   go_enter Tryd.func3,Tryd.ntmps3
   go_wp2_with fail
   refine(HC1.out W bB).mono ?_
   rintro e y ⟨v,zs1,in1,rr1,ea1,rfl,hsv,hy⟩
   have HSV1:=P hsv
   obtain⟨aL,cL,aS,cS,aI,cI,aR,cR,rfl⟩:=gj hsv
   have hya:Below y.heap.size y (y.alloc (Z #[O aL c.l.length cL,.int .i64 c.lo,.int .i64 c.un,O aS zs1.length cS,O aI in1.length cI,.int .i64 ea1,O aR rr1.length cR] 28)):=(S _ _).alloc (Nat.le_refl _) _
   have q1:=Bk.made y 28 #[O aL c.l.length cL,.int .i64 c.lo,.int .i64 c.un,O aS zs1.length cS,O aI in1.length cI,.int .i64 ea1,O aR rr1.length cR]
   have b1:=(bB.trans (hy.mono bB.size)).trans (hya.mono (bB.trans (hy.mono bB.size)).size)
   have HSV2:=P (HSV1.out.below hya)
   obtain⟨yb,hyb⟩:∃ yb,y.heap.size=yb:=⟨_,rfl⟩
   rw[hyb] at q1
   clear HC1 HSV1 hy bB hsv
   go_upto_region 2 with fail
   try rw[hyb]
   generalize y.alloc (Z #[O aL c.l.length cL,.int .i64 c.lo,.int .i64 c.un,O aS zs1.length cS,O aI in1.length cI,.int .i64 ea1,O aR rr1.length cR] 28)=z at *
   clear hyb hya
   go_wp2_with fail
   refine(HC2.out z b1).mono ?_
   rintro e z1 ⟨v,zs2,in2,rr2,ea2,rfl,hsv,hz1⟩
   have HSW1:=P hsv
   obtain⟨bL,dL,bS,dS,bI,dI,bR,dR,rfl⟩:=gj hsv
   have hza:Below z1.heap.size z1 (z1.alloc (Z #[O bL c.l.length dL,.int .i64 c.lo,.int .i64 c.un,O bS zs2.length dS,O bI in2.length dI,.int .i64 ea2,O bR rr2.length dR] 28)):=(S _ _).alloc (Nat.le_refl _) _
   have q2:=Bk.made z1 28 #[O bL c.l.length dL,.int .i64 c.lo,.int .i64 c.un,O bS zs2.length dS,O bI in2.length dI,.int .i64 ea2,O bR rr2.length dR]
   have hzz:=hz1.trans (hza.mono hz1.size)
   have b2:=b1.trans (hzz.mono b1.size)
   have hq1:=(hzz.block _ (Bk.lt q1)).trans q1
   have HSV3:=P (HSV2.out.below hzz)
   have HSW2:=P (HSW1.out.below hza)
   obtain⟨zb,hzb⟩:∃ zb,z1.heap.size=zb:=⟨_,rfl⟩
   rw[hzb] at q2
   clear HC2 HSV2 HSW1 hz1 hzz b1 q1 hsv
   go_upto_region 5 with fail
   try rw[hzb]
   generalize z1.alloc (Z #[O bL c.l.length dL,.int .i64 c.lo,.int .i64 c.un,O bS zs2.length dS,O bI in2.length dI,.int .i64 ea2,O bR rr2.length dR] 28)=x at *
   clear hza hzb
   have HQ:Hid (∀ V,Below x.heap.size x V->Bk V yb 28 #[O aL c.l.length cL,.int .i64 c.lo,.int .i64 c.un,O aS zs1.length cS,O aI in1.length cI,.int .i64 ea1,O aR rr1.length cR]/\Bk V zb 28 #[O bL c.l.length dL,.int .i64 c.lo,.int .i64 c.un,O bS zs2.length dS,O bI in2.length dI,.int .i64 ea2,O bR rr2.length dR]/\Below W.heap.size W V):=P fun V hV=>⟨(hV.block _ (Bk.lt hq1)).trans hq1,(hV.block _ (Bk.lt q2)).trans q2,b2.trans (hV.mono b2.size)⟩
   clear hq1 q2 b2
   refine bW [] (fun _ V=>Below x.heap.size x V) (fun _ _ _=>False) (fun vs=>{ tmps:=#[.int .i64 x0,.int .i64 x1,T,T,vs 12,.pointer (some ⟨yb,0,I⟩),.int .i64 0,.pointer (some ⟨zb,0,I⟩),.int .i64 0,.tuple #[.agg #[O aL c.l.length cL,.int .i64 c.lo,.int .i64 c.un,O aS zs1.length cS,O aI in1.length cI,.int .i64 ea1,O aR rr1.length cR],.int .i64 0],.int .i64 x0,.tuple #[.agg #[O aL c.l.length cL,.int .i64 c.lo,.int .i64 c.un,O aS zs1.length cS,O aI in1.length cI,.int .i64 ea1,O aR rr1.length cR],.int .i64 0],.agg #[O aL c.l.length cL,.int .i64 c.lo,.int .i64 c.un,O aS zs1.length cS,O aI in1.length cI,.int .i64 ea1,O aR rr1.length cR],.int .i64 0,.tuple #[.agg #[O bL c.l.length dL,.int .i64 c.lo,.int .i64 c.un,O bS zs2.length dS,O bI in2.length dI,.int .i64 ea2,O bR rr2.length dR],.int .i64 0],.int .i64 x1,.tuple #[.agg #[O bL c.l.length dL,.int .i64 c.lo,.int .i64 c.un,O bS zs2.length dS,O bI in2.length dI,.int .i64 ea2,O bR rr2.length dR],.int .i64 0],.agg #[O bL c.l.length dL,.int .i64 c.lo,.int .i64 c.un,O bS zs2.length dS,O bI in2.length dI,.int .i64 ea2,O bR rr2.length dR],.int .i64 0,.int .i64 0,.bool Q,.bool Q,.int .i64 0,.bool Q,.bool Q,T,vs 0,vs 1,vs 2,vs 3,vs 4,vs 5,vs 6,vs 7,vs 8,vs 9,vs 10,vs 11],defers:=[] }) (il [(1,(fun v V=>jb V v c zs1 in1 rr1 ea1)),(2,(nU c)),(3,(fun v V=>jb V v c [] [] [] 0)),(5,(fun v V=>jb V v c zs2 in2 rr2 ea2)),(6,(nU c)),(7,(fun v V=>jb V v c [] [] [] 0))] [.agg #[O aL c.l.length cL,.int .i64 c.lo,.int .i64 c.un,O aS zs1.length cS,O aI in1.length cI,.int .i64 ea1,O aR rr1.length cR],T,T,T,.agg #[O bL c.l.length dL,.int .i64 c.lo,.int .i64 c.un,O bS zs2.length dS,O bI in2.length dI,.int .i64 ea2,O bR rr2.length dR],T,T,T,.bool N,.bool N,.bool N,.bool N,.bool N]) ?ghm ?ghr ?ghc ?ghnd ?ghlit ?gh0 ?ghW ?ghF ?ghS ?gops ?gdone
   case ghm=>kernel_rfl
   case ghr=>kernel_rfl
   case ghc=>kernel_rfl
   case ghnd=>decide
   case ghlit=>intro vs;rfl
   case gh0=>exact S _ _
   case ghW=>exact fun kk V V2 h hb=>h.trans (hb.mono h.size)
   case ghF=>exact cJ (by
    intro p0 hp
    simp only[List.mem_cons,List.not_mem_nil,or_false] at hp
    rcases hp with rfl|rfl|rfl|rfl|rfl|rfl
    ·exact fun v V V2 h hb=>jb.below h hb
    ·exact fun v V V2 h hb=>nU.below h hb
    ·exact fun v V V2 h hb=>jb.below h hb
    ·exact fun v V V2 h hb=>jb.below h hb
    ·exact fun v V V2 h hb=>nU.below h hb
    ·exact fun v V V2 h hb=>jb.below h hb)
   case ghS=>exact fun kk V V2 _ hs i v h=>hs.elim
   case gops=>
    refine⟨?_,?_,?_,?_,?_,?_,?_,?_,?_,?_,?_,?_,?_,trivial⟩
    ·intro vs V kk h1 h2 hW hd
     obtain rfl:kk=0:=Nat.le_zero.1 h2
     refine ah rfl ?_
     have hq:=(HQ.out V hW).1
     obtain⟨y0,y1,y2,y3,y4,y5,y6⟩:=hq.ja
     clear hq
     clear hd
     go_simp
     exact⟨rfl,S _ _⟩
    ·intro vs V kk h1 h2 hW hd
     obtain rfl:kk=0:=Nat.le_zero.1 h2
     refine ah rfl ?_
     have e0:vs 0=.agg #[O aL c.l.length cL,.int .i64 c.lo,.int .i64 c.un,O aS zs1.length cS,O aI in1.length cI,.int .i64 ea1,O aR rr1.length cR]:=hd 0 (by decide)
     have HS:=P (HRf.out V _ _ _ _ _ (HSV3.out.below hW))
     clear hd
     go_simp
     refine HS.out.mono ?_
     rintro e zz ⟨v',rfl,h5,h6⟩
     exact⟨_,rfl,h5,h6⟩
    ·intro vs V kk h1 h2 hW hd
     obtain rfl:kk=0:=Nat.le_zero.1 h2
     refine ah rfl ?_
     obtain⟨gL,hL,gS,hS,gI,hI,gR,hR,e1,gp,-⟩:jb V (vs 1) c zs1 in1 rr1 ea1:=hd 1 (by decide)
     clear hd
     go_simp
     exact⟨⟨gL,hL,rfl,gp⟩,S _ _⟩
    ·intro vs V kk h1 h2 hW hd
     obtain rfl:kk=0:=Nat.le_zero.1 h2
     refine ah rfl ?_
     obtain⟨gL,hL,e2,gp⟩:nU c (vs 2) V:=hd 2 (by decide)
     rw[e2] at gp
     clear hd
     go_simp
     exact⟨gD gp,S _ _⟩
    ·intro vs V kk h1 h2 hW hd
     obtain rfl:kk=0:=Nat.le_zero.1 h2
     refine ah rfl ?_
     have hq:=(HQ.out V hW).2.1
     obtain⟨y0,y1,y2,y3,y4,y5,y6⟩:=hq.ja
     clear hq
     clear hd
     go_simp
     exact⟨rfl,S _ _⟩
    ·intro vs V kk h1 h2 hW hd
     obtain rfl:kk=0:=Nat.le_zero.1 h2
     refine ah rfl ?_
     have e4:vs 4=.agg #[O bL c.l.length dL,.int .i64 c.lo,.int .i64 c.un,O bS zs2.length dS,O bI in2.length dI,.int .i64 ea2,O bR rr2.length dR]:=hd 4 (by decide)
     have HS:=P (HRf.out V _ _ _ _ _ (HSW2.out.below hW))
     clear hd
     go_simp
     refine HS.out.mono ?_
     rintro e zz ⟨v',rfl,h5,h6⟩
     exact⟨_,rfl,h5,h6⟩
    ·intro vs V kk h1 h2 hW hd
     obtain rfl:kk=0:=Nat.le_zero.1 h2
     refine ah rfl ?_
     obtain⟨gL,hL,gS,hS,gI,hI,gR,hR,e5,gp,-⟩:jb V (vs 5) c zs2 in2 rr2 ea2:=hd 5 (by decide)
     clear hd
     go_simp
     exact⟨⟨gL,hL,rfl,gp⟩,S _ _⟩
    ·intro vs V kk h1 h2 hW hd
     obtain rfl:kk=0:=Nat.le_zero.1 h2
     refine ah rfl ?_
     obtain⟨gL,hL,e6,gp⟩:nU c (vs 6) V:=hd 6 (by decide)
     rw[e6] at gp
     clear hd
     go_simp
     exact⟨gD gp,S _ _⟩
    ·intro vs V kk h1 h2 hW hd
     obtain rfl:kk=0:=Nat.le_zero.1 h2
     refine ah rfl ?_
     have g3:jb V (vs 3) c [] [] [] 0:=hd 3 (by decide)
     have g7:jb V (vs 7) c [] [] [] 0:=hd 7 (by decide)
     have HS:=P (HSm.out V _ _ g3 g7)
     clear g3 g7
     clear hd
     go_simp
     refine HS.out.mono ?_
     rintro e zz ⟨rfl,h6⟩
     exact⟨_,rfl,rfl,h6⟩
    ·intro vs V kk h1 h2 hW hd
     obtain rfl:kk=0:=Nat.le_zero.1 h2
     refine ah rfl ?_
     have e8:vs 8=.bool N:=hd 8 (by decide)
     clear hd
     go_simp
     exact⟨rfl,S _ _⟩
    ·intro vs V kk h1 h2 hW hd
     obtain rfl:kk=0:=Nat.le_zero.1 h2
     have eg:vs 9=.bool N:=hd 9 (by decide)
     refine fG rfl (by show (match some (vs 9) with | some (.bool b)=>some b | _=>I)=some N;rw[eg]) ?_
     clear eg
     have HA9:=P (HAw.out V (HQ.out V hW).2.2)
     clear hd
     go_simp
     refine HA9.out.mono ?_
     rintro e zz ⟨rfl,h6⟩
     exact⟨_,rfl,rfl,h6⟩
    ·intro vs V kk h1 h2 hW hd
     obtain rfl:kk=0:=Nat.le_zero.1 h2
     refine ah rfl ?_
     have e9:vs 9=.bool N:=hd 9 (by decide)
     have e10:vs 10=.bool N:=hd 10 (by decide)
     clear hd
     go_simp
     exact⟨rfl,S _ _⟩
    ·intro vs V kk h1 h2 hW hd
     obtain rfl:kk=0:=Nat.le_zero.1 h2
     refine ah rfl ?_
     have e11:vs 11=.bool N:=hd 11 (by decide)
     clear hd
     go_simp
     exact⟨rfl,S _ _⟩
   case gdone=>
    intro vs V hW hf
    have f0:vs 0=.agg #[O aL c.l.length cL,.int .i64 c.lo,.int .i64 c.un,O aS zs1.length cS,O aI in1.length cI,.int .i64 ea1,O aR rr1.length cR]:=hf 0 (by decide)
    have f4:vs 4=.agg #[O bL c.l.length dL,.int .i64 c.lo,.int .i64 c.un,O bS zs2.length dS,O bI in2.length dI,.int .i64 ea2,O bR rr2.length dR]:=hf 4 (by decide)
    have f8:vs 8=.bool N:=hf 8 (by decide)
    have f9:vs 9=.bool N:=hf 9 (by decide)
    have f10:vs 10=.bool N:=hf 10 (by decide)
    have f11:vs 11=.bool N:=hf 11 (by decide)
    have f12:vs 12=.bool N:=hf 12 (by decide)
    simp only[f0,f4,f8,f9,f10,f11,f12]
    clear f0 f4 f8 f9 f10 f11 f12
    generalize vs 1=r1 at *
    generalize vs 2=r2 at *
    generalize vs 3=r3 at *
    generalize vs 5=r5 at *
    generalize vs 6=r6 at *
    generalize vs 7=r7 at *
    have hfin:=(HQ.out V hW).2.2
    clear hf HQ
    go_wp2
    go_ret
    exact⟨rfl,hfin⟩
  ·have HC2:Hid (∀ V,Calls Tryd.prog 4 #[.int .i64 x1] V fun e w'=>e=.returned (.tuple #[oF,.int .i64 5])/\Below V.heap.size V w'):=P (fun V=>dN x1 hm V)
   unfold oF at HC2
   clear hn hm hcl hcm HPC
   go_enter Tryd.func3,Tryd.ntmps3
   go_wp2_with fail
   refine(HC1.out W bB).mono ?_
   rintro e y ⟨v,zs1,in1,rr1,ea1,rfl,hsv,hy⟩
   obtain⟨aL,cL,aS,cS,aI,cI,aR,cR,rfl⟩:=gj hsv
   have b1:=(bB.trans (hy.mono bB.size)).alloc (o:=Z #[O aL c.l.length cL,.int .i64 c.lo,.int .i64 c.un,O aS zs1.length cS,O aI in1.length cI,.int .i64 ea1,O aR rr1.length cR] 28) (bB.trans (hy.mono bB.size)).size
   clear HC1 hy bB hsv
   go_wp2_with fail
   refine(HC2.out _).mono ?_
   rintro e z ⟨rfl,hz⟩
   have b2:=(b1.trans (hz.mono b1.size)).alloc (o:=Z #[O I 0 0,.int .i64 0,.int .i64 0,O I 0 0,O I 0 0,.int .i64 0,O I 0 0] 28) (b1.trans (hz.mono b1.size)).size
   clear HC2 hz b1
   go_wp2_with fail
   refine(HAw.out _ (b2)).mono ?_
   rintro e w9 ⟨rfl,hw9⟩
   have hf:=(b2).trans (hw9.mono (b2).size)
   go_wp2
   go_ret
   exact⟨rfl,hf⟩
 ·have HC1:Hid (∀ V,Calls Tryd.prog 4 #[.int .i64 x0] V fun e w'=>e=.returned (.tuple #[oF,.int .i64 5])/\Below V.heap.size V w'):=P (fun V=>dN x0 hn V)
  have HC2:Hid (∀ V,Below W.heap.size W V->Calls Tryd.prog 4 #[.int .i64 x1] V fun e w'=>∃ (x:Int) (p0:Option Addr) (p1 p2:Nat) (p3 p4:Int) (p5:Option Addr) (p6 p7:Nat) (p8:Option Addr) (p9 q0:Nat) (q1:Int) (q2:Option Addr) (q3 q4:Nat),e=.returned (.tuple #[.agg #[O p0 p1 p2,.int .i64 p3,.int .i64 p4,O p5 p6 p7,O p8 p9 q0,.int .i64 q1,O q2 q3 q4],.int .i64 x])/\Below V.heap.size V w'):=P (fun V hV=>by
   by_cases hm:1<=x1/\x1<=64
   ·refine(HPC.out x1 hm V hV).mono ?_
    rintro e w' ⟨v,zs2,in2,rr2,ea2,rfl,hsv,h⟩
    obtain⟨aL,cL,aS,cS,aI,cI,aR,cR,rfl⟩:=gj hsv
    exact⟨_,_,_,_,_,_,_,_,_,_,_,_,_,_,_,_,rfl,h⟩
   ·refine(dN x1 hm V).mono ?_
    rintro e w' ⟨rfl,h⟩
    exact⟨_,_,_,_,_,_,_,_,_,_,_,_,_,_,_,_,rfl,h⟩)
  unfold oF at HC1
  clear hn hcl hcm HPC
  go_enter Tryd.func3,Tryd.ntmps3
  go_wp2_with fail
  refine(HC1.out W).mono ?_
  rintro e y ⟨rfl,hy⟩
  have b1:=(bB.trans (hy.mono bB.size)).alloc (o:=Z #[O I 0 0,.int .i64 0,.int .i64 0,O I 0 0,O I 0 0,.int .i64 0,O I 0 0] 28) (bB.trans (hy.mono bB.size)).size
  clear HC1 hy bB
  go_wp2_with fail
  refine(HC2.out _ b1).mono ?_
  rintro e z ⟨x,p0,p1,p2,p3,p4,p5,p6,p7,p8,p9,q0,q1,q2,q3,q4,rfl,hz⟩
  have b2:=(b1.trans (hz.mono b1.size)).alloc (o:=Z #[O p0 p1 p2,.int .i64 p3,.int .i64 p4,O p5 p6 p7,O p8 p9 q0,.int .i64 q1,O q2 q3 q4] 28) (b1.trans (hz.mono b1.size)).size
  clear HC2 hz b1
  go_wp2_with fail
  refine(HAw.out _ (b2)).mono ?_
  rintro e w9 ⟨rfl,hw9⟩
  have hf:=(b2).trans (hw9.mono (b2).size)
  go_wp2
  go_ret
  exact⟨rfl,hf⟩
theorem lifted (os:Os)(started:os.Started)(H:Type)(enc:TypeId×Value->H):
 ReturnsInHanded {} Tryd.checked os 3 .any (fun w args=>(Rows.graunkeProgramSpec.pre enc Tryd.prog Tryd.f3 [] Q w args/\laidMetH Tryd.prog Rows.graunkeProgramRow.laid w)/\sizedMet enc Tryd.prog Tryd.f3 (OpenSpec.ofChange Rows.graunkeProgramSpec) Q w args)
  (Rows.graunkeProgramSpec.post enc Tryd.prog Tryd.f3 Q N Q Q):=by
 refine fF (C:=Tryd.checked) (X:=fun w _=>laidMetH Tryd.prog Rows.graunkeProgramRow.laid w) (fun _ _ _ hh h=>h.of_heap hh) oK started (by kernel_rfl) Tryd.func3
  (ChangeSpec.witness_shaped (enc:=enc) (C:=Tryd.checked) (os:=os) (X:=fun w _=>laidMetH Tryd.prog Rows.graunkeProgramRow.laid w) Q (World.laidAll Tryd.prog os Rows.graunkeProgramRow.laid) #[.int .i64 0,.int .i64 0] 8 (World.laidAll_os _ _ _)
   (World.shaped_of_ZipB (by kernel_rfl) (by kernel_rfl)) (by kernel_rfl) (by kernel_rfl) (by kernel_rfl)
   (by rw[MakeChecks.laidMetH_plain _ _ _ (by kernel_rfl)];exact laidMet_laidAll _ (by kernel_rfl) (by kernel_rfl))) ?_
 intro W base args ds gs before hval0 hW hL hsh
 have hval:∀ (j:Nat) t v,Tryd.f3.params[j]?=some t->args[j]?=some v->Value.okWide Tryd.prog W .any base t v:=hval0
 have hW':=hW
 obtain⟨p,q,hA0,hV,rfl,_,_⟩:=hW
 have hA:DataW.TrodAll enc Tryd.prog W 0 (fun _=>N) N Tryd.f3.params.toList args.toList ds p:=hA0
 rw[Tryd.params3] at hA hval
 obtain⟨v0,vs0,d0,ds0,p0,q0,hargs,rfl,rfl,h0,r0⟩:=trodAll_cons hA
 obtain⟨v1,vs1,d1,ds1,p1,q1,rfl,rfl,rfl,h1,r1⟩:=trodAll_cons r0
 obtain⟨rfl,rfl,rfl⟩:=trodAll_nil r1
 obtain rfl:args=#[v0,v1]:=by cases args;simp_all
 obtain⟨rfl,rfl⟩:=trodVars_none hV
 have k0:=h0
 have lt0:∀ x∈p0,x.block<W.heap.size:=by obtain⟨m,hm⟩:=k0;exact DataW.trod_lt m _ _ _ hm
 obtain⟨x0,rfl,rfl,rfl,f0⟩:=open_int Tryd.underlying3 (hval 0 3 v0 rfl rfl) h0
 have k1:=h1
 have lt1:∀ x∈p1,x.block<W.heap.size:=by obtain⟨m,hm⟩:=k1;exact DataW.trod_lt m _ _ _ hm
 obtain⟨x1,rfl,rfl,rfl,f1⟩:=open_int Tryd.underlying3 (hval 1 3 v1 rfl rfl) h1
 clear hA0 hval0
 rw[MakeChecks.laidMetH_plain _ _ _ (by kernel_rfl)] at hL
 refine(walk x0 x1 f0 f1 W  (nZ hL hsh)).mono fun e W' ⟨he,bel⟩=>?_
 subst he
 exact⟨_,rfl,_,_,_,[],_,[],hW',trodAll_mk1 (shut_bool Tryd.underlying4 _),(trodAll_cons_mk (Below.trod gY (by kernel_rfl) (of_decide_eq_true (by kernel_rfl)) k0 bel lt0) (trodAll_cons_mk (Below.trod gY (by kernel_rfl) (of_decide_eq_true (by kernel_rfl)) k1 bel lt1) trodAll_mk0)),rfl,bel.frame _,fun h=>by cases h⟩
theorem over:Rows.graunkeProgramRow.holds Tryd.pinned (OpenSpec.ofChange Rows.graunkeProgramSpec):=
 OpenClaim.holds_of_wide 3 Tryd.f3 rfl rfl rfl rfl rfl rfl rfl ⟨rfl,rfl,rfl,rfl,rfl⟩ rfl rfl rfl rfl rfl (by kernel_rfl) Tryd.func3 (by kernel_rfl)
  (of_decide_eq_true (by kernel_rfl)) (by unfold Func.isWrapper;first | (rw[if_pos (by decide +kernel)];kernel_rfl) | (rw[if_neg (by decide +kernel)];exact⟨rfl,rfl⟩))
  (fun os started H enc _=>lifted os started H enc)
theorem proved:Rows.GraunkeProgramCardSaid:=
 Claim7.holds_tied_plain_at .later [] Rows.graunkeProgramCard.laidKinds N Rows.graunkeProgramCard.stood.harness N over (fun _ h=>by cases h) (by kernel_rfl) (fun _ h=>by cases h) graunkeProgram_row_tie rfl ⟨rfl,rfl⟩ (by kernel_rfl) rfl
  (fun f fn hf hfn=>by
   obtain rfl:f=3:=Option.some.inj ((show Tryd.prog.funcNamed Rows.graunkeProgramRow.func=some 3 by kernel_rfl).symm.trans hf) |>.symm
   obtain rfl:fn=Tryd.f3:=(Option.some.inj (Tryd.func3.symm.trans hfn)).symm
   exact⟨by kernel_rfl,fun j t ht=>by
    rw[Tryd.params3] at ht
    have hm:t∈[3,3]:=by simpa using Array.mem_of_getElem? ht
    have hall:([3,3].all fun u=>!Tryd.prog.wantsStandIn u)=N:=by kernel_rfl
    exact(show Tryd.prog.wantsStandIn t=Q by simpa using List.all_eq_true.1 hall t hm)⟩)
  (by kernel_rfl)
#print axioms proved
end Go.Proofs.YtieiifdhdjhnoaaDoor.graunkeProgram
