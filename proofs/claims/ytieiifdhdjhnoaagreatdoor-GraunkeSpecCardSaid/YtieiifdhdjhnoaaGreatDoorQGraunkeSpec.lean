/- For any lock that may be asked for, and whatever is done with it: GraunkeSpec returns true: the spec of the lock, program and all, is what the document says, or it is refused; no condition. A tied card: the listed variables of the library are tied to the program's text. -/
import Derived.Test.YtieiifdhdjhnoaaGreatDoorQGrA
import Derived.Test.YtieiifdhdjhnoaaGreatDoorQArR
import Derived.ChangeMaps5
set_option linter.unusedVariables false
set_option maxHeartbeats 4000000
set_option maxRecDepth 100000
open Option renaming none->I,some->Q
open Bool renaming false->N,true->O
open Go.Value renaming slice->Z
open Go.Obj renaming cells->P
open Go.Lib renaming hid->S
open Go.RowKit.Below renaming refl->T
open Go renaming undef->R
namespace Go.Proofs.YtieiifdhdjhnoaaGreatDoor.graunkeSpec
open Go.Joins Go.ChangeShapes Go.WideShapes Go.ChangeAt Go.RowKit Go.Deep
theorem walk (x0:Int)(f0:(Lit.int .i64 x0).wf=O)(W:World)(L:Lb W):
 Calls Tryz.prog 3 #[.int .i64 x0] W fun e w'=>e=.returned (.bool O)/\Below W.heap.size W w':=by
 have HLB:Hid (∀ V,Below W.heap.size W V->Lb V):=S (fun V hV=>L.below hV)
 have HAw:Hid (∀ V,Below W.heap.size W V->Calls Tryz.prog 12 #[] V fun e w'=>e=.returned (.bool O)/\Below V.heap.size V w'):=S (fun V hV=>kO V (HLB.out V hV))
 clear f0
 by_cases hn:1<=x0/\x0<=64
 ·obtain⟨k,init,r7,rfl,HOK,HC0,HD0,sx,HT10,HT20⟩:=F2 x0 hn
  have HC:=S (HC0 W L)
  have HD:=S HD0
  have HT1:Hid (∀ V,Below W.heap.size W V->Calls Tryz.prog 13 #[] V fun e w'=>e=.returned (.string sx)/\Below V.heap.size V w'):=S (fun V hV=>HT10 V (HLB.out V hV))
  have HT2:=S HT20
  have HKL:Hid (k.l.length<=1000):=S (by have:=HOK.parts.2.1;omega)
  have hcs:=fun V v u=>pu V v u ⟨k.l,k.lo,k.un⟩ k.zs init r7 k.each
  have HSm:=S hcs
  clear hn L hcs HC0 HD0 HT10 HT20 HOK
  go_enter Tryz.func3,Tryz.ntmps3
  go_wp2_with fail
  refine HC.out.mono ?_
  rintro e y ⟨v,rfl,hsv,hy⟩
  have HSV:=S hsv
  obtain⟨aL,cL,aS,cS,aI,cI,aR,cR,rfl⟩:=tX hsv
  clear hsv
  have hya:Below y.heap.size y (y.alloc (P #[Z aL k.l.length cL,.int .i64 k.lo,.int .i64 k.un,Z aS k.zs.length cS,Z aI init.length cI,.int .i64 k.each,Z aR r7.length cR] 28)):=(T _ _).alloc (Nat.le_refl _) _
  have q1:=Bk.made y 28 #[Z aL k.l.length cL,.int .i64 k.lo,.int .i64 k.un,Z aS k.zs.length cS,Z aI init.length cI,.int .i64 k.each,Z aR r7.length cR]
  have b1:=hy.trans (hya.mono hy.size)
  have HSV2:=S (HSV.out.below hya)
  obtain⟨yb,hyb⟩:∃ yb,y.heap.size=yb:=⟨_,rfl⟩
  rw[hyb] at q1
  clear HC HSV hy
  go_upto_region 2 with fail
  try rw[hyb]
  generalize y.alloc (P #[Z aL k.l.length cL,.int .i64 k.lo,.int .i64 k.un,Z aS k.zs.length cS,Z aI init.length cI,.int .i64 k.each,Z aR r7.length cR] 28)=z at *
  clear hyb hya
  go_wp2_with fail
  refine(HD.out z).mono ?_
  rintro e z1 ⟨v,rfl,hrv,hz1⟩
  have hsp:=hrv.G3
  obtain⟨bL,dL,bS,dS,bI,dI,bR,dR,rfl⟩:=zj hrv
  have hza:Below z1.heap.size z1 (z1.alloc (P #[Z bL k.l.length dL,.int .i64 k.lo,.int .i64 k.un,Z bS k.zs.length dS,Z bI init.length dI,.int .i64 k.each,Z bR r7.length dR] 36)):=(T _ _).alloc (Nat.le_refl _) _
  have q2:=Bk.made z1 36 #[Z bL k.l.length dL,.int .i64 k.lo,.int .i64 k.un,Z bS k.zs.length dS,Z bI init.length dI,.int .i64 k.each,Z bR r7.length dR]
  have b2:=b1.trans ((hz1.trans (hza.mono hz1.size)).mono b1.size)
  have hq1:=((hz1.trans (hza.mono hz1.size)).block _ (Bk.lt q1)).trans q1
  have HSV3:=S (HSV2.out.below (hz1.trans (hza.mono hz1.size)))
  have HSP:=S (BE.below hsp hza)
  obtain⟨zb,hzb⟩:∃ zb,z1.heap.size=zb:=⟨_,rfl⟩
  rw[hzb] at q2
  clear HD HSV2 hz1 b1 hrv q1 hsp
  go_upto_region 5 with fail
  try rw[hzb]
  generalize z1.alloc (P #[Z bL k.l.length dL,.int .i64 k.lo,.int .i64 k.un,Z bS k.zs.length dS,Z bI init.length dI,.int .i64 k.each,Z bR r7.length dR] 36)=x at *
  clear hza hzb
  have HQ:Hid (∀ V,Below x.heap.size x V->Bk V yb 28 #[Z aL k.l.length cL,.int .i64 k.lo,.int .i64 k.un,Z aS k.zs.length cS,Z aI init.length cI,.int .i64 k.each,Z aR r7.length cR]/\Bk V zb 36 #[Z bL k.l.length dL,.int .i64 k.lo,.int .i64 k.un,Z bS k.zs.length dS,Z bI init.length dI,.int .i64 k.each,Z bR r7.length dR]/\Below W.heap.size W V):=S fun V hV=>⟨(hV.block _ (Bk.lt hq1)).trans hq1,(hV.block _ (Bk.lt q2)).trans q2,b2.trans (hV.mono b2.size)⟩
  clear hq1 q2 b2
  have HRf:Hid (∀ V,Below x.heap.size x V->Calls Tryz.prog 11 #[.agg #[Z aL k.l.length cL,.int .i64 k.lo,.int .i64 k.un,Z aS k.zs.length cS,Z aI init.length cI,.int .i64 k.each,Z aR r7.length cR]] V fun e w'=>∃ v',e=.returned v'/\BE w' v' ⟨k.l,k.lo,k.un⟩ k.zs init r7 k.each/\Below V.heap.size V w'):=S (fun V hV=>(jB (HSV3.out.below hV) HKL.out).mono fun e w' ⟨v',h1,h2,h3⟩=>⟨v',h1,h2.G3,h3⟩)
  have HSm2:Hid (∀ V v,Below x.heap.size x V->BE V v ⟨k.l,k.lo,k.un⟩ k.zs init r7 k.each->Calls Tryz.prog 10 #[v,.agg #[Z bL k.l.length dL,.int .i64 k.lo,.int .i64 k.un,Z bS k.zs.length dS,Z bI init.length dI,.int .i64 k.each,Z bR r7.length dR]] V fun e w'=>e=.returned (.bool O)/\Below V.heap.size V w'):=S (fun V v hV hv=>HSm.out V v _ hv (HSP.out.below hV) (by have:=HKL.out;show k.l.length<=_;omega))
  clear HSm HSV3 HSP
  refine dT [] (fun _ V=>Below x.heap.size x V) (fun _ _ _=>False) (fun vs=>{ tmps:=#[.int .i64 (k.n:Int),R,vs 16,.pointer (Q ⟨yb,0,I⟩),.int .i64 0,.pointer (Q ⟨zb,0,I⟩),.bool O,.tuple #[.agg #[Z aL k.l.length cL,.int .i64 k.lo,.int .i64 k.un,Z aS k.zs.length cS,Z aI init.length cI,.int .i64 (k.each:Int),Z aR r7.length cR],.int .i64 0],.int .i64 (k.n:Int),.tuple #[.agg #[Z aL k.l.length cL,.int .i64 k.lo,.int .i64 k.un,Z aS k.zs.length cS,Z aI init.length cI,.int .i64 (k.each:Int),Z aR r7.length cR],.int .i64 0],.agg #[Z aL k.l.length cL,.int .i64 k.lo,.int .i64 k.un,Z aS k.zs.length cS,Z aI init.length cI,.int .i64 (k.each:Int),Z aR r7.length cR],.int .i64 0,.tuple #[.agg #[Z bL k.l.length dL,.int .i64 k.lo,.int .i64 k.un,Z bS k.zs.length dS,Z bI init.length dI,.int .i64 (k.each:Int),Z bR r7.length dR],.bool O],.int .i64 (k.n:Int),.tuple #[.agg #[Z bL k.l.length dL,.int .i64 k.lo,.int .i64 k.un,Z bS k.zs.length dS,Z bI init.length dI,.int .i64 (k.each:Int),Z bR r7.length dR],.bool O],.agg #[Z bL k.l.length dL,.int .i64 k.lo,.int .i64 k.un,Z bS k.zs.length dS,Z bI init.length dI,.int .i64 (k.each:Int),Z bR r7.length dR],.bool O,.bool O,.bool N,R,R,R,R,R,R,R,R,R,R,R,vs 0,vs 1,vs 2,vs 3,vs 4,vs 5,vs 6,vs 7,vs 8,vs 9,vs 10,vs 11,vs 12,vs 13,vs 14,vs 15],defers:=[] }) (nD [(4,(fun v V=>BE V v ⟨k.l,k.lo,k.un⟩ k.zs init r7 k.each))] [.int .i64 0,.bool O,.bool O,.agg #[Z aL k.l.length cL,.int .i64 k.lo,.int .i64 k.un,Z aS k.zs.length cS,Z aI init.length cI,.int .i64 k.each,Z aR r7.length cR],R,.agg #[Z bL k.l.length dL,.int .i64 k.lo,.int .i64 k.un,Z bS k.zs.length dS,Z bI init.length dI,.int .i64 k.each,Z bR r7.length dR],.bool O,.bool O,.bool O,.string sx,.string sx,.bool O,.bool O,.bool O,.bool O,.bool O,.bool O]) ?ghm ?ghr ?ghc ?ghnd ?ghlit ?gh0 ?ghW ?ghF ?ghS ?gops ?gdone
  case ghm=>kernel_rfl
  case ghr=>kernel_rfl
  case ghc=>kernel_rfl
  case ghnd=>decide
  case ghlit=>intro vs;rfl
  case gh0=>exact T _ _
  case ghW=>exact fun kk V V2 h hb=>h.trans (hb.mono h.size)
  case ghF=>exact dW (by
   intro p0 hp
   simp only[List.mem_cons,List.not_mem_nil,or_false] at hp
   rcases hp with rfl
   exact fun v V V2 h hb=>BE.below h hb)
  case ghS=>exact fun kk V V2 _ hs i v h=>hs.elim
  case gops=>
   refine⟨?_,?_,?_,?_,?_,?_,?_,?_,?_,?_,?_,?_,?_,?_,?_,?_,?_,trivial⟩
   ·intro vs V kk h1 h2 hW hd
    obtain rfl:kk=0:=Nat.le_zero.1 h2
    refine aa rfl ?_
    clear hd
    go_simp
    exact⟨rfl,T _ _⟩
   ·intro vs V kk h1 h2 hW hd
    obtain rfl:kk=0:=Nat.le_zero.1 h2
    refine aa rfl ?_
    have e0:vs 0=.int .i64 0:=hd 0 (by decide)
    clear hd
    go_simp
    exact⟨rfl,T _ _⟩
   ·intro vs V kk h1 h2 hW hd
    obtain rfl:kk=0:=Nat.le_zero.1 h2
    refine aa rfl ?_
    have e1:vs 1=.bool O:=hd 1 (by decide)
    clear hd
    go_simp
    exact⟨rfl,T _ _⟩
   ·intro vs V kk h1 h2 hW hd
    obtain rfl:kk=0:=Nat.le_zero.1 h2
    have eg:vs 2=.bool O:=hd 2 (by decide)
    refine cJ rfl (by show (match Q (vs 2) with | some (.bool b)=>Q b | _=>I)=Q O;rw[eg]) ?_
    clear eg
    have hq:=(HQ.out V hW).1
    obtain⟨y0,y1,y2,y3,y4,y5,y6⟩:=hq.lZ
    clear hq
    clear hd
    go_simp
    exact⟨rfl,T _ _⟩
   ·intro vs V kk h1 h2 hW hd
    obtain rfl:kk=0:=Nat.le_zero.1 h2
    have eg:vs 2=.bool O:=hd 2 (by decide)
    refine cJ rfl (by show (match Q (vs 2) with | some (.bool b)=>Q b | _=>I)=Q O;rw[eg]) ?_
    clear eg
    have e3:vs 3=.agg #[Z aL k.l.length cL,.int .i64 k.lo,.int .i64 k.un,Z aS k.zs.length cS,Z aI init.length cI,.int .i64 k.each,Z aR r7.length cR]:=hd 3 (by decide)
    clear hd
    go_simp
    refine(HRf.out V hW).mono ?_
    rintro e zz ⟨v',rfl,h5,h6⟩
    exact⟨_,rfl,h5,h6⟩
   ·intro vs V kk h1 h2 hW hd
    obtain rfl:kk=0:=Nat.le_zero.1 h2
    have eg:vs 2=.bool O:=hd 2 (by decide)
    refine cJ rfl (by show (match Q (vs 2) with | some (.bool b)=>Q b | _=>I)=Q O;rw[eg]) ?_
    clear eg
    have hq:=(HQ.out V hW).2.1
    obtain⟨y0,y1,y2,y3,y4,y5,y6⟩:=hq.lZ
    clear hq
    clear hd
    go_simp
    exact⟨rfl,T _ _⟩
   ·intro vs V kk h1 h2 hW hd
    obtain rfl:kk=0:=Nat.le_zero.1 h2
    have eg:vs 2=.bool O:=hd 2 (by decide)
    refine cJ rfl (by show (match Q (vs 2) with | some (.bool b)=>Q b | _=>I)=Q O;rw[eg]) ?_
    clear eg
    have e5:vs 5=.agg #[Z bL k.l.length dL,.int .i64 k.lo,.int .i64 k.un,Z bS k.zs.length dS,Z bI init.length dI,.int .i64 k.each,Z bR r7.length dR]:=hd 5 (by decide)
    have e4:BE V (vs 4) ⟨k.l,k.lo,k.un⟩ k.zs init r7 k.each:=hd 4 (by decide)
    have HS4:=S (HSm2.out V (vs 4) hW e4)
    clear e4
    clear hd
    go_simp
    refine HS4.out.mono ?_
    rintro e zz ⟨rfl,h6⟩
    exact⟨_,rfl,rfl,h6⟩
   ·intro vs V kk h1 h2 hW hd
    obtain rfl:kk=0:=Nat.le_zero.1 h2
    refine aa rfl ?_
    have e2:vs 2=.bool O:=hd 2 (by decide)
    have e6:vs 6=.bool O:=hd 6 (by decide)
    clear hd
    go_simp
    exact⟨rfl,T _ _⟩
   ·intro vs V kk h1 h2 hW hd
    obtain rfl:kk=0:=Nat.le_zero.1 h2
    refine aa rfl ?_
    have e7:vs 7=.bool O:=hd 7 (by decide)
    clear hd
    go_simp
    exact⟨rfl,T _ _⟩
   ·intro vs V kk h1 h2 hW hd
    obtain rfl:kk=0:=Nat.le_zero.1 h2
    have eg:vs 8=.bool O:=hd 8 (by decide)
    refine cJ rfl (by show (match Q (vs 8) with | some (.bool b)=>Q b | _=>I)=Q O;rw[eg]) ?_
    clear eg
    have HA9:=S (HT1.out V (HQ.out V hW).2.2)
    clear hd
    go_simp
    refine HA9.out.mono ?_
    rintro e zz ⟨rfl,h6⟩
    exact⟨_,rfl,rfl,h6⟩
   ·intro vs V kk h1 h2 hW hd
    obtain rfl:kk=0:=Nat.le_zero.1 h2
    have eg:vs 8=.bool O:=hd 8 (by decide)
    refine cJ rfl (by show (match Q (vs 8) with | some (.bool b)=>Q b | _=>I)=Q O;rw[eg]) ?_
    clear eg
    clear hd
    go_simp
    refine(HT2.out V).mono ?_
    rintro e zz ⟨rfl,h6⟩
    exact⟨_,rfl,rfl,h6⟩
   ·intro vs V kk h1 h2 hW hd
    obtain rfl:kk=0:=Nat.le_zero.1 h2
    have eg:vs 8=.bool O:=hd 8 (by decide)
    refine cJ rfl (by show (match Q (vs 8) with | some (.bool b)=>Q b | _=>I)=Q O;rw[eg]) ?_
    clear eg
    have e9:vs 9=.string sx:=hd 9 (by decide)
    have e10:vs 10=.string sx:=hd 10 (by decide)
    clear hd
    go_simp
    exact⟨rfl,T _ _⟩
   ·intro vs V kk h1 h2 hW hd
    obtain rfl:kk=0:=Nat.le_zero.1 h2
    refine aa rfl ?_
    have e8:vs 8=.bool O:=hd 8 (by decide)
    have e11:vs 11=.bool O:=hd 11 (by decide)
    clear hd
    go_simp
    exact⟨rfl,T _ _⟩
   ·intro vs V kk h1 h2 hW hd
    obtain rfl:kk=0:=Nat.le_zero.1 h2
    refine aa rfl ?_
    have e12:vs 12=.bool O:=hd 12 (by decide)
    clear hd
    go_simp
    exact⟨rfl,T _ _⟩
   ·intro vs V kk h1 h2 hW hd
    obtain rfl:kk=0:=Nat.le_zero.1 h2
    have eg:vs 13=.bool O:=hd 13 (by decide)
    refine cJ rfl (by show (match Q (vs 13) with | some (.bool b)=>Q b | _=>I)=Q O;rw[eg]) ?_
    clear eg
    have HA9:=S (HAw.out V (HQ.out V hW).2.2)
    clear hd
    go_simp
    refine HA9.out.mono ?_
    rintro e zz ⟨rfl,h6⟩
    exact⟨_,rfl,rfl,h6⟩
   ·intro vs V kk h1 h2 hW hd
    obtain rfl:kk=0:=Nat.le_zero.1 h2
    refine aa rfl ?_
    have e13:vs 13=.bool O:=hd 13 (by decide)
    have e14:vs 14=.bool O:=hd 14 (by decide)
    clear hd
    go_simp
    exact⟨rfl,T _ _⟩
   ·intro vs V kk h1 h2 hW hd
    obtain rfl:kk=0:=Nat.le_zero.1 h2
    refine aa rfl ?_
    have e15:vs 15=.bool O:=hd 15 (by decide)
    clear hd
    go_simp
    exact⟨rfl,T _ _⟩
  case gdone=>
   intro vs V hW hf
   have f0:vs 0=.int .i64 0:=hf 0 (by decide)
   have f1:vs 1=.bool O:=hf 1 (by decide)
   have f2:vs 2=.bool O:=hf 2 (by decide)
   have f3:vs 3=.agg #[Z aL k.l.length cL,.int .i64 k.lo,.int .i64 k.un,Z aS k.zs.length cS,Z aI init.length cI,.int .i64 k.each,Z aR r7.length cR]:=hf 3 (by decide)
   have f5:vs 5=.agg #[Z bL k.l.length dL,.int .i64 k.lo,.int .i64 k.un,Z bS k.zs.length dS,Z bI init.length dI,.int .i64 k.each,Z bR r7.length dR]:=hf 5 (by decide)
   have f6:vs 6=.bool O:=hf 6 (by decide)
   have f7:vs 7=.bool O:=hf 7 (by decide)
   have f8:vs 8=.bool O:=hf 8 (by decide)
   have f9:vs 9=.string sx:=hf 9 (by decide)
   have f10:vs 10=.string sx:=hf 10 (by decide)
   have f11:vs 11=.bool O:=hf 11 (by decide)
   have f12:vs 12=.bool O:=hf 12 (by decide)
   have f13:vs 13=.bool O:=hf 13 (by decide)
   have f14:vs 14=.bool O:=hf 14 (by decide)
   have f15:vs 15=.bool O:=hf 15 (by decide)
   have f16:vs 16=.bool O:=hf 16 (by decide)
   simp only[f0,f1,f2,f3,f5,f6,f7,f8,f9,f10,f11,f12,f13,f14,f15,f16]
   clear f0 f1 f2 f3 f5 f6 f7 f8 f9 f10 f11 f12 f13 f14 f15 f16
   generalize vs 4=r4 at *
   have hfin:=(HQ.out V hW).2.2
   clear hf HQ
   go_wp2
   go_ret
   exact⟨rfl,hfin⟩
 ·obtain⟨HC0,HD0⟩:=zv x0 hn
  have HC:=S (HC0 W)
  have HD:=S HD0
  have HRf:Hid (∀ V,Calls Tryz.prog 11 #[BR] V fun e w'=>∃ v',e=.returned v'/\BE w' v' gp.zero [] [] [] 0/\Below V.heap.size V w'):=S (fun V=>(jB (B6 V) (by decide)).mono fun e w' ⟨v',h1,h2,h3⟩=>⟨v',h1,h2.G3,h3⟩)
  have HSm:Hid (∀ V v,BE V v gp.zero [] [] [] 0->Calls Tryz.prog 10 #[v,BR] V fun e w'=>e=.returned (.bool O)/\Below V.heap.size V w'):=S (fun V v hv=>pu V v BR gp.zero [] [] [] 0 hv (zU V) (by decide))
  clear hn L HC0 HD0
  unfold Gx at HC
  unfold BV at HD
  unfold BR at HC HD HRf HSm
  go_enter Tryz.func3,Tryz.ntmps3
  go_wp2_with fail
  refine HC.out.mono ?_
  rintro e y ⟨rfl,hy⟩
  have b1:=hy.alloc (o:=P #[Z I 0 0,.int .i64 0,.int .i64 0,Z I 0 0,Z I 0 0,.int .i64 0,Z I 0 0] 28) hy.size
  have q1:=Bk.made y 28 #[Z I 0 0,.int .i64 0,.int .i64 0,Z I 0 0,Z I 0 0,.int .i64 0,Z I 0 0]
  clear HC hy
  obtain⟨yb,hyb⟩:∃ yb,y.heap.size=yb:=⟨_,rfl⟩
  rw[hyb] at q1
  go_upto_region 2 with fail
  try rw[hyb]
  generalize y.alloc (P #[Z I 0 0,.int .i64 0,.int .i64 0,Z I 0 0,Z I 0 0,.int .i64 0,Z I 0 0] 28)=z at *
  clear hyb
  go_wp2_with fail
  refine(HD.out z).mono ?_
  rintro e z1 ⟨rfl,hz1⟩
  have hz2:=hz1.trans (((T z1.heap.size z1).alloc (Nat.le_refl _) (P #[Z I 0 0,.int .i64 0,.int .i64 0,Z I 0 0,Z I 0 0,.int .i64 0,Z I 0 0] 36)).mono hz1.size)
  have b2:=b1.trans (hz2.mono b1.size)
  replace q1:Bk (z1.alloc (P #[Z I 0 0,.int .i64 0,.int .i64 0,Z I 0 0,Z I 0 0,.int .i64 0,Z I 0 0] 36)) yb 28 #[Z I 0 0,.int .i64 0,.int .i64 0,Z I 0 0,Z I 0 0,.int .i64 0,Z I 0 0]:=(hz2.block _ (Bk.lt q1)).trans q1
  clear HD hz1 hz2 b1
  go_upto_region 4 with fail
  generalize z1.alloc (P #[Z I 0 0,.int .i64 0,.int .i64 0,Z I 0 0,Z I 0 0,.int .i64 0,Z I 0 0] 36)=x at *
  obtain⟨y0,y1,y2,y3,y4,y5,y6⟩:=q1.lZ
  clear q1
  go_wp2_with fail
  refine(HRf.out x).mono ?_
  rintro e x2 ⟨v2,rfl,hsp,hx2⟩
  have b3:=b2.trans (hx2.mono b2.size)
  have HS2:=S (HSm.out x2 v2 hsp)
  clear HRf HSm y0 y1 y2 y3 y4 y5 y6 hsp b2 hx2
  go_wp2_with fail
  refine HS2.out.mono ?_
  rintro e x3 ⟨rfl,hx3⟩
  have b4:=b3.trans (hx3.mono b3.size)
  clear HS2 hx3 b3
  go_wp2_with fail
  refine(HAw.out _ (b4)).mono ?_
  rintro e w9 ⟨rfl,hw9⟩
  have hf:=(b4).trans (hw9.mono (b4).size)
  go_wp2
  go_ret
  exact⟨rfl,hf⟩
theorem lifted (os:Os)(started:os.Started)(H:Type)(enc:TypeId×Value->H):
 ReturnsInHanded {} Tryz.checked os 3 .any (fun w args=>(Rows.graunkeSpecSpec.pre enc Tryz.prog Tryz.f3 [] N w args/\laidMetH Tryz.prog Rows.graunkeSpecRow.laid w)/\sizedMet enc Tryz.prog Tryz.f3 (OpenSpec.ofChange Rows.graunkeSpecSpec) N w args)
  (Rows.graunkeSpecSpec.post enc Tryz.prog Tryz.f3 N O N N):=by
 refine fM (C:=Tryz.checked) (X:=fun w _=>laidMetH Tryz.prog Rows.graunkeSpecRow.laid w) (fun _ _ _ hh h=>h.of_heap hh) GS started (by kernel_rfl) Tryz.func3
  (ChangeSpec.witness_shaped (enc:=enc) (C:=Tryz.checked) (os:=os) (X:=fun w _=>laidMetH Tryz.prog Rows.graunkeSpecRow.laid w) N (World.laidAll Tryz.prog os Rows.graunkeSpecRow.laid) #[.int .i64 0] 8 (World.laidAll_os _ _ _)
   (World.shaped_of_ZipB (by kernel_rfl) (by kernel_rfl)) (by kernel_rfl) (by kernel_rfl) (by kernel_rfl)
   (by rw[MakeChecks.laidMetH_plain _ _ _ (by kernel_rfl)];exact laidMet_laidAll _ (by kernel_rfl) (by kernel_rfl))) ?_
 intro W base args ds gs before hval0 hW hL hsh
 have hval:∀ (j:Nat) t v,Tryz.f3.params[j]?=Q t->args[j]?=Q v->Value.okWide Tryz.prog W .any base t v:=hval0
 have hW':=hW
 obtain⟨p,q,hA0,hV,rfl,_,_⟩:=hW
 have hA:DataW.TrodAll enc Tryz.prog W 0 (fun _=>O) O Tryz.f3.params.toList args.toList ds p:=hA0
 rw[Tryz.params3] at hA hval
 obtain⟨v0,vs0,d0,ds0,p0,q0,hargs,rfl,rfl,h0,r0⟩:=trodAll_cons hA
 obtain⟨rfl,rfl,rfl⟩:=trodAll_nil r0
 obtain rfl:args=#[v0]:=by cases args;simp_all
 obtain⟨rfl,rfl⟩:=trodVars_none hV
 have k0:=h0
 have lt0:∀ x∈p0,x.block<W.heap.size:=by obtain⟨m,hm⟩:=k0;exact DataW.trod_lt m _ _ _ hm
 obtain⟨x0,rfl,rfl,rfl,f0⟩:=open_int Tryz.underlying3 (hval 0 3 v0 rfl rfl) h0
 clear hA0 hval0
 rw[MakeChecks.laidMetH_plain _ _ _ (by kernel_rfl)] at hL
 refine(walk x0 f0 W  (zq hL hsh)).mono fun e W' ⟨he,bel⟩=>?_
 subst he
 exact⟨_,rfl,_,_,_,[],_,[],hW',trodAll_mk1 (shut_bool Tryz.underlying4 _),(trodAll_cons_mk (Below.trod Au (by kernel_rfl) (of_decide_eq_true (by kernel_rfl)) k0 bel lt0) trodAll_mk0),rfl,bel.frame _,fun h=>by cases h⟩
theorem over:Rows.graunkeSpecRow.holds Tryz.pinned (OpenSpec.ofChange Rows.graunkeSpecSpec):=
 OpenClaim.holds_of_wide 3 Tryz.f3 rfl rfl rfl rfl rfl rfl rfl ⟨rfl,rfl,rfl,rfl,rfl⟩ rfl rfl rfl rfl rfl (by kernel_rfl) Tryz.func3 (by kernel_rfl)
  (of_decide_eq_true (by kernel_rfl)) (by unfold Func.isWrapper;first | (rw[if_pos (by decide +kernel)];kernel_rfl) | (rw[if_neg (by decide +kernel)];exact⟨rfl,rfl⟩))
  (fun os started H enc _=>lifted os started H enc)
theorem proved:Rows.GraunkeSpecCardSaid:=
 Claim7.holds_tied_plain_at .later [] Rows.graunkeSpecCard.laidKinds O Rows.graunkeSpecCard.stood.harness O over (fun _ h=>by cases h) (by kernel_rfl) (fun _ h=>by cases h) graunkeSpec_row_tie rfl ⟨rfl,rfl⟩ (by kernel_rfl) rfl
  (fun f fn hf hfn=>by
   obtain rfl:f=3:=Option.some.inj ((show Tryz.prog.funcNamed Rows.graunkeSpecRow.func=Q 3 by kernel_rfl).symm.trans hf) |>.symm
   obtain rfl:fn=Tryz.f3:=(Option.some.inj (Tryz.func3.symm.trans hfn)).symm
   exact⟨by kernel_rfl,fun j t ht=>by
    rw[Tryz.params3] at ht
    have hm:t∈[3]:=by simpa using Array.mem_of_getElem? ht
    have hall:([3].all fun u=>!Tryz.prog.wantsStandIn u)=O:=by kernel_rfl
    exact(show Tryz.prog.wantsStandIn t=N by simpa using List.all_eq_true.1 hall t hm)⟩)
  (by kernel_rfl)
#print axioms proved
end Go.Proofs.YtieiifdhdjhnoaaGreatDoor.graunkeSpec
