/- For any lock that may be asked for, and whatever is done with it: GraunkeRests returns true: once nobody is in a call any more, a call alone comes to the lock within 3 steps, and is over within 1; no condition. A tied card: the listed variables of the library are tied to the program's text. -/
import Derived.Test.YtieiifdhdjhnoaaGreatDoorQGrA
import Derived.Test.YtieiifdhdjhnoaaGreatDoorQStGr
import Derived.Test.YtieiifdhdjhnoaaGreatDoorQRuR
import Derived.Test.YtieiifdhdjhnoaaGreatDoorQRuD
import Derived.ChangeMaps5
set_option linter.unusedVariables false
set_option maxHeartbeats 4000000
set_option maxRecDepth 100000
open Bool renaming false->I,true->Q
open Go.Value renaming slice->N
open Go.Lib renaming hid->O
open Go.RowKit.Below renaming refl->Z
namespace Go.Proofs.YtieiifdhdjhnoaaGreatDoor.graunkeRests
open Go.Joins Go.ChangeShapes Go.WideShapes Go.ChangeAt Go.RowKit Go.Deep
theorem walk (x0:Int)(l2:List oK)(a2:Option Addr)(cap2:Nat)(x9:Int)(f0:(Lit.int .i64 x0).wf=Q)(f9:(Lit.int .u8 x9).wf=Q)(W:World)(S2:pa W.heap.size W a2 l2)(hb2:l2.length<=maxLen)(L:Lb W):
 Calls Tryz.prog 6 #[.int .i64 x0,N a2 l2.length cap2,.int .u8 x9] W fun e w'=>e=.returned (.bool Q)/\Below W.heap.size W w':=by
 have HLB:Hid (∀ V,Below W.heap.size W V->Lb V):=O (fun V hV=>L.below hV)
 have HAw:Hid (∀ V,Below W.heap.size W V->Calls Tryz.prog 12 #[] V fun e w'=>e=.returned (.bool Q)/\Below V.heap.size V w'):=O (fun V hV=>kO V (HLB.out V hV))
 have HS:=O S2
 simp only[maxLen] at hb2
 clear S2
 obtain⟨c,rfl⟩:∃ c:Nat,x9=c:=⟨x9.toNat,by
  simp[Lit.wf,IntKind.min,IntKind.max,IntKind.bits,IntKind.signed] at f9
  omega⟩
 have hc8:c<256:=by
  simp[Lit.wf,IntKind.min,IntKind.max,IntKind.bits,IntKind.signed] at f9
  omega
 clear f9
 clear L
 have bB:=Z W.heap.size W
 by_cases hn:1<=x0/\x0<=64
 ·obtain⟨k,init,r7,rfl,HK,HC0,HD⟩:=BI x0 hn
  have h1:=HK.ok.n1
  have h64:=HK.ok.n64
  have HKL:Hid (k.l.length<=1000):=O (by have:=HK.ok.parts.2.1;omega)
  have HC:Hid (∀ V,Below W.heap.size W V->Calls Tryz.prog 8 #[.int .i64 (k.n:Int)] V (zK V k init r7)):=O fun V hV=>HC0 V (HLB.out V hV)
  replace HD:=O HD
  have HKK:=O HK
  clear hn HC0 HK f0
  go_enter Tryz.func6,Tryz.ntmps6
  go_wp2_with fail
  refine(HD.out W).mono ?_
  rintro e y ⟨v,rfl,hrv,hy⟩
  obtain⟨bL,dL,bS,dS,bI,dI,bR,dR,rfl⟩:=zj hrv
  have hyb:=(bB.trans (hy.mono bB.size)).alloc (o:=.cells #[N bL k.l.length dL,.int .i64 k.lo,.int .i64 k.un,N bS k.zs.length dS,N bI init.length dI,.int .i64 k.each,N bR r7.length dR] 36) (bB.trans (hy.mono bB.size)).size
  clear HD hrv
  by_cases h8:k.n<=8
  ·by_cases h150:l2.length<=150
   ·go_upto_region 4 with fail
    try rw[hyb0]
    generalize y.alloc (.cells #[N bL k.l.length dL,.int .i64 k.lo,.int .i64 k.un,N bS k.zs.length dS,N bI init.length dI,.int .i64 k.each,N bR r7.length dR] 36)=z at *
    go_wp2_with fail
    refine(HC.out z hyb).mono ?_
    rintro e z1 ⟨v,rfl,hsv,hz1⟩
    have HSV:=O hsv
    obtain⟨aL,cL,aS,cS,aI,cI,aR,cR,rfl⟩:=tX hsv
    clear hsv
    have b1:=hyb.trans (hz1.mono hyb.size)
    have hza:Below z1.heap.size z1 (z1.alloc (.cells #[N aL k.l.length cL,.int .i64 k.lo,.int .i64 k.un,N aS k.zs.length cS,N aI init.length cI,.int .i64 k.each,N aR r7.length cR] 28)):=(Z _ _).alloc (Nat.le_refl _) _
    have q2:=Bk.made z1 28 #[N aL k.l.length cL,.int .i64 k.lo,.int .i64 k.un,N aS k.zs.length cS,N aI init.length cI,.int .i64 k.each,N aR r7.length cR]
    have b2:=b1.trans (hza.mono b1.size)
    obtain⟨zb,hzb⟩:∃ zb,z1.heap.size=zb:=⟨_,rfl⟩
    rw[hzb] at q2
    have HSV2:=O (HSV.out.below hza)
    clear HC b1 HSV
    go_upto_region 5 with fail
    try rw[hzb]
    generalize z1.alloc (.cells #[N aL k.l.length cL,.int .i64 k.lo,.int .i64 k.un,N aS k.zs.length cS,N aI init.length cI,.int .i64 k.each,N aR r7.length cR] 28)=z2 at *
    obtain⟨y0,y1,y2,y3,y4,y5,y6⟩:=q2.lZ
    have HRf:=O (jB HSV2.out HKL.out)
    clear hz1 hza hzb
    go_wp2_with fail
    refine HRf.out.mono ?_
    rintro e z3 ⟨v3,rfl,hv3,hz3⟩
    have b3:=b2.trans (hz3.mono b2.size)
    have HRg:=O (qP hv3 HKK.out.wf HKK.out.sv)
    clear HRf y0 y1 y2 y3 y4 y5 y6 hv3
    go_wp2_with fail
    refine HRg.out.mono ?_
    rintro e z4 ⟨rfl,hz4⟩
    have hz24:=hz3.trans (hz4.mono hz3.size)
    have b4:=b3.trans (hz4.mono b3.size)
    have q4:Bk z4 zb 28 #[N aL k.l.length cL,.int .i64 k.lo,.int .i64 k.un,N aS k.zs.length cS,N aI init.length cI,.int .i64 k.each,N aR r7.length cR]:=(hz24.block _ (Bk.lt q2)).trans q2
    have HSV4:=O (HSV2.out.below hz24)
    obtain⟨m,hm⟩:∃ m:Nat,c % k.n=m:=⟨_,rfl⟩
    have hmN:m<k.n:=by rw[<-hm];exact Nat.mod_lt _ h1
    have hcm:(c:Int) % (k.n:Int)=(m:Int):=by rw[<-hm];exact(Int.natCast_emod c k.n).symm
    have hcm2:Int.tmod (c:Int) (k.n:Int)=(m:Int):=by rw[<-hm];rfl
    have hN0:¬ k.n=0:=by omega
    have hcw:IntKind.i64.wrap (c:Int)=(c:Int):=by
     have hm9:(c:Int) % (2 ^ 64:Int)=(c:Int):=by omega
     unfold IntKind.wrap
     simp only[IntKind.bits,IntKind.signed,hm9]
     rw[if_neg (by simp;omega)]
    have hs4:=b4.size
    have HRst:Hid (∀ V v B,Below z4.heap.size z4 V->z4.heap.size<=B->B<=V.heap.size->Rv B V v ⟨k.l,k.lo,k.un⟩ k.zs init r7 k.each->Calls Tryz.prog 18 #[v,.int .i64 k.n,N a2 l2.length cap2,.int .i64 m,.int .i64 3,.int .i64 1] V fun e w'=>e=.returned (.bool Q)/\Below z4.heap.size z4 w'):=O (fun V v B hV hB1 hB2 hv=>by
     obtain⟨r2,r3,r4,e2,g2,e3,g3,e4,g4,g5,g6⟩:=HKK.out.re h8 (l2.map oK.op) m hmN
     have bV:=b4.trans (hV.mono b4.size)
     have h9:=Er (k:=k) (init:=init) (r7:=r7) l2 cap2 a2 hB2 HKK.out.ok HKK.out.e0 hv HKK.out.il HKK.out.iu HKK.out.rl HKK.out.ru (HS.out.grow bV (Nat.le_refl _) (Nat.le_trans b4.size hB1)) (by omega) m 3 1 hmN (by omega) (by omega) r2 r3 r4 e2 g2 e3 g3 e4 g4 g5 g6 HKK.out.st
     exact h9.mono fun e w' h=>⟨h.1,lV hV h.2 hB1 (Nat.le_refl _)⟩)
    have HRf:Hid (∀ V,Below z4.heap.size z4 V->Calls Tryz.prog 11 #[.agg #[N aL k.l.length cL,.int .i64 k.lo,.int .i64 k.un,N aS k.zs.length cS,N aI init.length cI,.int .i64 k.each,N aR r7.length cR]] V fun e w'=>∃ v',e=.returned v'/\Rv V.heap.size w' v' ⟨k.l,k.lo,k.un⟩ k.zs init r7 k.each/\Below V.heap.size V w'):=O (fun V hV=>jB (HSV4.out.below hV) HKL.out)
    have HQ:Hid (∀ V,Below z4.heap.size z4 V->Bk V zb 28 #[N aL k.l.length cL,.int .i64 k.lo,.int .i64 k.un,N aS k.zs.length cS,N aI init.length cI,.int .i64 k.each,N aR r7.length cR]):=O fun V hV=>(hV.block _ (Bk.lt q4)).trans q4
    clear HRg hz3 hz4 b2 b3 q2 q4 HSV2 HSV4 hm hz24 HKK
    go_upto_region 7 with fail
    refine dH [8] (fun _ V=>Below z4.heap.size z4 V) (fun _ _ _=>True) (fun vs=>{ tmps:=#[.int .i64 (k.n:Int),N a2 l2.length cap2,.int .u8 (c:Int),undef,undef,undef,vs 12,.pointer (some ⟨y.heap.size,0,none⟩),.bool Q,.pointer (some ⟨zb,0,none⟩),.int .i64 0,.tuple #[.agg #[N bL k.l.length dL,.int .i64 k.lo,.int .i64 k.un,N bS k.zs.length dS,N bI init.length dI,.int .i64 (k.each:Int),N bR r7.length dR],.bool Q],.int .i64 (k.n:Int),.tuple #[.agg #[N bL k.l.length dL,.int .i64 k.lo,.int .i64 k.un,N bS k.zs.length dS,N bI init.length dI,.int .i64 (k.each:Int),N bR r7.length dR],.bool Q],.agg #[N bL k.l.length dL,.int .i64 k.lo,.int .i64 k.un,N bS k.zs.length dS,N bI init.length dI,.int .i64 (k.each:Int),N bR r7.length dR],.bool Q,.bool Q,.bool I,.bool I,.int .i64 (k.n:Int),.bool (decide (8<(k.n:Int))),.bool (decide (8<(k.n:Int))),.bool (decide (8<(k.n:Int))),N a2 l2.length cap2,.int .i64 (l2.length:Int),.bool (decide (150<(l2.length:Int))),.bool (decide (8<(k.n:Int)) || decide (150<(l2.length:Int))),undef,.tuple #[.agg #[N aL k.l.length cL,.int .i64 k.lo,.int .i64 k.un,N aS k.zs.length cS,N aI init.length cI,.int .i64 (k.each:Int),N aR r7.length cR],.int .i64 0],.int .i64 (k.n:Int),.tuple #[.agg #[N aL k.l.length cL,.int .i64 k.lo,.int .i64 k.un,N aS k.zs.length cS,N aI init.length cI,.int .i64 (k.each:Int),N aR r7.length cR],.int .i64 0],.agg #[N aL k.l.length cL,.int .i64 k.lo,.int .i64 k.un,N aS k.zs.length cS,N aI init.length cI,.int .i64 (k.each:Int),N aR r7.length cR],.int .i64 0,.int .i64 0,.bool I,.bool I,.agg #[N aL k.l.length cL,.int .i64 k.lo,.int .i64 k.un,N aS k.zs.length cS,N aI init.length cI,.int .i64 (k.each:Int),N aR r7.length cR],v3,.int .i64 (k.n:Int),.bool Q,.bool I,.bool I,vs 0,vs 1,vs 2,vs 3,vs 4,vs 5,vs 6,vs 7,vs 8,vs 9,vs 10,vs 11],defers:=[] }) (qj [(1,(fun j v V=>j=0->∃ B,z4.heap.size<=B/\B<=V.heap.size/\Rv B V v ⟨k.l,k.lo,k.un⟩ k.zs init r7 k.each))] [.agg #[N aL k.l.length cL,.int .i64 k.lo,.int .i64 k.un,N aS k.zs.length cS,N aI init.length cI,.int .i64 k.each,N aR r7.length cR],undef,.int .i64 (k.n:Int),N a2 l2.length cap2,.int .u8 (c:Int),.int .i64 (c:Int),.int .i64 (k.n:Int),.int .i64 (m:Int),.bool Q,.bool Q,.bool Q,.bool Q,.bool Q]) ?ghm ?ghr ?ghc ?ghnd ?ghlit ?gh0 ?ghW ?ghF ?ghS ?gops ?gdone
    case ghm=>kernel_rfl
    case ghr=>kernel_rfl
    case ghc=>kernel_rfl
    case ghnd=>decide
    case ghlit=>intro vs;rfl
    case gh0=>exact Z _ _
    case ghW=>exact fun kk V V2 h hb=>h.trans (hb.mono h.size)
    case ghF=>exact fy (by
     intro p0 hp
     simp only[List.mem_cons,List.not_mem_nil,or_false] at hp
     rcases hp with rfl
     exact fun k v V V2 h hb hk=>by
      obtain⟨B,g1,g2,g3⟩:=h hk
      exact⟨B,g1,Nat.le_trans g2 hb.size,g3.below hb⟩)
    case ghS=>exact fun kk V V2 _ _=>g8 (by
     intro p0 hp
     simp only[List.mem_cons,List.not_mem_nil,or_false] at hp
     rcases hp with rfl
     exact fun v _ hk=>absurd hk (by omega))
    case gops=>
     refine⟨?_,?_,?_,?_,?_,?_,?_,?_,?_,?_,?_,?_,?_,trivial⟩
     ·intro vs V kk h1 h2 hW hd
      refine aa rfl ?_
      have hq:=HQ.out V hW
      obtain⟨y0,y1,y2,y3,y4,y5,y6⟩:=hq.lZ
      clear hq
      clear hd
      go_simp
      exact⟨rfl,Z _ _⟩
     ·intro vs V kk h1 h2 hW hd
      obtain rfl:kk=0:=Nat.le_zero.1 h2
      refine aa rfl ?_
      have e0:vs 0=.agg #[N aL k.l.length cL,.int .i64 k.lo,.int .i64 k.un,N aS k.zs.length cS,N aI init.length cI,.int .i64 k.each,N aR r7.length cR]:=hd 0 (by decide)
      have HS:=O (HRf.out V hW)
      have hsz:=Below.size hW
      clear hd
      go_simp
      refine HS.out.mono ?_
      rintro e zz ⟨v',rfl,h5,h6⟩
      exact⟨_,rfl,fun _=>⟨V.heap.size,hsz,h6.size,h5⟩,h6⟩
     ·intro vs V kk h1 h2 hW hd
      refine aa rfl ?_
      clear hd
      go_simp
      exact⟨rfl,Z _ _⟩
     ·intro vs V kk h1 h2 hW hd
      refine aa rfl ?_
      clear hd
      go_simp
      exact⟨rfl,Z _ _⟩
     ·intro vs V kk h1 h2 hW hd
      refine aa rfl ?_
      clear hd
      go_simp
      exact⟨rfl,Z _ _⟩
     ·intro vs V kk h1 h2 hW hd
      refine aa rfl ?_
      have e4:vs 4=.int .u8 (c:Int):=hd 4 (by decide)
      clear hd
      go_simp
      exact⟨rfl,Z _ _⟩
     ·intro vs V kk h1 h2 hW hd
      refine aa rfl ?_
      clear hd
      go_simp
      exact⟨rfl,Z _ _⟩
     ·intro vs V kk h1 h2 hW hd
      refine aa rfl ?_
      have e5:vs 5=.int .i64 (c:Int):=hd 5 (by decide)
      have e6:vs 6=.int .i64 (k.n:Int):=hd 6 (by decide)
      clear hd
      go_simp
      exact⟨rfl,Z _ _⟩
     ·intro vs V hW hd
      have e2:vs 2=.int .i64 (k.n:Int):=hd 2 (by decide)
      have e3:vs 3=N a2 l2.length cap2:=hd 3 (by decide)
      have e7:vs 7=.int .i64 (m:Int):=hd 7 (by decide)
      obtain⟨B,hB1,hB2,hB3⟩:∃ B,z4.heap.size<=B/\B<=V.heap.size/\Rv B V (vs 1) ⟨k.l,k.lo,k.un⟩ k.zs init r7 k.each:=hd 1 (by decide) rfl
      have HRs:=O (HRst.out V (vs 1) B hW hB1 hB2 hB3)
      refine bh rfl ?_
      clear hd hB3
      go_simp
      refine HRs.out.mono ?_
      rintro e zz ⟨rfl,h6⟩
      exact⟨_,rfl,by first | exact⟨rfl,h6,trivial⟩ | exact⟨rfl,h6⟩ | exact⟨h6,trivial⟩⟩
     ·intro vs V kk h1 h2 hW hd
      refine aa rfl ?_
      have e8:vs 8=.bool Q:=hd 8 (by decide)
      clear hd
      go_simp
      exact⟨rfl,Z _ _⟩
     ·intro vs V kk h1 h2 hW hd
      have eg:vs 9=.bool Q:=hd 9 (by decide)
      refine cJ rfl (by show (match some (vs 9) with | some (.bool b)=>some b | _=>none)=some Q;rw[eg]) ?_
      clear eg
      have HA9:=O (HAw.out V (b4.trans (hW.mono b4.size)))
      clear hd
      go_simp
      refine HA9.out.mono ?_
      rintro e zz ⟨rfl,h6⟩
      exact⟨_,rfl,rfl,h6⟩
     ·intro vs V kk h1 h2 hW hd
      refine aa rfl ?_
      have e9:vs 9=.bool Q:=hd 9 (by decide)
      have e10:vs 10=.bool Q:=hd 10 (by decide)
      clear hd
      go_simp
      exact⟨rfl,Z _ _⟩
     ·intro vs V kk h1 h2 hW hd
      refine aa rfl ?_
      have e11:vs 11=.bool Q:=hd 11 (by decide)
      clear hd
      go_simp
      exact⟨rfl,Z _ _⟩
    case gdone=>
     intro vs V hW hf
     have f0:vs 0=.agg #[N aL k.l.length cL,.int .i64 k.lo,.int .i64 k.un,N aS k.zs.length cS,N aI init.length cI,.int .i64 k.each,N aR r7.length cR]:=hf 0 (by decide)
     have f2:vs 2=.int .i64 (k.n:Int):=hf 2 (by decide)
     have f3:vs 3=N a2 l2.length cap2:=hf 3 (by decide)
     have f4:vs 4=.int .u8 (c:Int):=hf 4 (by decide)
     have f5:vs 5=.int .i64 (c:Int):=hf 5 (by decide)
     have f6:vs 6=.int .i64 (k.n:Int):=hf 6 (by decide)
     have f7:vs 7=.int .i64 (m:Int):=hf 7 (by decide)
     have f8:vs 8=.bool Q:=hf 8 (by decide)
     have f9:vs 9=.bool Q:=hf 9 (by decide)
     have f10:vs 10=.bool Q:=hf 10 (by decide)
     have f11:vs 11=.bool Q:=hf 11 (by decide)
     have f12:vs 12=.bool Q:=hf 12 (by decide)
     simp only[f0,f2,f3,f4,f5,f6,f7,f8,f9,f10,f11,f12]
     clear f0 f2 f3 f4 f5 f6 f7 f8 f9 f10 f11 f12
     generalize vs 1=r1 at *
     have hfin:Below W.heap.size W V:=b4.trans (hW.mono b4.size)
     clear hf hW
     go_wp2
     go_ret
     exact⟨rfl,hfin⟩
   ·have hf1:150<l2.length:=by omega
    go_wp2_with fail
    refine(HAw.out _ (hyb)).mono ?_
    rintro e w9 ⟨rfl,hw9⟩
    have hf:=(hyb).trans (hw9.mono (hyb).size)
    go_wp2
    go_ret
    exact⟨rfl,hf⟩
  ·have hf8:8<k.n:=by omega
   go_wp2_with fail
   refine(HAw.out _ (hyb)).mono ?_
   rintro e w9 ⟨rfl,hw9⟩
   have hf:=(hyb).trans (hw9.mono (hyb).size)
   go_wp2
   go_ret
   exact⟨rfl,hf⟩
 ·have HD:=O (zv x0 hn).2
  clear hn
  unfold BV BR at HD
  go_enter Tryz.func6,Tryz.ntmps6
  go_wp2_with fail
  refine(HD.out W).mono ?_
  rintro e y ⟨rfl,hy⟩
  have hyb:=(bB.trans (hy.mono bB.size)).alloc (o:=.cells #[N none 0 0,.int .i64 0,.int .i64 0,N none 0 0,N none 0 0,.int .i64 0,N none 0 0] 36) (bB.trans (hy.mono bB.size)).size
  clear HD
  go_wp2_with fail
  refine(HAw.out _ (hyb)).mono ?_
  rintro e w9 ⟨rfl,hw9⟩
  have hf:=(hyb).trans (hw9.mono (hyb).size)
  go_wp2
  go_ret
  exact⟨rfl,hf⟩
theorem lifted (os:Os)(started:os.Started)(H:Type)(enc:TypeId×Value->H):
 ReturnsInHanded {} Tryz.checked os 6 .any (fun w args=>(Rows.graunkeRestsSpec.pre enc Tryz.prog Tryz.f6 [] I w args/\laidMetH Tryz.prog Rows.graunkeRestsRow.laid w)/\sizedMet enc Tryz.prog Tryz.f6 (OpenSpec.ofChange Rows.graunkeRestsSpec) I w args)
  (Rows.graunkeRestsSpec.post enc Tryz.prog Tryz.f6 I Q I I):=by
 refine fM (C:=Tryz.checked) (X:=fun w _=>laidMetH Tryz.prog Rows.graunkeRestsRow.laid w) (fun _ _ _ hh h=>h.of_heap hh) own started (by kernel_rfl) Tryz.func6
  (ChangeSpec.witness_shaped (enc:=enc) (C:=Tryz.checked) (os:=os) (X:=fun w _=>laidMetH Tryz.prog Rows.graunkeRestsRow.laid w) I (World.laidAll Tryz.prog os Rows.graunkeRestsRow.laid) #[.int .i64 0,N none 0 0,.int .u8 0] 8 (World.laidAll_os _ _ _)
   (World.shaped_of_ZipB (by kernel_rfl) (by kernel_rfl)) (by kernel_rfl) (by kernel_rfl) (by kernel_rfl)
   (by rw[MakeChecks.laidMetH_plain _ _ _ (by kernel_rfl)];exact laidMet_laidAll _ (by kernel_rfl) (by kernel_rfl))) ?_
 intro W base args ds gs before hval0 hW hL hsh
 have hval:∀ (j:Nat) t v,Tryz.f6.params[j]?=some t->args[j]?=some v->Value.okWide Tryz.prog W .any base t v:=hval0
 have hW':=hW
 obtain⟨p,q,hA0,hV,rfl,_,_⟩:=hW
 have hA:DataW.TrodAll enc Tryz.prog W 0 (fun _=>Q) Q Tryz.f6.params.toList args.toList ds p:=hA0
 rw[Tryz.params6] at hA hval
 obtain⟨v0,vs0,d0,ds0,p0,q0,hargs,rfl,rfl,h0,r0⟩:=trodAll_cons hA
 obtain⟨v1,vs1,d1,ds1,p1,q1,rfl,rfl,rfl,h1,r1⟩:=trodAll_cons r0
 obtain⟨v2,vs2,d2,ds2,p2,q2,rfl,rfl,rfl,h2,r2⟩:=trodAll_cons r1
 obtain⟨rfl,rfl,rfl⟩:=trodAll_nil r2
 obtain rfl:args=#[v0,v1,v2]:=by cases args;simp_all
 obtain⟨rfl,rfl⟩:=trodVars_none hV
 have k0:=h0
 have lt0:∀ x∈p0,x.block<W.heap.size:=by obtain⟨m,hm⟩:=k0;exact DataW.trod_lt m _ _ _ hm
 obtain⟨x0,rfl,rfl,rfl,f0⟩:=open_int Tryz.underlying3 (hval 0 3 v0 rfl rfl) h0
 have k1:=h1
 have lt1:∀ x∈p1,x.block<W.heap.size:=by obtain⟨m,hm⟩:=k1;exact DataW.trod_lt m _ _ _ hm
 obtain⟨l1,a1,cap1,rfl,S1,hb1⟩:=sV (hval 1 44 v1 rfl rfl) h1
 have k2:=h2
 have lt2:∀ x∈p2,x.block<W.heap.size:=by obtain⟨m,hm⟩:=k2;exact DataW.trod_lt m _ _ _ hm
 obtain⟨x2,rfl,rfl,rfl,f2⟩:=open_int Tryz.underlying5 (hval 2 5 v2 rfl rfl) h2
 clear hA0 hval0
 rw[MakeChecks.laidMetH_plain _ _ _ (by kernel_rfl)] at hL
 refine(walk x0 l1 a1 cap1 x2 f0 f2 W S1 hb1 (zq hL hsh)).mono fun e W' ⟨he,bel⟩=>?_
 subst he
 exact⟨_,rfl,_,_,_,[],_,[],hW',trodAll_mk1 (shut_bool Tryz.underlying4 _),(trodAll_cons_mk (Below.trod iJ (by kernel_rfl) (of_decide_eq_true (by kernel_rfl)) k0 bel lt0) (trodAll_cons_mk (Below.trod iJ (by kernel_rfl) (of_decide_eq_true (by kernel_rfl)) k1 bel lt1) (trodAll_cons_mk (Below.trod iJ (by kernel_rfl) (of_decide_eq_true (by kernel_rfl)) k2 bel lt2) trodAll_mk0))),rfl,bel.frame _,fun h=>by cases h⟩
theorem over:Rows.graunkeRestsRow.holds Tryz.pinned (OpenSpec.ofChange Rows.graunkeRestsSpec):=
 OpenClaim.holds_of_wide 6 Tryz.f6 rfl rfl rfl rfl rfl rfl rfl ⟨rfl,rfl,rfl,rfl,rfl⟩ rfl rfl rfl rfl rfl (by kernel_rfl) Tryz.func6 (by kernel_rfl)
  (of_decide_eq_true (by kernel_rfl)) (by unfold Func.isWrapper;first | (rw[if_pos (by decide +kernel)];kernel_rfl) | (rw[if_neg (by decide +kernel)];exact⟨rfl,rfl⟩))
  (fun os started H enc _=>lifted os started H enc)
theorem proved:Rows.GraunkeRestsCardSaid:=
 Claim7.holds_tied_plain_at .later [] Rows.graunkeRestsCard.laidKinds Q Rows.graunkeRestsCard.stood.harness Q over (fun _ h=>by cases h) (by kernel_rfl) (fun _ h=>by cases h) graunkeRests_row_tie rfl ⟨rfl,rfl⟩ (by kernel_rfl) rfl
  (fun f fn hf hfn=>by
   obtain rfl:f=6:=Option.some.inj ((show Tryz.prog.funcNamed Rows.graunkeRestsRow.func=some 6 by kernel_rfl).symm.trans hf) |>.symm
   obtain rfl:fn=Tryz.f6:=(Option.some.inj (Tryz.func6.symm.trans hfn)).symm
   exact⟨by kernel_rfl,fun j t ht=>by
    rw[Tryz.params6] at ht
    have hm:t∈[3,44,5]:=by simpa using Array.mem_of_getElem? ht
    have hall:([3,44,5].all fun u=>!Tryz.prog.wantsStandIn u)=Q:=by kernel_rfl
    exact(show Tryz.prog.wantsStandIn t=I by simpa using List.all_eq_true.1 hall t hm)⟩)
  (by kernel_rfl)
#print axioms proved
end Go.Proofs.YtieiifdhdjhnoaaGreatDoor.graunkeRests
