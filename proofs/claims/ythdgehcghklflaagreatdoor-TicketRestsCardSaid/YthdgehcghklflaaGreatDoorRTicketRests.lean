/- For any lock, whatever is done with it, and whoever calls alone behind that: TicketRests returns true: once nobody is in a call any more, a call alone comes to the lock within 2 steps, and is over within 1; no condition. A tied card: the listed variables of the library are tied to the program's text. -/
import Derived.Test.YthdgehcghklflaaGreatDoorRTkA
import Derived.Test.YthdgehcghklflaaGreatDoorRRuD
import Derived.ChangeMaps5
set_option linter.unusedVariables false
set_option maxHeartbeats 4000000
set_option maxRecDepth 100000
open Go.Value renaming int->I,slice->R,pointer->U
open Go.IntKind renaming i64->Q,u32->O
open Option renaming none->Z,some->P
open Bool renaming false->S,true->T
open Go.Obj renaming cells->K
open Go.Lib renaming hid->J
open Go.RowKit.Below renaming refl->G
open Nat renaming le_refl->F
namespace Go.Proofs.YthdgehcghklflaaGreatDoor.ticketRests
open Go.Joins Go.ChangeShapes Go.WideShapes Go.ChangeAt Go.RowKit Go.Deep
theorem walk (x0 x1:Int)(l2:List ug)(a2:Option Addr)(cap2 c:Nat)(f1:0<=x1/\x1<4294967296)(f2:c<256)(W:World)(S2:qg W.heap.size W a2 l2)(hb2:l2.length<=maxLen)(L:Lb W):
 Calls Tryz.prog 6 #[.agg #[I Q x0,I O x1,R a2 l2.length cap2,I .u8 c]] W fun e w'=>e=.returned (.bool T)/\Below W.heap.size W w':=by
 have HLB:Hid (∀ V,Below W.heap.size W V->Lb V):=J (fun V hV=>L.below hV)
 have HAw:Hid (∀ V,Below W.heap.size W V->Calls Tryz.prog 12 #[] V fun e w'=>e=.returned (.bool T)/\Below V.heap.size V w'):=J (fun V hV=>yC V (HLB.out V hV))
 obtain⟨u0,u1⟩:=f1
 have HS:=J S2
 simp only[maxLen] at hb2
 clear S2 L
 have bB:Below W.heap.size W (W.alloc (K #[I Q x0,I O x1,R a2 l2.length cap2,I .u8 c] 52)):=(G _ _).alloc (F _) _
 have qB:=Bk.made W 52 #[I Q x0,I O x1,R a2 l2.length cap2,I .u8 c]
 by_cases hn:1<=x0/\x0<=64
 ·obtain⟨N,rfl⟩:∃ N:Nat,x0=N:=⟨x0.toNat,by omega⟩
  have h1:1<=N:=by omega
  have h64:N<=64:=by omega
  clear hn
  have HD:=J (fun V=>DU N x1 V h1 h64 u0 u1)
  go_enter Tryz.func6,Tryz.ntmps6
  go_upto_region 1 with fail
  generalize W.alloc (K #[I Q N,I O x1,R a2 l2.length cap2,I .u8 c] 52)=z0 at *
  obtain⟨y0,y1,y2,y3⟩:=qB.E6
  clear qB
  go_quiet (fail)
  clear y0 y1 y2 y3
  replace bB:=bB.trans ((jo z0 nq).mono bB.size)
  generalize z0.drewN nq=w0 at *
  go_wp2_with fail
  refine(HD.out w0).mono ?_
  rintro e y ⟨v,rfl,⟨sl,bS,dS,bI,dI,bR,dR,rfl,ho,-⟩,hy⟩
  obtain⟨bL,dL,rfl,-⟩:=aY ho
  rw[show ([1,1]:List Int).length=2 from rfl,show ([x1,x1]:List Int).length=2 from rfl,lB]
  have hyb:=(bB.trans (hy.mono bB.size)).alloc (o:=K #[R bL dD.l.length dL,I Q dD.lo,I Q dD.un,R bS 2 dS,R bI 2 dI,I Q 0,R bR N dR] 37) (bB.trans (hy.mono bB.size)).size
  clear HD ho
  by_cases h8:N<=8
  ·by_cases h150:l2.length<=150
   ·go_upto_region 5 with fail
    generalize y.alloc (K #[R bL dD.l.length dL,I Q dD.lo,I Q dD.un,R bS 2 dS,R bI 2 dI,I Q 0,R bR N dR] 37)=z at *
    have HC:=J (B3 N x1 z (HLB.out z hyb) h1 h64 u0 u1)
    go_wp2_with fail
    refine HC.out.mono ?_
    rintro e z1 ⟨v,rfl,hsv,hz1⟩
    have HSV:=J hsv
    obtain⟨aL,cL,aS,cS,aI,cI,aR,cR,rfl,-⟩:=hsv
    rw[show ([1,1]:List Int).length=2 from rfl,show ([x1,x1]:List Int).length=2 from rfl,lB] at *
    have b1:=hyb.trans (hz1.mono hyb.size)
    have hza:Below z1.heap.size z1 (z1.alloc (K #[R aL dD.l.length cL,I Q dD.lo,I Q dD.un,R aS 2 cS,R aI 2 cI,I Q 0,R aR N cR] 29)):=(G _ _).alloc (F _) _
    have q2:=Bk.made z1 29 #[R aL dD.l.length cL,I Q dD.lo,I Q dD.un,R aS 2 cS,R aI 2 cI,I Q 0,R aR N cR]
    have b2:=b1.trans (hza.mono b1.size)
    obtain⟨zb,hzb⟩:∃ zb,z1.heap.size=zb:=⟨_,rfl⟩
    rw[hzb] at q2
    have HSV2:=J (HSV.out.below hza)
    clear HC hz1 b1 HSV
    go_upto_region 6 with fail
    try rw[hzb]
    generalize z1.alloc (K #[R aL dD.l.length cL,I Q dD.lo,I Q dD.un,R aS 2 cS,R aI 2 cI,I Q 0,R aR N cR] 29)=z2 at *
    obtain⟨y0,y1,y2,y3,y4,y5,y6⟩:=q2.pO
    have HRf:=J (zD HSV2.out (by decide))
    clear hza hzb
    go_wp2_with fail
    refine HRf.out.mono ?_
    rintro e z3 ⟨v3,rfl,hv3,hz3⟩
    have b3:=b2.trans (hz3.mono b2.size)
    have HRg:=J (AC hv3 DM (Cq h1 h64))
    clear HRf y0 y1 y2 y3 y4 y5 y6 hv3
    go_wp2_with fail
    refine HRg.out.mono ?_
    rintro e z4 ⟨rfl,hz4⟩
    have hz24:=hz3.trans (hz4.mono hz3.size)
    have b4:=b3.trans (hz4.mono b3.size)
    have q4:Bk z4 zb 29 #[R aL dD.l.length cL,I Q dD.lo,I Q dD.un,R aS 2 cS,R aI 2 cI,I Q 0,R aR N cR]:=(hz24.block _ (Bk.lt q2)).trans q2
    have HSV4:=J (HSV2.out.below hz24)
    obtain⟨m,hm⟩:∃ m:Nat,c % N=m:=⟨_,rfl⟩
    have hmN:m<N:=by rw[<-hm];exact Nat.mod_lt _ h1
    have hcm:(c:Int) % (N:Int)=(m:Int):=by rw[<-hm];exact(Int.natCast_emod c N).symm
    have hcm2:Int.tmod (c:Int) (N:Int)=(m:Int):=by rw[<-hm];rfl
    have hN0:¬ N=0:=by omega
    have hcw:IntKind.i64.wrap (c:Int)=(c:Int):=by
     have hm9:(c:Int) % (2 ^ 64:Int)=(c:Int):=by omega
     unfold IntKind.wrap
     simp only[IntKind.bits,IntKind.signed,hm9]
     rw[if_neg (by simp;omega)]
    have hs4:=b4.size
    have HRst:Hid (∀ V v B,Below z4.heap.size z4 V->z4.heap.size<=B->B<=V.heap.size->Rv B V v dD [1,1] [x1,x1] (qM N) 0->Calls Tryz.prog 18 #[v,I Q N,R a2 l2.length cap2,I Q m,I Q 2,I Q 1] V fun e w'=>e=.returned (.bool T)/\Below z4.heap.size z4 w'):=J (fun V v B hV hB1 hB2 hv=>by
     obtain⟨r2,r3,r4,e2,g2,e3,g3,e4,g4,g5,g6⟩:=vf (n:=N) h1 h8 u0 u1 (l2.map ug.op) hmN
     have bV:=b4.trans (hV.mono b4.size)
     have h9:=CC (k:=gP N) (init:=[x1,x1]) (r7:=qM N) l2 cap2 a2 hB2 (BS h1 h64) rfl hv rfl (Am u0 u1) (lB N) (Al N) (HS.out.grow bV (F _) (Nat.le_trans b4.size hB1)) (by omega) m 2 1 hmN (by omega) (by omega) r2 r3 r4 e2 g2 e3 g3 e4 g4 g5 g6 xK
     exact h9.mono fun e w' h=>⟨h.1,wS hV h.2 hB1 (F _)⟩)
    have HRf:Hid (∀ V,Below z4.heap.size z4 V->Calls Tryz.prog 11 #[.agg #[R aL dD.l.length cL,I Q dD.lo,I Q dD.un,R aS 2 cS,R aI 2 cI,I Q 0,R aR N cR]] V fun e w'=>∃ v',e=.returned v'/\Rv V.heap.size w' v' dD [1,1] [x1,x1] (qM N) 0/\Below V.heap.size V w'):=J (fun V hV=>zD (HSV4.out.below hV) (by decide))
    have HQ:Hid (∀ V,Below z4.heap.size z4 V->Bk V zb 29 #[R aL dD.l.length cL,I Q dD.lo,I Q dD.un,R aS 2 cS,R aI 2 cI,I Q 0,R aR N cR]):=J fun V hV=>(hV.block _ (Bk.lt q4)).trans q4
    clear HRg hz3 hz4 b2 b3 q2 q4 HSV2 HSV4 hm hz24
    go_upto_region 8 with fail
    refine dw [8] (fun _ V=>Below z4.heap.size z4 V) (fun _ _ _=>True) (fun vs=>{ tmps:=#[.agg #[I Q (N:Int),I O x1,R a2 l2.length cap2,I .u8 (c:Int)],U (P ⟨W.heap.size,0,Z⟩),vs 12,I Q (N:Int),I O x1,R a2 l2.length cap2,I .u8 (c:Int),U (P ⟨y.heap.size,0,Z⟩),.bool T,U (P ⟨zb,0,Z⟩),I Q 0,U (P ⟨W.heap.size,0,Z⟩),I Q (N:Int),U (P ⟨W.heap.size,1,Z⟩),I O x1,U (P ⟨W.heap.size,2,Z⟩),R a2 l2.length cap2,U (P ⟨W.heap.size,3,Z⟩),I .u8 (c:Int),.tuple #[.agg #[R bL dD.l.length dL,I Q dD.lo,I Q dD.un,R bS 2 dS,R bI 2 dI,I Q 0,R bR N dR],.bool T],I Q (N:Int),I O x1,.tuple #[.agg #[R bL dD.l.length dL,I Q dD.lo,I Q dD.un,R bS 2 dS,R bI 2 dI,I Q 0,R bR N dR],.bool T],.agg #[R bL dD.l.length dL,I Q dD.lo,I Q dD.un,R bS 2 dS,R bI 2 dI,I Q 0,R bR N dR],.bool T,.bool T,.bool S,.bool S,I Q (N:Int),.bool (decide (8<(N:Int))),.bool (decide (8<(N:Int))),.bool (decide (8<(N:Int))),R a2 l2.length cap2,I Q (l2.length:Int),.bool (decide (150<(l2.length:Int))),.bool (decide (8<(N:Int)) || decide (150<(l2.length:Int))),undef,.tuple #[.agg #[R aL dD.l.length cL,I Q dD.lo,I Q dD.un,R aS 2 cS,R aI 2 cI,I Q 0,R aR N cR],I Q 0],I Q (N:Int),I O x1,.tuple #[.agg #[R aL dD.l.length cL,I Q dD.lo,I Q dD.un,R aS 2 cS,R aI 2 cI,I Q 0,R aR N cR],I Q 0],.agg #[R aL dD.l.length cL,I Q dD.lo,I Q dD.un,R aS 2 cS,R aI 2 cI,I Q 0,R aR N cR],I Q 0,I Q 0,.bool S,.bool S,.agg #[R aL dD.l.length cL,I Q dD.lo,I Q dD.un,R aS 2 cS,R aI 2 cI,I Q 0,R aR N cR],v3,I Q (N:Int),.bool T,.bool S,.bool S,vs 0,vs 1,vs 2,vs 3,vs 4,vs 5,vs 6,vs 7,vs 8,vs 9,vs 10,vs 11],defers:=[] }) (oT [(1,(fun k v V=>k=0->∃ B,z4.heap.size<=B/\B<=V.heap.size/\Rv B V v dD [1,1] [x1,x1] (qM N) 0))] [.agg #[R aL dD.l.length cL,I Q dD.lo,I Q dD.un,R aS 2 cS,R aI 2 cI,I Q 0,R aR N cR],undef,I Q (N:Int),R a2 l2.length cap2,I .u8 (c:Int),I Q (c:Int),I Q (N:Int),I Q (m:Int),.bool T,.bool T,.bool T,.bool T,.bool T]) ?ghm ?ghr ?ghc ?ghnd ?ghlit ?gh0 ?ghW ?ghF ?ghS ?gops ?gdone
    case ghm=>kernel_rfl
    case ghr=>kernel_rfl
    case ghc=>kernel_rfl
    case ghnd=>decide
    case ghlit=>intro vs;rfl
    case gh0=>exact G _ _
    case ghW=>exact fun kk V V2 h hb=>h.trans (hb.mono h.size)
    case ghF=>exact fc (by
     intro p0 hp
     simp only[List.mem_cons,List.not_mem_nil,or_false] at hp
     rcases hp with rfl
     exact fun k v V V2 h hb hk=>by
      obtain⟨B,g1,g2,g3⟩:=h hk
      exact⟨B,g1,Nat.le_trans g2 hb.size,g3.below hb⟩)
    case ghS=>exact fun kk V V2 _ _=>gC (by
     intro p0 hp
     simp only[List.mem_cons,List.not_mem_nil,or_false] at hp
     rcases hp with rfl
     exact fun v _ hk=>absurd hk (by omega))
    case gops=>
     refine⟨?_,?_,?_,?_,?_,?_,?_,?_,?_,?_,?_,?_,?_,trivial⟩
     ·intro vs V kk h1 h2 hW hd
      refine aa rfl ?_
      have hq:=HQ.out V hW
      obtain⟨y0,y1,y2,y3,y4,y5,y6⟩:=hq.pO
      clear hq
      clear hd
      go_simp
      exact⟨rfl,G _ _⟩
     ·intro vs V kk h1 h2 hW hd
      obtain rfl:kk=0:=Nat.le_zero.1 h2
      refine aa rfl ?_
      have e0:vs 0=.agg #[R aL dD.l.length cL,I Q dD.lo,I Q dD.un,R aS 2 cS,R aI 2 cI,I Q 0,R aR N cR]:=hd 0 (by decide)
      have HS:=J (HRf.out V hW)
      have hsz:=Below.size hW
      clear hd
      go_simp
      refine HS.out.mono ?_
      rintro e zz ⟨v',rfl,h5,h6⟩
      exact⟨_,rfl,fun _=>⟨V.heap.size,hsz,h6.size,h5⟩,h6⟩
     ·intro vs V kk h1 h2 hW hd
      refine aa rfl ?_
      clear hd
      go_simp
      exact⟨rfl,G _ _⟩
     ·intro vs V kk h1 h2 hW hd
      refine aa rfl ?_
      clear hd
      go_simp
      exact⟨rfl,G _ _⟩
     ·intro vs V kk h1 h2 hW hd
      refine aa rfl ?_
      clear hd
      go_simp
      exact⟨rfl,G _ _⟩
     ·intro vs V kk h1 h2 hW hd
      refine aa rfl ?_
      have e4:vs 4=I .u8 (c:Int):=hd 4 (by decide)
      clear hd
      go_simp
      exact⟨rfl,G _ _⟩
     ·intro vs V kk h1 h2 hW hd
      refine aa rfl ?_
      clear hd
      go_simp
      exact⟨rfl,G _ _⟩
     ·intro vs V kk h1 h2 hW hd
      refine aa rfl ?_
      have e5:vs 5=I Q (c:Int):=hd 5 (by decide)
      have e6:vs 6=I Q (N:Int):=hd 6 (by decide)
      clear hd
      go_simp
      exact⟨rfl,G _ _⟩
     ·intro vs V hW hd
      have e2:vs 2=I Q (N:Int):=hd 2 (by decide)
      have e3:vs 3=R a2 l2.length cap2:=hd 3 (by decide)
      have e7:vs 7=I Q (m:Int):=hd 7 (by decide)
      obtain⟨B,hB1,hB2,hB3⟩:∃ B,z4.heap.size<=B/\B<=V.heap.size/\Rv B V (vs 1) dD [1,1] [x1,x1] (qM N) 0:=hd 1 (by decide) rfl
      have HRs:=J (HRst.out V (vs 1) B hW hB1 hB2 hB3)
      refine bc rfl ?_
      clear hd hB3
      go_simp
      refine HRs.out.mono ?_
      rintro e zz ⟨rfl,h6⟩
      exact⟨_,rfl,by first | exact⟨rfl,h6,trivial⟩ | exact⟨rfl,h6⟩ | exact⟨h6,trivial⟩⟩
     ·intro vs V kk h1 h2 hW hd
      refine aa rfl ?_
      have e8:vs 8=.bool T:=hd 8 (by decide)
      clear hd
      go_simp
      exact⟨rfl,G _ _⟩
     ·intro vs V kk h1 h2 hW hd
      have eg:vs 9=.bool T:=hd 9 (by decide)
      refine pd rfl (by show (match P (vs 9) with | some (.bool b)=>P b | _=>Z)=P T;rw[eg]) ?_
      clear eg
      have HA9:=J (HAw.out V (b4.trans (hW.mono b4.size)))
      clear hd
      go_simp
      refine HA9.out.mono ?_
      rintro e zz ⟨rfl,h6⟩
      exact⟨_,rfl,rfl,h6⟩
     ·intro vs V kk h1 h2 hW hd
      refine aa rfl ?_
      have e9:vs 9=.bool T:=hd 9 (by decide)
      have e10:vs 10=.bool T:=hd 10 (by decide)
      clear hd
      go_simp
      exact⟨rfl,G _ _⟩
     ·intro vs V kk h1 h2 hW hd
      refine aa rfl ?_
      have e11:vs 11=.bool T:=hd 11 (by decide)
      clear hd
      go_simp
      exact⟨rfl,G _ _⟩
    case gdone=>
     intro vs V hW hf
     have f0:vs 0=.agg #[R aL dD.l.length cL,I Q dD.lo,I Q dD.un,R aS 2 cS,R aI 2 cI,I Q 0,R aR N cR]:=hf 0 (by decide)
     have f2:vs 2=I Q (N:Int):=hf 2 (by decide)
     have f3:vs 3=R a2 l2.length cap2:=hf 3 (by decide)
     have f4:vs 4=I .u8 (c:Int):=hf 4 (by decide)
     have f5:vs 5=I Q (c:Int):=hf 5 (by decide)
     have f6:vs 6=I Q (N:Int):=hf 6 (by decide)
     have f7:vs 7=I Q (m:Int):=hf 7 (by decide)
     have f8:vs 8=.bool T:=hf 8 (by decide)
     have f9:vs 9=.bool T:=hf 9 (by decide)
     have f10:vs 10=.bool T:=hf 10 (by decide)
     have f11:vs 11=.bool T:=hf 11 (by decide)
     have f12:vs 12=.bool T:=hf 12 (by decide)
     simp only[f0,f2,f3,f4,f5,f6,f7,f8,f9,f10,f11,f12]
     clear f0 f2 f3 f4 f5 f6 f7 f8 f9 f10 f11 f12
     generalize vs 1=r1 at *
     have hfin:Below W.heap.size W V:=b4.trans (hW.mono b4.size)
     clear hf hW
     go_wp2
     go_ret
     exact⟨rfl,hfin⟩
   ·have hf1:150<l2.length:=by omega
    go_wp2_with fail
    refine(HAw.out _ (hyb)).mono ?_
    rintro e w9 ⟨rfl,hw9⟩
    have hf:=(hyb).trans (hw9.mono (hyb).size)
    go_wp2
    go_ret
    exact⟨rfl,hf⟩
  ·have hf8:8<N:=by omega
   go_wp2_with fail
   refine(HAw.out _ (hyb)).mono ?_
   rintro e w9 ⟨rfl,hw9⟩
   have hf:=(hyb).trans (hw9.mono (hyb).size)
   go_wp2
   go_ret
   exact⟨rfl,hf⟩
 ·have HD:=J (fun V=>AB x0 x1 V hn)
  clear hn
  unfold E0 at HD
  go_enter Tryz.func6,Tryz.ntmps6
  go_upto_region 1 with fail
  generalize W.alloc (K #[I Q x0,I O x1,R a2 l2.length cap2,I .u8 c] 52)=z0 at *
  obtain⟨y0,y1,y2,y3⟩:=qB.E6
  clear qB
  go_quiet (fail)
  clear y0 y1 y2 y3
  replace bB:=bB.trans ((jo z0 nq).mono bB.size)
  generalize z0.drewN nq=w0 at *
  go_wp2_with fail
  refine(HD.out w0).mono ?_
  rintro e y ⟨rfl,hy⟩
  have hyb:=(bB.trans (hy.mono bB.size)).alloc (o:=K #[R Z 0 0,I Q 0,I Q 0,R Z 0 0,R Z 0 0,I Q 0,R Z 0 0] 37) (bB.trans (hy.mono bB.size)).size
  clear HD
  go_wp2_with fail
  refine(HAw.out _ (hyb)).mono ?_
  rintro e w9 ⟨rfl,hw9⟩
  have hf:=(hyb).trans (hw9.mono (hyb).size)
  go_wp2
  go_ret
  exact⟨rfl,hf⟩
theorem lifted (os:Os)(started:os.Started)(H:Type)(enc:TypeId×Value->H):
 ReturnsInHanded {} Tryz.checked os 6 .any (fun w args=>(Rows.ticketRestsSpec.pre enc Tryz.prog Tryz.f6 [] S w args/\laidMetH Tryz.prog Rows.ticketRestsRow.laid w)/\sizedMet enc Tryz.prog Tryz.f6 (OpenSpec.ofChange Rows.ticketRestsSpec) S w args)
  (Rows.ticketRestsSpec.post enc Tryz.prog Tryz.f6 S T S S):=by
 refine oZ (C:=Tryz.checked) (X:=fun w _=>laidMetH Tryz.prog Rows.ticketRestsRow.laid w) (fun _ _ _ hh h=>h.of_heap hh) own started (by kernel_rfl) Tryz.func6
  (ChangeSpec.witness_shaped (enc:=enc) (C:=Tryz.checked) (os:=os) (X:=fun w _=>laidMetH Tryz.prog Rows.ticketRestsRow.laid w) S (World.laidAll Tryz.prog os Rows.ticketRestsRow.laid) #[.agg #[I Q 0,I O 0,R Z 0 0,I .u8 0]] 8 (World.laidAll_os _ _ _)
   (World.shaped_of_ZipB (by kernel_rfl) (by kernel_rfl)) (by kernel_rfl) (by kernel_rfl) (by kernel_rfl)
   (by rw[MakeChecks.laidMetH_plain _ _ _ (by kernel_rfl)];exact laidMet_laidAll _ (by kernel_rfl) (by kernel_rfl))) ?_
 intro W base args ds gs before hval0 hW hL hsh
 have hval:∀ (j:Nat) t v,Tryz.f6.params[j]?=P t->args[j]?=P v->Value.okWide Tryz.prog W .any base t v:=hval0
 have hW':=hW
 obtain⟨p,q,hA0,hV,rfl,_,_⟩:=hW
 have hA:DataW.TrodAll enc Tryz.prog W 0 (fun _=>T) T Tryz.f6.params.toList args.toList ds p:=hA0
 rw[Tryz.params6] at hA hval
 obtain⟨v0,vs0,d0,ds0,p0,q0,hargs,rfl,rfl,h0,r0⟩:=trodAll_cons hA
 obtain⟨rfl,rfl,rfl⟩:=trodAll_nil r0
 obtain rfl:args=#[v0]:=by cases args;simp_all
 obtain⟨rfl,rfl⟩:=trodVars_none hV
 have k0:=h0
 have lt0:∀ x∈p0,x.block<W.heap.size:=by obtain⟨m,hm⟩:=k0;exact DataW.trod_lt m _ _ _ hm
 obtain⟨n0,s0,l0,a0,cap0,c0,rfl,u0,g0,S0,hb0⟩:=vF (hval 0 52 v0 rfl rfl) h0
 clear hA0 hval0
 rw[MakeChecks.laidMetH_plain _ _ _ (by kernel_rfl)] at hL
 refine(walk n0 s0 l0 a0 cap0 c0 u0 g0 W S0 hb0 (D2 hL hsh)).mono fun e W' ⟨he,bel⟩=>?_
 subst he
 exact⟨_,rfl,_,_,_,[],_,[],hW',trodAll_mk1 (shut_bool Tryz.underlying4 _),(trodAll_cons_mk (Below.trod AZ (by kernel_rfl) (of_decide_eq_true (by kernel_rfl)) k0 bel lt0) trodAll_mk0),rfl,bel.frame _,fun h=>by cases h⟩
theorem over:Rows.ticketRestsRow.holds Tryz.pinned (OpenSpec.ofChange Rows.ticketRestsSpec):=
 OpenClaim.holds_of_wide 6 Tryz.f6 rfl rfl rfl rfl rfl rfl rfl ⟨rfl,rfl,rfl,rfl,rfl⟩ rfl rfl rfl rfl rfl (by kernel_rfl) Tryz.func6 (by kernel_rfl)
  (of_decide_eq_true (by kernel_rfl)) (by unfold Func.isWrapper;first | (rw[if_pos (by decide +kernel)];kernel_rfl) | (rw[if_neg (by decide +kernel)];exact⟨rfl,rfl⟩))
  (fun os started H enc _=>lifted os started H enc)
theorem proved:Rows.TicketRestsCardSaid:=
 Claim7.holds_tied_plain_at .later [] Rows.ticketRestsCard.laidKinds T Rows.ticketRestsCard.stood.harness T over (fun _ h=>by cases h) (by kernel_rfl) (fun _ h=>by cases h) ticketRests_row_tie rfl ⟨rfl,rfl⟩ (by kernel_rfl) rfl
  (fun f fn hf hfn=>by
   obtain rfl:f=6:=Option.some.inj ((show Tryz.prog.funcNamed Rows.ticketRestsRow.func=P 6 by kernel_rfl).symm.trans hf) |>.symm
   obtain rfl:fn=Tryz.f6:=(Option.some.inj (Tryz.func6.symm.trans hfn)).symm
   exact⟨by kernel_rfl,fun j t ht=>by
    rw[Tryz.params6] at ht
    have hm:t∈[52]:=by simpa using Array.mem_of_getElem? ht
    have hall:([52].all fun u=>!Tryz.prog.wantsStandIn u)=T:=by kernel_rfl
    exact(show Tryz.prog.wantsStandIn t=S by simpa using List.all_eq_true.1 hall t hm)⟩)
  (by kernel_rfl)
#print axioms proved
end Go.Proofs.YthdgehcghklflaaGreatDoor.ticketRests
