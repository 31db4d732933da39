/- For any lock, whatever is done with it, and whoever calls alone behind that: TicketRests returns true: once nobody is in a call any more, a call alone comes to the lock within 2 steps, and is over within 1; no condition. A tied card: the listed variables of the library are tied to the program's text. -/
import Derived.Test.YthdgehcghklflaaGreatDoorRTkA
import Derived.Test.YthdgehcghklflaaGreatDoorRRuD
import Derived.ChangeMaps5
set_option linter.unusedVariables false
namespace Go.Proofs.YthdgehcghklflaaGreatDoor.ticketRests
set_option maxRecDepth 100000
open Go.Joins Go.ChangeShapes Go.WideShapes Go.ChangeAt Go.RowKit Go.Deep
set_option maxHeartbeats 4000000 in
theorem walk (x0 x1:Int)(l2:List OpC)(a2:Option Addr)(cap2 c:Nat)(f1:0≤x1∧x1 < 4294967296)(f2:c < 256)(W:World)(S2:OpsS W.heap.size W a2 l2)(hb2:l2.length≤maxLen)(L:Lb W):
 Calls Tryz.prog 6 #[.agg #[.int .i64 x0,.int .u32 x1,.slice a2 l2.length cap2,.int .u8 c]] W fun e w'=>e=.returned (.bool true)∧Below W.heap.size W w':=by
 have HLB:Hid (∀ V,Below W.heap.size W V→Lb V):=Lib.hid (fun V hV=>L.below hV)
 have HAw:Hid (∀ V,Below W.heap.size W V→Calls Tryz.prog 12 #[] V fun e w'=>e=.returned (.bool true)∧Below V.heap.size V w'):=Lib.hid (fun V hV=>lAwake14 V (HLB.out V hV))
 obtain⟨u0,u1⟩:=f1
 have HS:=Lib.hid S2
 simp only[maxLen] at hb2
 clear S2 L
 have bB:Below W.heap.size W (W.alloc (.cells #[.int .i64 x0,.int .u32 x1,.slice a2 l2.length cap2,.int .u8 c] 52)):=(Below.refl _ _).alloc (Nat.le_refl _) _
 have qB:=Bk.made W 52 #[.int .i64 x0,.int .u32 x1,.slice a2 l2.length cap2,.int .u8 c]
 by_cases hn:1≤x0∧x0≤64
 ·obtain⟨N,rfl⟩:∃ N:Nat,x0=N:=⟨x0.toNat,by omega⟩
  have h1:1≤N:=by omega
  have h64:N≤64:=by omega
  clear hn
  have HD:=Lib.hid (fun V=>rSpec N x1 V h1 h64 u0 u1)
  go_enter Tryz.func6,Tryz.ntmps6
  go_upto_region 1 with fail
  generalize W.alloc (.cells #[.int .i64 N,.int .u32 x1,.slice a2 l2.length cap2,.int .u8 c] 52)=z0 at *
  obtain⟨y0,y1,y2,y3⟩:z0.cell? ⟨W.heap.size,0,none⟩=some (.int .i64 N)∧z0.cell? ⟨W.heap.size,1,none⟩=some (.int .u32 x1)∧z0.cell? ⟨W.heap.size,2,none⟩=some (.slice a2 l2.length cap2)∧z0.cell? ⟨W.heap.size,3,none⟩=some (.int .u8 c):=⟨qB.cell 0,qB.cell 1,qB.cell 2,qB.cell 3⟩
  clear qB
  go_quiet (fail)
  clear y0 y1 y2 y3
  replace bB:=bB.trans ((below_drawnV z0 nq).mono bB.size)
  generalize z0.drewN nq=w0 at *
  go_wp2_with fail
  refine(HD.out w0).mono ?_
  rintro e y ⟨v,rfl,⟨sl,bS,dS,bI,dI,bR,dR,rfl,ho,-⟩,hy⟩
  obtain⟨bL,dL,rfl,-⟩:=own_is ho
  rw[show ([1,1]:List Int).length=2 from rfl,show ([x1,x1]:List Int).length=2 from rfl,tkR_len]
  have hyb:=(bB.trans (hy.mono bB.size)).alloc (o:=.cells #[.slice bL tkP.l.length dL,.int .i64 tkP.lo,.int .i64 tkP.un,.slice bS 2 dS,.slice bI 2 dI,.int .i64 0,.slice bR N dR] 37) (bB.trans (hy.mono bB.size)).size
  clear HD ho
  by_cases h8:N≤8
  ·by_cases h150:l2.length≤150
   ·go_upto_region 5 with fail
    generalize y.alloc (.cells #[.slice bL tkP.l.length dL,.int .i64 tkP.lo,.int .i64 tkP.un,.slice bS 2 dS,.slice bI 2 dI,.int .i64 0,.slice bR N dR] 37)=z at *
    have HC:=Lib.hid (cSpec N x1 z (HLB.out z hyb) h1 h64 u0 u1)
    go_wp2_with fail
    refine HC.out.mono ?_
    rintro e z1 ⟨v,rfl,hsv,hz1⟩
    have HSV:=Lib.hid hsv
    obtain⟨aL,cL,aS,cS,aI,cI,aR,cR,rfl,-⟩:=hsv
    rw[show ([1,1]:List Int).length=2 from rfl,show ([x1,x1]:List Int).length=2 from rfl,tkR_len] at *
    have b1:=hyb.trans (hz1.mono hyb.size)
    have hza:Below z1.heap.size z1 (z1.alloc (.cells #[.slice aL tkP.l.length cL,.int .i64 tkP.lo,.int .i64 tkP.un,.slice aS 2 cS,.slice aI 2 cI,.int .i64 0,.slice aR N cR] 29)):=(Below.refl _ _).alloc (Nat.le_refl _) _
    have q2:=Bk.made z1 29 #[.slice aL tkP.l.length cL,.int .i64 tkP.lo,.int .i64 tkP.un,.slice aS 2 cS,.slice aI 2 cI,.int .i64 0,.slice aR N cR]
    have b2:=b1.trans (hza.mono b1.size)
    obtain⟨zb,hzb⟩:∃ zb,z1.heap.size=zb:=⟨_,rfl⟩
    rw[hzb] at q2
    have HSV2:=Lib.hid (HSV.out.below hza)
    clear HC hz1 b1 HSV
    go_upto_region 6 with fail
    try rw[hzb]
    generalize z1.alloc (.cells #[.slice aL tkP.l.length cL,.int .i64 tkP.lo,.int .i64 tkP.un,.slice aS 2 cS,.slice aI 2 cI,.int .i64 0,.slice aR N cR] 29)=z2 at *
    obtain⟨y0,y1,y2,y3,y4,y5,y6⟩:z2.cell? ⟨zb,0,none⟩=some (.slice aL tkP.l.length cL)∧z2.cell? ⟨zb,1,none⟩=some (.int .i64 tkP.lo)∧z2.cell? ⟨zb,2,none⟩=some (.int .i64 tkP.un)∧z2.cell? ⟨zb,3,none⟩=some (.slice aS 2 cS)∧z2.cell? ⟨zb,4,none⟩=some (.slice aI 2 cI)∧z2.cell? ⟨zb,5,none⟩=some (.int .i64 0)∧z2.cell? ⟨zb,6,none⟩=some (.slice aR N cR):=⟨q2.cell 0,q2.cell 1,q2.cell 2,q2.cell 3,q2.cell 4,q2.cell 5,q2.cell 6⟩
    have HRf:=Lib.hid (lRef10 HSV2.out (by decide))
    clear hza hzb
    go_wp2_with fail
    refine HRf.out.mono ?_
    rintro e z3 ⟨v3,rfl,hv3,hz3⟩
    have b3:=b2.trans (hz3.mono b2.size)
    have HRg:=Lib.hid (rRightT hv3 tk_wf (tk_okS h1 h64))
    clear HRf y0 y1 y2 y3 y4 y5 y6 hv3
    go_wp2_with fail
    refine HRg.out.mono ?_
    rintro e z4 ⟨rfl,hz4⟩
    have hz24:=hz3.trans (hz4.mono hz3.size)
    have b4:=b3.trans (hz4.mono b3.size)
    have q4:Bk z4 zb 29 #[.slice aL tkP.l.length cL,.int .i64 tkP.lo,.int .i64 tkP.un,.slice aS 2 cS,.slice aI 2 cI,.int .i64 0,.slice aR N cR]:=(hz24.block _ (Bk.lt q2)).trans q2
    have HSV4:=Lib.hid (HSV2.out.below hz24)
    obtain⟨m,hm⟩:∃ m:Nat,c % N=m:=⟨_,rfl⟩
    have hmN:m < N:=by rw[←hm];exact Nat.mod_lt _ h1
    have hcm:(c:Int) % (N:Int)=(m:Int):=by rw[←hm];exact(Int.natCast_emod c N).symm
    have hcm2:Int.tmod (c:Int) (N:Int)=(m:Int):=by rw[←hm];rfl
    have hN0:¬ N=0:=by omega
    have hcw:IntKind.i64.wrap (c:Int)=(c:Int):=by
     have hm9:(c:Int) % (2 ^ 64:Int)=(c:Int):=by omega
     unfold IntKind.wrap
     simp only[IntKind.bits,IntKind.signed,hm9]
     rw[if_neg (by simp;omega)]
    have hs4:=b4.size
    have HRst:Hid (∀ V v B,Below z4.heap.size z4 V→z4.heap.size≤B→B≤V.heap.size→Rv B V v tkP [1,1] [x1,x1] (tkR N) 0→Calls Tryz.prog 18 #[v,.int .i64 N,.slice a2 l2.length cap2,.int .i64 m,.int .i64 2,.int .i64 1] V fun e w'=>e=.returned (.bool true)∧Below z4.heap.size z4 w'):=Lib.hid (fun V v B hV hB1 hB2 hv=>by
     obtain⟨r2,r3,r4,e2,g2,e3,g3,e4,g4,g5,g6⟩:=tk_restsT (n:=N) h1 h8 u0 u1 (l2.map OpC.op) hmN
     have bV:=b4.trans (hV.mono b4.size)
     have h9:=rRests (k:=tkK N) (init:=[x1,x1]) (r7:=tkR N) l2 cap2 a2 hB2 (tk_ok h1 h64) rfl hv rfl (tkI_u32 u0 u1) (tkR_len N) (tkR_u32 N) (HS.out.grow bV (Nat.le_refl _) (Nat.le_trans b4.size hB1)) (by omega) m 2 1 hmN (by omega) (by omega) r2 r3 r4 e2 g2 e3 g3 e4 g4 g5 g6 tk_steps
     exact h9.mono fun e w' h=>⟨h.1,below_win hV h.2 hB1 (Nat.le_refl _)⟩)
    have HRf:Hid (∀ V,Below z4.heap.size z4 V→Calls Tryz.prog 11 #[.agg #[.slice aL tkP.l.length cL,.int .i64 tkP.lo,.int .i64 tkP.un,.slice aS 2 cS,.slice aI 2 cI,.int .i64 0,.slice aR N cR]] V fun e w'=>∃ v',e=.returned v'∧Rv V.heap.size w' v' tkP [1,1] [x1,x1] (tkR N) 0∧Below V.heap.size V w'):=Lib.hid (fun V hV=>lRef10 (HSV4.out.below hV) (by decide))
    have HQ:Hid (∀ V,Below z4.heap.size z4 V→Bk V zb 29 #[.slice aL tkP.l.length cL,.int .i64 tkP.lo,.int .i64 tkP.un,.slice aS 2 cS,.slice aI 2 cI,.int .i64 0,.slice aR N cR]):=Lib.hid fun V hV=>(hV.block _ (Bk.lt q4)).trans q4
    clear HRg hz3 hz4 b2 b3 q2 q4 HSV2 HSV4 hm hz24
    go_upto_region 8 with fail
    refine wp_region_flowK [8] (fun _ V=>Below z4.heap.size z4 V) (fun _ _ _=>True) (fun vs=>{ tmps:=#[.agg #[.int .i64 (N:Int),.int .u32 x1,.slice a2 l2.length cap2,.int .u8 (c:Int)],.pointer (some ⟨W.heap.size,0,none⟩),vs 12,.int .i64 (N:Int),.int .u32 x1,.slice a2 l2.length cap2,.int .u8 (c:Int),.pointer (some ⟨y.heap.size,0,none⟩),.bool true,.pointer (some ⟨zb,0,none⟩),.int .i64 0,.pointer (some ⟨W.heap.size,0,none⟩),.int .i64 (N:Int),.pointer (some ⟨W.heap.size,1,none⟩),.int .u32 x1,.pointer (some ⟨W.heap.size,2,none⟩),.slice a2 l2.length cap2,.pointer (some ⟨W.heap.size,3,none⟩),.int .u8 (c:Int),.tuple #[.agg #[.slice bL tkP.l.length dL,.int .i64 tkP.lo,.int .i64 tkP.un,.slice bS 2 dS,.slice bI 2 dI,.int .i64 0,.slice bR N dR],.bool true],.int .i64 (N:Int),.int .u32 x1,.tuple #[.agg #[.slice bL tkP.l.length dL,.int .i64 tkP.lo,.int .i64 tkP.un,.slice bS 2 dS,.slice bI 2 dI,.int .i64 0,.slice bR N dR],.bool true],.agg #[.slice bL tkP.l.length dL,.int .i64 tkP.lo,.int .i64 tkP.un,.slice bS 2 dS,.slice bI 2 dI,.int .i64 0,.slice bR N dR],.bool true,.bool true,.bool false,.bool false,.int .i64 (N:Int),.bool (decide (8 < (N:Int))),.bool (decide (8 < (N:Int))),.bool (decide (8 < (N:Int))),.slice a2 l2.length cap2,.int .i64 (l2.length:Int),.bool (decide (150 < (l2.length:Int))),.bool (decide (8 < (N:Int)) || decide (150 < (l2.length:Int))),undef,.tuple #[.agg #[.slice aL tkP.l.length cL,.int .i64 tkP.lo,.int .i64 tkP.un,.slice aS 2 cS,.slice aI 2 cI,.int .i64 0,.slice aR N cR],.int .i64 0],.int .i64 (N:Int),.int .u32 x1,.tuple #[.agg #[.slice aL tkP.l.length cL,.int .i64 tkP.lo,.int .i64 tkP.un,.slice aS 2 cS,.slice aI 2 cI,.int .i64 0,.slice aR N cR],.int .i64 0],.agg #[.slice aL tkP.l.length cL,.int .i64 tkP.lo,.int .i64 tkP.un,.slice aS 2 cS,.slice aI 2 cI,.int .i64 0,.slice aR N cR],.int .i64 0,.int .i64 0,.bool false,.bool false,.agg #[.slice aL tkP.l.length cL,.int .i64 tkP.lo,.int .i64 tkP.un,.slice aS 2 cS,.slice aI 2 cI,.int .i64 0,.slice aR N cR],v3,.int .i64 (N:Int),.bool true,.bool false,.bool false,vs 0,vs 1,vs 2,vs 3,vs 4,vs 5,vs 6,vs 7,vs 8,vs 9,vs 10,vs 11],defers:=[] }) (mixK [(1,(fun k v V=>k=0→∃ B,z4.heap.size≤B∧B≤V.heap.size∧Rv B V v tkP [1,1] [x1,x1] (tkR N) 0))] [.agg #[.slice aL tkP.l.length cL,.int .i64 tkP.lo,.int .i64 tkP.un,.slice aS 2 cS,.slice aI 2 cI,.int .i64 0,.slice aR N cR],undef,.int .i64 (N:Int),.slice a2 l2.length cap2,.int .u8 (c:Int),.int .i64 (c:Int),.int .i64 (N:Int),.int .i64 (m:Int),.bool true,.bool true,.bool true,.bool true,.bool true]) ?ghm ?ghr ?ghc ?ghnd ?ghlit ?gh0 ?ghW ?ghF ?ghS ?gops ?gdone
    case ghm=>kernel_rfl
    case ghr=>kernel_rfl
    case ghc=>kernel_rfl
    case ghnd=>decide
    case ghlit=>intro vs;rfl
    case gh0=>exact Below.refl _ _
    case ghW=>exact fun kk V V2 h hb=>h.trans (hb.mono h.size)
    case ghF=>exact mixK_stable (by
     intro p0 hp
     simp only[List.mem_cons,List.not_mem_nil,or_false] at hp
     rcases hp with rfl
     exact fun k v V V2 h hb hk=>by
      obtain⟨B,g1,g2,g3⟩:=h hk
      exact⟨B,g1,Nat.le_trans g2 hb.size,g3.below hb⟩)
    case ghS=>exact fun kk V V2 _ _=>mixK_keep (by
     intro p0 hp
     simp only[List.mem_cons,List.not_mem_nil,or_false] at hp
     rcases hp with rfl
     exact fun v _ hk=>absurd hk (by omega))
    case gops=>
     refine⟨?_,?_,?_,?_,?_,?_,?_,?_,?_,?_,?_,?_,?_,trivial⟩
     ·intro vs V kk h1 h2 hW hd
      refine leaves_free rfl ?_
      have hq:=HQ.out V hW
      obtain⟨y0,y1,y2,y3,y4,y5,y6⟩:V.cell? ⟨zb,0,none⟩=some (.slice aL tkP.l.length cL)∧V.cell? ⟨zb,1,none⟩=some (.int .i64 tkP.lo)∧V.cell? ⟨zb,2,none⟩=some (.int .i64 tkP.un)∧V.cell? ⟨zb,3,none⟩=some (.slice aS 2 cS)∧V.cell? ⟨zb,4,none⟩=some (.slice aI 2 cI)∧V.cell? ⟨zb,5,none⟩=some (.int .i64 0)∧V.cell? ⟨zb,6,none⟩=some (.slice aR N cR):=⟨hq.cell 0,hq.cell 1,hq.cell 2,hq.cell 3,hq.cell 4,hq.cell 5,hq.cell 6⟩
      clear hq
      clear hd
      go_simp
      exact⟨rfl,Below.refl _ _⟩
     ·intro vs V kk h1 h2 hW hd
      obtain rfl:kk=0:=Nat.le_zero.1 h2
      refine leaves_free rfl ?_
      have e0:vs 0=.agg #[.slice aL tkP.l.length cL,.int .i64 tkP.lo,.int .i64 tkP.un,.slice aS 2 cS,.slice aI 2 cI,.int .i64 0,.slice aR N cR]:=hd 0 (by decide)
      have HS:=Lib.hid (HRf.out V hW)
      have hsz:=Below.size hW
      clear hd
      go_simp
      refine HS.out.mono ?_
      rintro e zz ⟨v',rfl,h5,h6⟩
      exact⟨_,rfl,fun _=>⟨V.heap.size,hsz,h6.size,h5⟩,h6⟩
     ·intro vs V kk h1 h2 hW hd
      refine leaves_free rfl ?_
      clear hd
      go_simp
      exact⟨rfl,Below.refl _ _⟩
     ·intro vs V kk h1 h2 hW hd
      refine leaves_free rfl ?_
      clear hd
      go_simp
      exact⟨rfl,Below.refl _ _⟩
     ·intro vs V kk h1 h2 hW hd
      refine leaves_free rfl ?_
      clear hd
      go_simp
      exact⟨rfl,Below.refl _ _⟩
     ·intro vs V kk h1 h2 hW hd
      refine leaves_free rfl ?_
      have e4:vs 4=.int .u8 (c:Int):=hd 4 (by decide)
      clear hd
      go_simp
      exact⟨rfl,Below.refl _ _⟩
     ·intro vs V kk h1 h2 hW hd
      refine leaves_free rfl ?_
      clear hd
      go_simp
      exact⟨rfl,Below.refl _ _⟩
     ·intro vs V kk h1 h2 hW hd
      refine leaves_free rfl ?_
      have e5:vs 5=.int .i64 (c:Int):=hd 5 (by decide)
      have e6:vs 6=.int .i64 (N:Int):=hd 6 (by decide)
      clear hd
      go_simp
      exact⟨rfl,Below.refl _ _⟩
     ·intro vs V hW hd
      have e2:vs 2=.int .i64 (N:Int):=hd 2 (by decide)
      have e3:vs 3=.slice a2 l2.length cap2:=hd 3 (by decide)
      have e7:vs 7=.int .i64 (m:Int):=hd 7 (by decide)
      obtain⟨B,hB1,hB2,hB3⟩:∃ B,z4.heap.size≤B∧B≤V.heap.size∧Rv B V (vs 1) tkP [1,1] [x1,x1] (tkR N) 0:=hd 1 (by decide) rfl
      have HRs:=Lib.hid (HRst.out V (vs 1) B hW hB1 hB2 hB3)
      refine leavesIf_free rfl ?_
      clear hd hB3
      go_simp
      refine HRs.out.mono ?_
      rintro e zz ⟨rfl,h6⟩
      exact⟨_,rfl,by first | exact⟨rfl,h6,trivial⟩ | exact⟨rfl,h6⟩ | exact⟨h6,trivial⟩⟩
     ·intro vs V kk h1 h2 hW hd
      refine leaves_free rfl ?_
      have e8:vs 8=.bool true:=hd 8 (by decide)
      clear hd
      go_simp
      exact⟨rfl,Below.refl _ _⟩
     ·intro vs V kk h1 h2 hW hd
      have eg:vs 9=.bool true:=hd 9 (by decide)
      refine leaves_guard rfl (by show (match some (vs 9) with | some (.bool b)=>some b | _=>none)=some true;rw[eg]) ?_
      clear eg
      have HA9:=Lib.hid (HAw.out V (b4.trans (hW.mono b4.size)))
      clear hd
      go_simp
      refine HA9.out.mono ?_
      rintro e zz ⟨rfl,h6⟩
      exact⟨_,rfl,rfl,h6⟩
     ·intro vs V kk h1 h2 hW hd
      refine leaves_free rfl ?_
      have e9:vs 9=.bool true:=hd 9 (by decide)
      have e10:vs 10=.bool true:=hd 10 (by decide)
      clear hd
      go_simp
      exact⟨rfl,Below.refl _ _⟩
     ·intro vs V kk h1 h2 hW hd
      refine leaves_free rfl ?_
      have e11:vs 11=.bool true:=hd 11 (by decide)
      clear hd
      go_simp
      exact⟨rfl,Below.refl _ _⟩
    case gdone=>
     intro vs V hW hf
     have f0:vs 0=.agg #[.slice aL tkP.l.length cL,.int .i64 tkP.lo,.int .i64 tkP.un,.slice aS 2 cS,.slice aI 2 cI,.int .i64 0,.slice aR N cR]:=hf 0 (by decide)
     have f2:vs 2=.int .i64 (N:Int):=hf 2 (by decide)
     have f3:vs 3=.slice a2 l2.length cap2:=hf 3 (by decide)
     have f4:vs 4=.int .u8 (c:Int):=hf 4 (by decide)
     have f5:vs 5=.int .i64 (c:Int):=hf 5 (by decide)
     have f6:vs 6=.int .i64 (N:Int):=hf 6 (by decide)
     have f7:vs 7=.int .i64 (m:Int):=hf 7 (by decide)
     have f8:vs 8=.bool true:=hf 8 (by decide)
     have f9:vs 9=.bool true:=hf 9 (by decide)
     have f10:vs 10=.bool true:=hf 10 (by decide)
     have f11:vs 11=.bool true:=hf 11 (by decide)
     have f12:vs 12=.bool true:=hf 12 (by decide)
     simp only[f0,f2,f3,f4,f5,f6,f7,f8,f9,f10,f11,f12]
     clear f0 f2 f3 f4 f5 f6 f7 f8 f9 f10 f11 f12
     generalize vs 1=r1 at *
     have hfin:Below W.heap.size W V:=b4.trans (hW.mono b4.size)
     clear hf hW
     go_wp2
     go_ret
     exact⟨rfl,hfin⟩
   ·have hf1:150 < l2.length:=by omega
    go_wp2_with fail
    refine(HAw.out _ (hyb)).mono ?_
    rintro e w9 ⟨rfl,hw9⟩
    have hf:=(hyb).trans (hw9.mono (hyb).size)
    go_wp2
    go_ret
    exact⟨rfl,hf⟩
  ·have hf8:8 < N:=by omega
   go_wp2_with fail
   refine(HAw.out _ (hyb)).mono ?_
   rintro e w9 ⟨rfl,hw9⟩
   have hf:=(hyb).trans (hw9.mono (hyb).size)
   go_wp2
   go_ret
   exact⟨rfl,hf⟩
 ·have HD:=Lib.hid (fun V=>rSpecNo x0 x1 V hn)
  clear hn
  unfold spZ at HD
  go_enter Tryz.func6,Tryz.ntmps6
  go_upto_region 1 with fail
  generalize W.alloc (.cells #[.int .i64 x0,.int .u32 x1,.slice a2 l2.length cap2,.int .u8 c] 52)=z0 at *
  obtain⟨y0,y1,y2,y3⟩:z0.cell? ⟨W.heap.size,0,none⟩=some (.int .i64 x0)∧z0.cell? ⟨W.heap.size,1,none⟩=some (.int .u32 x1)∧z0.cell? ⟨W.heap.size,2,none⟩=some (.slice a2 l2.length cap2)∧z0.cell? ⟨W.heap.size,3,none⟩=some (.int .u8 c):=⟨qB.cell 0,qB.cell 1,qB.cell 2,qB.cell 3⟩
  clear qB
  go_quiet (fail)
  clear y0 y1 y2 y3
  replace bB:=bB.trans ((below_drawnV z0 nq).mono bB.size)
  generalize z0.drewN nq=w0 at *
  go_wp2_with fail
  refine(HD.out w0).mono ?_
  rintro e y ⟨rfl,hy⟩
  have hyb:=(bB.trans (hy.mono bB.size)).alloc (o:=.cells #[.slice none 0 0,.int .i64 0,.int .i64 0,.slice none 0 0,.slice none 0 0,.int .i64 0,.slice none 0 0] 37) (bB.trans (hy.mono bB.size)).size
  clear HD
  go_wp2_with fail
  refine(HAw.out _ (hyb)).mono ?_
  rintro e w9 ⟨rfl,hw9⟩
  have hf:=(hyb).trans (hw9.mono (hyb).size)
  go_wp2
  go_ret
  exact⟨rfl,hf⟩
set_option maxRecDepth 100000 in
theorem lifted (os:Os)(started:os.Started)(H:Type)(enc:TypeId×Value→H):
 ReturnsInHanded {} Tryz.checked os 6 .any (fun w args=>(Rows.ticketRestsSpec.pre enc Tryz.prog Tryz.f6 [] false w args∧laidMetH Tryz.prog Rows.ticketRestsRow.laid w)∧sizedMet enc Tryz.prog Tryz.f6 (OpenSpec.ofChange Rows.ticketRestsSpec) false w args)
  (Rows.ticketRestsSpec.post enc Tryz.prog Tryz.f6 false true false false):=by
 refine returns_laid (C:=Tryz.checked) (X:=fun w _=>laidMetH Tryz.prog Rows.ticketRestsRow.laid w) (fun _ _ _ hh h=>h.of_heap hh) own started (by kernel_rfl) Tryz.func6
  (ChangeSpec.witness_shaped (enc:=enc) (C:=Tryz.checked) (os:=os) (X:=fun w _=>laidMetH Tryz.prog Rows.ticketRestsRow.laid w) false (World.laidAll Tryz.prog os Rows.ticketRestsRow.laid) #[.agg #[.int .i64 0,.int .u32 0,.slice none 0 0,.int .u8 0]] 8 (World.laidAll_os _ _ _)
   (World.shaped_of_ZipB (by kernel_rfl) (by kernel_rfl)) (by kernel_rfl) (by kernel_rfl) (by kernel_rfl)
   (by rw[MakeChecks.laidMetH_plain _ _ _ (by kernel_rfl)];exact laidMet_laidAll _ (by kernel_rfl) (by kernel_rfl))) ?_
 intro W base args ds gs before hval0 hW hL hsh
 have hval:∀ (j:Nat) t v,Tryz.f6.params[j]?=some t→args[j]?=some v→Value.okWide Tryz.prog W .any base t v:=hval0
 have hW':=hW
 obtain⟨p,q,hA0,hV,rfl,_,_⟩:=hW
 have hA:DataW.TrodAll enc Tryz.prog W 0 (fun _=>true) true Tryz.f6.params.toList args.toList ds p:=hA0
 rw[Tryz.params6] at hA hval
 obtain⟨v0,vs0,d0,ds0,p0,q0,hargs,rfl,rfl,h0,r0⟩:=trodAll_cons hA
 obtain⟨rfl,rfl,rfl⟩:=trodAll_nil r0
 obtain rfl:args=#[v0]:=by cases args;simp_all
 obtain⟨rfl,rfl⟩:=trodVars_none hV
 have k0:=h0
 have lt0:∀ x∈p0,x.block < W.heap.size:=by obtain⟨m,hm⟩:=k0;exact DataW.trod_lt m _ _ _ hm
 obtain⟨n0,s0,l0,a0,cap0,c0,rfl,u0,g0,S0,hb0⟩:=open_rest (hval 0 52 v0 rfl rfl) h0
 clear hA0 hval0
 rw[MakeChecks.laidMetH_plain _ _ _ (by kernel_rfl)] at hL
 refine(walk n0 s0 l0 a0 cap0 c0 u0 g0 W S0 hb0 (lb_of hL hsh)).mono fun e W' ⟨he,bel⟩=>?_
 subst he
 exact⟨_,rfl,_,_,_,[],_,[],hW',trodAll_mk1 (shut_bool Tryz.underlying4 _),(trodAll_cons_mk (Below.trod laidOut (by kernel_rfl) (of_decide_eq_true (by kernel_rfl)) k0 bel lt0) trodAll_mk0),rfl,bel.frame _,fun h=>by cases h⟩
theorem over:Rows.ticketRestsRow.holds Tryz.pinned (OpenSpec.ofChange Rows.ticketRestsSpec):=
 OpenClaim.holds_of_wide 6 Tryz.f6 rfl rfl rfl rfl rfl rfl rfl ⟨rfl,rfl,rfl,rfl,rfl⟩ rfl rfl rfl rfl rfl (by kernel_rfl) Tryz.func6 (by kernel_rfl)
  (of_decide_eq_true (by kernel_rfl)) (by unfold Func.isWrapper;first | (rw[if_pos (by decide +kernel)];kernel_rfl) | (rw[if_neg (by decide +kernel)];exact⟨rfl,rfl⟩))
  (fun os started H enc _=>lifted os started H enc)
theorem proved:Rows.TicketRestsCardSaid:=
 Claim7.holds_tied_plain_at .later [] Rows.ticketRestsCard.laidKinds true Rows.ticketRestsCard.stood.harness true over (fun _ h=>by cases h) (by kernel_rfl) (fun _ h=>by cases h) ticketRests_row_tie rfl ⟨rfl,rfl⟩ (by kernel_rfl) rfl
  (fun f fn hf hfn=>by
   obtain rfl:f=6:=Option.some.inj ((show Tryz.prog.funcNamed Rows.ticketRestsRow.func=some 6 by kernel_rfl).symm.trans hf) |>.symm
   obtain rfl:fn=Tryz.f6:=(Option.some.inj (Tryz.func6.symm.trans hfn)).symm
   exact⟨by kernel_rfl,fun j t ht=>by
    rw[Tryz.params6] at ht
    have hm:t∈[52]:=by simpa using Array.mem_of_getElem? ht
    have hall:([52].all fun u=>!Tryz.prog.wantsStandIn u)=true:=by kernel_rfl
    exact(show Tryz.prog.wantsStandIn t=false by simpa using List.all_eq_true.1 hall t hm)⟩)
  (by kernel_rfl)
#print axioms proved
end Go.Proofs.YthdgehcghklflaaGreatDoor.ticketRests
