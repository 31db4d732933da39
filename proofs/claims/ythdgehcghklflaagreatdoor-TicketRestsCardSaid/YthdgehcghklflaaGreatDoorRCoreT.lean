import Derived.Test.YthdgehcghklflaaGreatDoorRRefP
import Derived.Deep.CutBlock
set_option linter.unusedVariables false
namespace Go.Proofs.YthdgehcghklflaaGreatDoor
set_option maxRecDepth 100000
open Go.ChangeShapes Go.WideShapes Go.ChangeAt Go.RowKit
set_option maxHeartbeats 4000000 in
set_option maxRecDepth 100000 in
theorem rOne (xs:List Int)(pc:Int)(i:Ins)(self:Int)(hx:Eight xs)(hi:OkI i)(h0:0≤self)(h1:self < 4294967296)(p0:-9223372036854775808≤pc)(p1:pc≤1099511627776)(w:World):
 Calls Tryz.prog 118 #[rv xs pc,iv i,.int .i64 self] w fun e w'=>e=.returned (rv (oneR xs i self) (oneP xs pc i))∧Below w.heap.size w w':=by
 have HO:Hid (oneR xs i self=if memB i.op then xs else match valueO xs i self with | some v=>xs.set i.d.toNat v | none=>xs):=Lib.hid rfl
 have HP:Hid (oneP xs pc i=if memB i.op then pc else placeL xs pc i):=Lib.hid rfl
 have HE:Hid (Eight (oneR xs i self)):=Lib.hid (hx.one hi h0 h1)
 have hd:=hi.d
 have hs:=hi.s
 have ht:=hi.t
 have hk:=hi.k
 have hsh:=hi.sh
 have hop:=hi.op
 obtain⟨h8,hxu⟩:=hx
 unfold valueO placeL at *
 generalize oneR xs i self=XS at *
 generalize oneP xs pc i=PC at *
 obtain⟨op,d,s,t,u,a',k,pl⟩:=i
 clear hi
 simp only at hd hs ht hk hsh hop HO HP
 obtain⟨dn,rfl⟩:∃ n:Nat,d=n:=⟨d.toNat,by omega⟩
 obtain⟨sn,rfl⟩:∃ n:Nat,s=n:=⟨s.toNat,by omega⟩
 obtain⟨tn,rfl⟩:∃ n:Nat,t=n:=⟨t.toNat,by omega⟩
 have hd8:dn < 8:=by omega
 have hs8:sn < 8:=by omega
 have ht8:tn < 8:=by omega
 have hdi:(dn:Int) < 8:=by omega
 have hsi:(sn:Int) < 8:=by omega
 have hti:(tn:Int) < 8:=by omega
 simp only[Int.toNat_natCast] at HO HP
 have hA:=hxu.at_ sn
 have hB:=hxu.at_ tn
 obtain⟨r0,r1,r2,r3,r4,r5,r6,r7,rfl⟩:=eight_cons h8
 have q0:Rb (((w.alloc (.cells #[.int .i64 r0,.int .i64 r1,.int .i64 r2,.int .i64 r3,.int .i64 r4,.int .i64 r5,.int .i64 r6,.int .i64 r7,.int .i64 pc] 112)).alloc (.cells #[.int .i64 op,.int .i64 dn,.int .i64 sn,.int .i64 tn,.int .i64 u,.int .i64 a',.int .u32 k,.int .i64 pl] 125)).alloc (.cells #[.int .i64 0,.int .i64 0,.int .i64 0,.int .i64 0,.int .i64 0,.int .i64 0,.int .i64 0,.int .i64 0,.int .i64 0] 112)) w.heap.size [r0,r1,r2,r3,r4,r5,r6,r7] pc:=((Rb.made w [r0,r1,r2,r3,r4,r5,r6,r7] pc).alloc (.cells #[.int .i64 op,.int .i64 dn,.int .i64 sn,.int .i64 tn,.int .i64 u,.int .i64 a',.int .u32 k,.int .i64 pl] 125)).alloc (.cells #[.int .i64 0,.int .i64 0,.int .i64 0,.int .i64 0,.int .i64 0,.int .i64 0,.int .i64 0,.int .i64 0,.int .i64 0] 112)
 have q1:Jb (((w.alloc (.cells #[.int .i64 r0,.int .i64 r1,.int .i64 r2,.int .i64 r3,.int .i64 r4,.int .i64 r5,.int .i64 r6,.int .i64 r7,.int .i64 pc] 112)).alloc (.cells #[.int .i64 op,.int .i64 dn,.int .i64 sn,.int .i64 tn,.int .i64 u,.int .i64 a',.int .u32 k,.int .i64 pl] 125)).alloc (.cells #[.int .i64 0,.int .i64 0,.int .i64 0,.int .i64 0,.int .i64 0,.int .i64 0,.int .i64 0,.int .i64 0,.int .i64 0] 112)) (w.heap.size+1) ⟨op,dn,sn,tn,u,a',k,pl⟩:=by
  have:=Bk.alloc (Jb.made (w.alloc (.cells #[.int .i64 r0,.int .i64 r1,.int .i64 r2,.int .i64 r3,.int .i64 r4,.int .i64 r5,.int .i64 r6,.int .i64 r7,.int .i64 pc] 112)) op dn sn tn u a' k pl) (.cells #[.int .i64 0,.int .i64 0,.int .i64 0,.int .i64 0,.int .i64 0,.int .i64 0,.int .i64 0,.int .i64 0,.int .i64 0] 112)
  rw[World.size_alloc] at this
  exact this
 have q2:Rb (((w.alloc (.cells #[.int .i64 r0,.int .i64 r1,.int .i64 r2,.int .i64 r3,.int .i64 r4,.int .i64 r5,.int .i64 r6,.int .i64 r7,.int .i64 pc] 112)).alloc (.cells #[.int .i64 op,.int .i64 dn,.int .i64 sn,.int .i64 tn,.int .i64 u,.int .i64 a',.int .u32 k,.int .i64 pl] 125)).alloc (.cells #[.int .i64 0,.int .i64 0,.int .i64 0,.int .i64 0,.int .i64 0,.int .i64 0,.int .i64 0,.int .i64 0,.int .i64 0] 112)) (w.heap.size+1+1) [0,0,0,0,0,0,0,0] 0:=by
  have:=Rb.made ((w.alloc (.cells #[.int .i64 r0,.int .i64 r1,.int .i64 r2,.int .i64 r3,.int .i64 r4,.int .i64 r5,.int .i64 r6,.int .i64 r7,.int .i64 pc] 112)).alloc (.cells #[.int .i64 op,.int .i64 dn,.int .i64 sn,.int .i64 tn,.int .i64 u,.int .i64 a',.int .u32 k,.int .i64 pl] 125)) [0,0,0,0,0,0,0,0] 0
  rw[World.size_alloc,World.size_alloc] at this
  exact this
 have b0:Below w.heap.size w (((w.alloc (.cells #[.int .i64 r0,.int .i64 r1,.int .i64 r2,.int .i64 r3,.int .i64 r4,.int .i64 r5,.int .i64 r6,.int .i64 r7,.int .i64 pc] 112)).alloc (.cells #[.int .i64 op,.int .i64 dn,.int .i64 sn,.int .i64 tn,.int .i64 u,.int .i64 a',.int .u32 k,.int .i64 pl] 125)).alloc (.cells #[.int .i64 0,.int .i64 0,.int .i64 0,.int .i64 0,.int .i64 0,.int .i64 0,.int .i64 0,.int .i64 0,.int .i64 0] 112)):=(((Below.refl _ _).alloc (Nat.le_refl _) _).alloc (by simp) _).alloc (by simp;omega) _
 unfold rv iv at *
 simp only[rorC,List.map_cons,List.map_nil,List.cons_append,List.nil_append]
 go_enter Tryz.func118,Tryz.ntmps118
 go_upto_region 1 with fail
 generalize ((w.alloc (.cells #[.int .i64 r0,.int .i64 r1,.int .i64 r2,.int .i64 r3,.int .i64 r4,.int .i64 r5,.int .i64 r6,.int .i64 r7,.int .i64 pc] 112)).alloc (.cells #[.int .i64 op,.int .i64 dn,.int .i64 sn,.int .i64 tn,.int .i64 u,.int .i64 a',.int .u32 k,.int .i64 pl] 125)).alloc (.cells #[.int .i64 0,.int .i64 0,.int .i64 0,.int .i64 0,.int .i64 0,.int .i64 0,.int .i64 0,.int .i64 0,.int .i64 0] 112)=x at *
 have cA:=q0.at_ h8 hs8
 have cB:=q0.at_ h8 ht8
 obtain⟨e0,e1,e2,e3,e4,e5,e6,e7⟩:=q1.cells
 simp only at e0 e1 e2 e3 e4 e5 e6 e7
 generalize nth [r0,r1,r2,r3,r4,r5,r6,r7] sn=A at *
 generalize nth [r0,r1,r2,r3,r4,r5,r6,r7] tn=B at *
 go_quiet ((fail))
 replace q0:Rb (x.drewN nq) _ _ _:=q0
 replace q1:Jb (x.drewN nq) _ _:=q1
 replace q2:Rb (x.drewN nq) _ _ _:=q2
 replace b0:=Go.below_drewN b0 nq
 replace cA:(x.drewN nq).cell? _=_:=cA
 clear cA cB e0 e1 e2 e3 e4 e5 e6 e7
 generalize x.drewN nq=x at *
 obtain⟨e0,e1,e2,e3,e4,e5,e6,e7⟩:=q1.cells
 simp only at e0 e1 e2 e3 e4 e5 e6 e7
 by_cases hstay:16≤op∨op=13
 ·have HS:Hid (XS=[r0,r1,r2,r3,r4,r5,r6,r7]∧PC=pc):=Lib.hid (by
   rw[HO.out,HP.out]
   rcases hstay with h | h
   ·have:memB op=true:=by simp[memB];omega
    simp[this]
   ·subst h;exact⟨rfl,rfl⟩)
  obtain⟨c0,c1,c2,c3,c4,c5,c6,c7,c8⟩:=q0.cells
  obtain⟨z0,z1,z2,z3,z4,z5,z6,z7,z8⟩:=q2.cells
  have zf:=Bk.free q2
  by_cases h16:16≤op
  ·clear hstay hop
   go_upto_region 3 with fail
   have h9:=put9_bk q2 (.int .i64 r0) (.int .i64 r1) (.int .i64 r2) (.int .i64 r3) (.int .i64 r4) (.int .i64 r5) (.int .i64 r6) (.int .i64 r7) (.int .i64 pc)
   have b9:=put9_below b0 (show w.heap.size≤w.heap.size+1+1 by omega) (.int .i64 r0) (.int .i64 r1) (.int .i64 r2) (.int .i64 r3) (.int .i64 r4) (.int .i64 r5) (.int .i64 r6) (.int .i64 r7) (.int .i64 pc)
   go_wp
   generalize hv9:(((((((((x.setCell ⟨w.heap.size+1+1,0,none⟩ (.int .i64 r0)).setCell ⟨w.heap.size+1+1,1,none⟩ (.int .i64 r1)).setCell ⟨w.heap.size+1+1,2,none⟩ (.int .i64 r2)).setCell ⟨w.heap.size+1+1,3,none⟩ (.int .i64 r3)).setCell ⟨w.heap.size+1+1,4,none⟩ (.int .i64 r4)).setCell ⟨w.heap.size+1+1,5,none⟩ (.int .i64 r5)).setCell ⟨w.heap.size+1+1,6,none⟩ (.int .i64 r6)).setCell ⟨w.heap.size+1+1,7,none⟩ (.int .i64 r7)).setCell ⟨w.heap.size+1+1,8,none⟩ (.int .i64 pc))=v9
   replace hv9:put9 x (w.heap.size+1+1) (.int .i64 r0) (.int .i64 r1) (.int .i64 r2) (.int .i64 r3) (.int .i64 r4) (.int .i64 r5) (.int .i64 r6) (.int .i64 r7) (.int .i64 pc)=v9:=hv9
   rw[hv9] at h9 b9
   obtain⟨y0,y1,y2,y3,y4,y5,y6,y7,y8⟩:=Rb.cells (r0:=r0) (r1:=r1) (r2:=r2) (r3:=r3) (r4:=r4) (r5:=r5) (r6:=r6) (r7:=r7) (pc:=pc) h9
   exact bodyPost_ret (v:=.agg #[.int .i64 r0,.int .i64 r1,.int .i64 r2,.int .i64 r3,.int .i64 r4,.int .i64 r5,.int .i64 r6,.int .i64 r7,.int .i64 pc]) (by simp[results,Tryz.results118,go_sem,y0,y1,y2,y3,y4,y5,y6,y7,y8]) rfl ⟨by rw[HS.out.1,HS.out.2];rfl,b9⟩
  ·obtain rfl:op=13:=by omega
   clear hstay hop h16
   go_upto_region 3 with fail
   have h9:=put9_bk q2 (.int .i64 r0) (.int .i64 r1) (.int .i64 r2) (.int .i64 r3) (.int .i64 r4) (.int .i64 r5) (.int .i64 r6) (.int .i64 r7) (.int .i64 pc)
   have b9:=put9_below b0 (show w.heap.size≤w.heap.size+1+1 by omega) (.int .i64 r0) (.int .i64 r1) (.int .i64 r2) (.int .i64 r3) (.int .i64 r4) (.int .i64 r5) (.int .i64 r6) (.int .i64 r7) (.int .i64 pc)
   go_wp
   generalize hv9:(((((((((x.setCell ⟨w.heap.size+1+1,0,none⟩ (.int .i64 r0)).setCell ⟨w.heap.size+1+1,1,none⟩ (.int .i64 r1)).setCell ⟨w.heap.size+1+1,2,none⟩ (.int .i64 r2)).setCell ⟨w.heap.size+1+1,3,none⟩ (.int .i64 r3)).setCell ⟨w.heap.size+1+1,4,none⟩ (.int .i64 r4)).setCell ⟨w.heap.size+1+1,5,none⟩ (.int .i64 r5)).setCell ⟨w.heap.size+1+1,6,none⟩ (.int .i64 r6)).setCell ⟨w.heap.size+1+1,7,none⟩ (.int .i64 r7)).setCell ⟨w.heap.size+1+1,8,none⟩ (.int .i64 pc))=v9
   replace hv9:put9 x (w.heap.size+1+1) (.int .i64 r0) (.int .i64 r1) (.int .i64 r2) (.int .i64 r3) (.int .i64 r4) (.int .i64 r5) (.int .i64 r6) (.int .i64 r7) (.int .i64 pc)=v9:=hv9
   rw[hv9] at h9 b9
   obtain⟨y0,y1,y2,y3,y4,y5,y6,y7,y8⟩:=Rb.cells (r0:=r0) (r1:=r1) (r2:=r2) (r3:=r3) (r4:=r4) (r5:=r5) (r6:=r6) (r7:=r7) (pc:=pc) h9
   exact bodyPost_ret (v:=.agg #[.int .i64 r0,.int .i64 r1,.int .i64 r2,.int .i64 r3,.int .i64 r4,.int .i64 r5,.int .i64 r6,.int .i64 r7,.int .i64 pc]) (by simp[results,Tryz.results118,go_sem,y0,y1,y2,y3,y4,y5,y6,y7,y8]) rfl ⟨by rw[HS.out.1,HS.out.2];rfl,b9⟩
 ·have hop2:op=1∨op=2∨op=3∨op=4∨op=5∨op=6∨op=7∨op=8∨op=9∨op=10∨op=11∨op=12:=by omega
  have h16:¬ 16≤op:=by omega
  have h13:(op==13)=false:=by simp;omega
  have HM:Hid (memB op=false):=Lib.hid (by simp[memB];omega)
  obtain⟨c0,c1,c2,c3,c4,c5,c6,c7,c8⟩:=q0.cells
  go_upto_block 0 with fail
  clear c0 c1 c2 c3 c4 c5 c6 c7 c8
  go_cut [10] (fun nx wx=>nx=.int .i64 PC∧Rb wx w.heap.size XS pc∧Rb wx (w.heap.size+1+1) [0,0,0,0,0,0,0,0] 0∧Below w.heap.size w wx)
  case first=>
   have HST:Hid (∀ W,Below x.heap.size x W→∀ v,XS=[r0,r1,r2,r3,r4,r5,r6,r7].set dn v→Rb (W.setCell ⟨w.heap.size,dn,none⟩ (.int .i64 v)) w.heap.size XS pc∧Rb (W.setCell ⟨w.heap.size,dn,none⟩ (.int .i64 v)) (w.heap.size+1+1) [0,0,0,0,0,0,0,0] 0∧Below w.heap.size w (W.setCell ⟨w.heap.size,dn,none⟩ (.int .i64 v))):=Lib.hid fun W hW v e=>by
    refine⟨by rw[e];exact(q0.below hW).set h8 hd8 v,Bk.off (q2.below hW) (p:=⟨w.heap.size,dn,none⟩) (by show w.heap.size+1+1≠w.heap.size;omega) _,Below.setCell (b0.trans (hW.mono b0.size)) (p:=⟨w.heap.size,dn,none⟩) (Nat.le_refl _) _⟩
   have HSN:Hid (XS=[r0,r1,r2,r3,r4,r5,r6,r7]→Rb x w.heap.size XS pc∧Rb x (w.heap.size+1+1) [0,0,0,0,0,0,0,0] 0∧Below w.heap.size w x):=Lib.hid fun e=>⟨by rw[e];exact q0,q2,b0⟩
   have HST0:=Lib.hid (HST.out x (Below.refl _ _))
   have cD:=q0.at_ h8 hd8
   have HQ0:Hid (∀ W,Below x.heap.size x W→Rb W w.heap.size _ _):=Lib.hid fun W hW=>q0.below hW
   have HQL:Hid (w.heap.size < x.heap.size):=Lib.hid (Bk.lt q0)
   have zf:=Bk.free q0
   generalize nth [r0,r1,r2,r3,r4,r5,r6,r7] dn=Dv at *
   rw[HM.out] at HO HP
   clear q0 q2 hop hstay hxu h8
   rcases hop2 with rfl | rfl | rfl | rfl | rfl | rfl | rfl | rfl | rfl | rfl | rfl | rfl
   ·have HX:Hid (XS=[r0,r1,r2,r3,r4,r5,r6,r7].set dn (k)):=Lib.hid (by rw[HO.out];rfl)
    have HPC:Hid (PC=pc+1):=Lib.hid (by rw[HP.out];rfl)
    go_wp2
    go_meet
    case rel=>
     obtain⟨g1,g2,g3⟩:=HST0.out _ HX.out
     exact⟨by rw[HPC.out],g1,g2,g3⟩
   ·have HX:Hid (XS=[r0,r1,r2,r3,r4,r5,r6,r7].set dn (A)):=Lib.hid (by rw[HO.out];rfl)
    have HPC:Hid (PC=pc+1):=Lib.hid (by rw[HP.out];rfl)
    go_wp2
    go_meet
    case rel=>
     obtain⟨g1,g2,g3⟩:=HST0.out _ HX.out
     exact⟨by rw[HPC.out],g1,g2,g3⟩
   ·have HX:Hid (XS=[r0,r1,r2,r3,r4,r5,r6,r7].set dn ((A+k) % 4294967296)):=Lib.hid (by rw[HO.out];rfl)
    have HPC:Hid (PC=pc+1):=Lib.hid (by rw[HP.out];rfl)
    go_wp2
    go_meet
    case rel=>
     obtain⟨g1,g2,g3⟩:=HST0.out _ HX.out
     exact⟨by rw[HPC.out],g1,g2,g3⟩
   ·go_upto_region 13 with fail
    have HBT:=Lib.hid (fun W=>rBits A k true hA.1 hA.2 hk.1 hk.2 W)
    simp only[if_true] at HBT
    have HX:Hid (XS=[r0,r1,r2,r3,r4,r5,r6,r7].set dn (andI A k)):=Lib.hid (by rw[HO.out];rfl)
    have HPC:Hid (PC=pc+1):=Lib.hid (by rw[HP.out];rfl)
    have HC:Hid (∀ W,Below x.heap.size x W→Jb W (w.heap.size+1) _):=Lib.hid fun W hW=>q1.below hW
    have HZ:Hid (∀ W,Below x.heap.size x W→(∀ i,W.frozen? ⟨w.heap.size,i,none⟩=false)∧W.cell? ⟨w.heap.size,dn,none⟩=some (.int .i64 Dv)):=Lib.hid fun W hW=>⟨Bk.free (HQ0.out W hW),by rw[(hW.cell (p:=⟨w.heap.size,dn,none⟩) HQL.out)];exact cD⟩
    clear e0 e1 e2 e3 e4 e5 e6 e7 cD zf
    refine wp_region_tail 7 (fun vs=>{ tmps:=#[.agg #[.int .i64 r0,.int .i64 r1,.int .i64 r2,.int .i64 r3,.int .i64 r4,.int .i64 r5,.int .i64 r6,.int .i64 r7,.int .i64 pc],.agg #[.int .i64 4,.int .i64 (dn:Int),.int .i64 (sn:Int),.int .i64 (tn:Int),.int .i64 u,.int .i64 a',.int .u32 k,.int .i64 pl],.int .i64 self,.pointer (some ⟨w.heap.size,0,none⟩),.pointer (some ⟨w.heap.size+1,0,none⟩),undef,.pointer (some ⟨w.heap.size+1+1,0,none⟩),.int .i64 A,.int .i64 B,.int .i64 k,.int .i64 (pc+1),.pointer (some ⟨w.heap.size+1,2,none⟩),.int .i64 (sn:Int),.pointer (some ⟨w.heap.size,0,none⟩),.pointer (some ⟨w.heap.size,sn,none⟩),.int .i64 A,.pointer (some ⟨w.heap.size+1,3,none⟩),.int .i64 (tn:Int),.pointer (some ⟨w.heap.size,0,none⟩),.pointer (some ⟨w.heap.size,tn,none⟩),.int .i64 B,.pointer (some ⟨w.heap.size+1,6,none⟩),.int .u32 k,.int .i64 k,.pointer (some ⟨w.heap.size+1,0,none⟩),.int .i64 4,.bool false,.bool false,.pointer (some ⟨w.heap.size+1,0,none⟩),.int .i64 4,.bool false,.bool false,undef,.pointer (some ⟨w.heap.size,8,none⟩),.int .i64 pc,.int .i64 (pc+1),.pointer (some ⟨w.heap.size+1,0,none⟩),.int .i64 4,.bool false,.bool false,undef,undef,undef,undef,undef,.bool false,.bool false,undef,undef,undef,undef,undef,.bool false,.bool false,undef,undef,undef,undef,undef,undef,undef,undef,.bool true,.bool true,vs 0,vs 1,vs 2,vs 3,vs 4,vs 5,vs 6,undef,undef,undef,undef,undef,undef,undef,undef,undef,undef,undef,undef,undef,undef,undef,undef,undef,undef,undef,undef,undef,undef,undef,undef,undef,undef,undef,undef,undef,undef,undef,undef,undef,undef,undef,undef,undef,undef,undef,undef,undef,undef,undef,undef,undef,undef,undef,undef,undef,undef,undef,undef,undef,undef,undef,undef,undef,undef],defers:=[] }) (valT [.pointer (some ⟨w.heap.size+1,1,none⟩),.int .i64 (dn:Int),.int .i64 A,.int .i64 k,.int .i64 (andI A k),.pointer (some ⟨w.heap.size,0,none⟩),.pointer (some ⟨w.heap.size,dn,none⟩)]) ?ghm ?ghr ?ght ?glit ?gstable ?gops ?gdone
    case ghm=>kernel_rfl
    case ghr=>kernel_rfl
    case ght=>kernel_rfl
    case glit=>intro vs;rfl
    case gstable=>exact valT_stable
    case gops=>
     simp only[List.take_succ_cons,List.take_zero]
     refine⟨?_,?_,?_,?_,?_,?_,?_,trivial⟩
     ·intro vs W hW hd
      refine leaves_free rfl ?_
      go_simp
      exact⟨rfl,Below.refl _ _⟩
     ·intro vs W hW hd
      refine leaves_free rfl ?_
      have e0:vs 0=.pointer (some ⟨w.heap.size+1,1,none⟩):=hd 0 (by decide)
      have hq1:=HC.out W hW;obtain⟨e0,e1,e2,e3,e4,e5,e6,e7⟩:=hq1.cells;simp only at e0 e1 e2 e3 e4 e5 e6 e7
      go_simp
      exact⟨rfl,Below.refl _ _⟩
     ·intro vs W hW hd
      refine leaves_free rfl ?_
      go_simp
      exact⟨rfl,Below.refl _ _⟩
     ·intro vs W hW hd
      refine leaves_free rfl ?_
      go_simp
      exact⟨rfl,Below.refl _ _⟩
     ·intro vs W hW hd
      refine leaves_free rfl ?_
      have e2:vs 2=.int .i64 A:=hd 2 (by decide)
      have e3:vs 3=.int .i64 k:=hd 3 (by decide)
      have HS:=Lib.hid (HBT.out W)
      clear hd
      go_simp
      refine HS.out.mono ?_
      rintro e z ⟨he,m,rfl⟩
      exact⟨_,he,rfl,Go.below_drewN (Below.refl _ _) m⟩
     ·intro vs W hW hd
      refine leaves_free rfl ?_
      go_simp
      exact⟨rfl,Below.refl _ _⟩
     ·intro vs W hW hd
      refine leaves_free rfl ?_
      have e5:vs 5=.pointer (some ⟨w.heap.size,0,none⟩):=hd 5 (by decide)
      have e1:vs 1=.int .i64 (dn:Int):=hd 1 (by decide)
      go_simp
      exact⟨rfl,Below.refl _ _⟩
    case gdone=>
     intro vs W hW hf
     have f0:vs 0=.pointer (some ⟨w.heap.size+1,1,none⟩):=hf 0 (by decide)
     have f1:vs 1=.int .i64 (dn:Int):=hf 1 (by decide)
     have f2:vs 2=.int .i64 A:=hf 2 (by decide)
     have f3:vs 3=.int .i64 k:=hf 3 (by decide)
     have f4:vs 4=.int .i64 (andI A k):=hf 4 (by decide)
     have f5:vs 5=.pointer (some ⟨w.heap.size,0,none⟩):=hf 5 (by decide)
     have f6:vs 6=.pointer (some ⟨w.heap.size,dn,none⟩):=hf 6 (by decide)
     simp only[f0,f1,f2,f3,f4,f5,f6,List.drop_succ_cons,List.drop_zero]
     clear hf f0 f1 f2 f3 f4 f5 f6
     obtain⟨zf,cD⟩:=HZ.out W hW
     replace HST:=Lib.hid (HST.out W hW)
     clear HC HZ hW
     go_wp2
     go_meet
     case rel=>
      obtain⟨g1,g2,g3⟩:=HST.out _ HX.out
      exact⟨by rw[HPC.out],g1,g2,g3⟩
   ·go_upto_region 15 with fail
    have hk31:=hsh (.inl rfl)
    have hP:=pow_u32 hk.1 hk31
    have HPW:=Lib.hid (fun W=>rPow k.toNat (by omega) W)
    rw[Int.toNat_of_nonneg hk.1] at HPW
    have HMU:Hid (0≤A * 2 ^ k.toNat∧A * 2 ^ k.toNat≤9223372034707292160):=Lib.hid ⟨Int.mul_nonneg hA.1 (by omega),by
     have h1:=Int.mul_le_mul_of_nonneg_right (show A≤4294967295 by omega) (show (0:Int)≤2 ^ k.toNat by omega)
     have h2:=Int.mul_le_mul_of_nonneg_left hP.2 (show (0:Int)≤4294967295 by omega)
     omega⟩
    have HX:Hid (XS=[r0,r1,r2,r3,r4,r5,r6,r7].set dn (A * 2 ^ k.toNat % 4294967296)):=Lib.hid (by rw[HO.out];rfl)
    have HPC:Hid (PC=pc+1):=Lib.hid (by rw[HP.out];rfl)
    have HC:Hid (∀ W,Below x.heap.size x W→Jb W (w.heap.size+1) _):=Lib.hid fun W hW=>q1.below hW
    have HZ:Hid (∀ W,Below x.heap.size x W→(∀ i,W.frozen? ⟨w.heap.size,i,none⟩=false)∧W.cell? ⟨w.heap.size,dn,none⟩=some (.int .i64 Dv)):=Lib.hid fun W hW=>⟨Bk.free (HQ0.out W hW),by rw[(hW.cell (p:=⟨w.heap.size,dn,none⟩) HQL.out)];exact cD⟩
    clear e0 e1 e2 e3 e4 e5 e6 e7 cD zf
    refine wp_region_tail 9 (fun vs=>{ tmps:=#[.agg #[.int .i64 r0,.int .i64 r1,.int .i64 r2,.int .i64 r3,.int .i64 r4,.int .i64 r5,.int .i64 r6,.int .i64 r7,.int .i64 pc],.agg #[.int .i64 5,.int .i64 (dn:Int),.int .i64 (sn:Int),.int .i64 (tn:Int),.int .i64 u,.int .i64 a',.int .u32 k,.int .i64 pl],.int .i64 self,.pointer (some ⟨w.heap.size,0,none⟩),.pointer (some ⟨w.heap.size+1,0,none⟩),undef,.pointer (some ⟨w.heap.size+1+1,0,none⟩),.int .i64 A,.int .i64 B,.int .i64 k,.int .i64 (pc+1),.pointer (some ⟨w.heap.size+1,2,none⟩),.int .i64 (sn:Int),.pointer (some ⟨w.heap.size,0,none⟩),.pointer (some ⟨w.heap.size,sn,none⟩),.int .i64 A,.pointer (some ⟨w.heap.size+1,3,none⟩),.int .i64 (tn:Int),.pointer (some ⟨w.heap.size,0,none⟩),.pointer (some ⟨w.heap.size,tn,none⟩),.int .i64 B,.pointer (some ⟨w.heap.size+1,6,none⟩),.int .u32 k,.int .i64 k,.pointer (some ⟨w.heap.size+1,0,none⟩),.int .i64 5,.bool false,.bool false,.pointer (some ⟨w.heap.size+1,0,none⟩),.int .i64 5,.bool false,.bool false,undef,.pointer (some ⟨w.heap.size,8,none⟩),.int .i64 pc,.int .i64 (pc+1),.pointer (some ⟨w.heap.size+1,0,none⟩),.int .i64 5,.bool false,.bool false,undef,undef,undef,undef,undef,.bool false,.bool false,undef,undef,undef,undef,undef,.bool false,.bool false,undef,undef,undef,undef,undef,undef,undef,undef,.bool false,.bool false,undef,undef,undef,undef,undef,undef,undef,.bool true,.bool true,vs 0,vs 1,vs 2,vs 3,vs 4,vs 5,vs 6,vs 7,vs 8,undef,undef,undef,undef,undef,undef,undef,undef,undef,undef,undef,undef,undef,undef,undef,undef,undef,undef,undef,undef,undef,undef,undef,undef,undef,undef,undef,undef,undef,undef,undef,undef,undef,undef,undef,undef,undef,undef,undef,undef,undef,undef,undef,undef,undef,undef,undef],defers:=[] }) (valT [.pointer (some ⟨w.heap.size+1,1,none⟩),.int .i64 (dn:Int),.int .i64 A,.int .i64 k,.int .i64 (2 ^ k.toNat),.int .i64 (A * 2 ^ k.toNat),.int .i64 (A * 2 ^ k.toNat % 4294967296),.pointer (some ⟨w.heap.size,0,none⟩),.pointer (some ⟨w.heap.size,dn,none⟩)]) ?ghm ?ghr ?ght ?glit ?gstable ?gops ?gdone
    case ghm=>kernel_rfl
    case ghr=>kernel_rfl
    case ght=>kernel_rfl
    case glit=>intro vs;rfl
    case gstable=>exact valT_stable
    case gops=>
     simp only[List.take_succ_cons,List.take_zero]
     refine⟨?_,?_,?_,?_,?_,?_,?_,?_,?_,trivial⟩
     ·intro vs W hW hd
      refine leaves_free rfl ?_
      go_simp
      exact⟨rfl,Below.refl _ _⟩
     ·intro vs W hW hd
      refine leaves_free rfl ?_
      have e0:vs 0=.pointer (some ⟨w.heap.size+1,1,none⟩):=hd 0 (by decide)
      have hq1:=HC.out W hW;obtain⟨e0,e1,e2,e3,e4,e5,e6,e7⟩:=hq1.cells;simp only at e0 e1 e2 e3 e4 e5 e6 e7
      go_simp
      exact⟨rfl,Below.refl _ _⟩
     ·intro vs W hW hd
      refine leaves_free rfl ?_
      go_simp
      exact⟨rfl,Below.refl _ _⟩
     ·intro vs W hW hd
      refine leaves_free rfl ?_
      go_simp
      exact⟨rfl,Below.refl _ _⟩
     ·intro vs W hW hd
      refine leaves_free rfl ?_
      have e3:vs 3=.int .i64 k:=hd 3 (by decide)
      have HS:=Lib.hid (HPW.out W)
      clear hd
      go_simp
      refine HS.out.mono ?_
      rintro e z ⟨he,rfl⟩
      exact⟨_,he,rfl,Below.refl _ _⟩
     ·intro vs W hW hd
      refine leaves_free rfl ?_
      have e2:vs 2=.int .i64 A:=hd 2 (by decide)
      have e4:vs 4=.int .i64 (2 ^ k.toNat):=hd 4 (by decide)
      obtain⟨m0,m1⟩:=HMU.out
      clear hd
      go_simp
      exact⟨by show Value.int .i64 (IntKind.i64.wrap (A * 2 ^ k.toNat))=.int .i64 (A * 2 ^ k.toNat);rw[IntWalk.i64_in _ (by omega)],Below.refl _ _⟩
     ·intro vs W hW hd
      refine leaves_free rfl ?_
      have e5:vs 5=.int .i64 (A * 2 ^ k.toNat):=hd 5 (by decide)
      obtain⟨m0,m1⟩:=HMU.out
      clear hd
      generalize A * 2 ^ k.toNat=AP at *
      go_simp
      exact⟨by show Value.int .i64 (AP.tmod 4294967296)=.int .i64 (AP % 4294967296);rw[Int.tmod_eq_emod_of_nonneg m0],Below.refl _ _⟩
     ·intro vs W hW hd
      refine leaves_free rfl ?_
      go_simp
      exact⟨rfl,Below.refl _ _⟩
     ·intro vs W hW hd
      refine leaves_free rfl ?_
      have e7:vs 7=.pointer (some ⟨w.heap.size,0,none⟩):=hd 7 (by decide)
      have e1:vs 1=.int .i64 (dn:Int):=hd 1 (by decide)
      go_simp
      exact⟨rfl,Below.refl _ _⟩
    case gdone=>
     intro vs W hW hf
     have f0:vs 0=.pointer (some ⟨w.heap.size+1,1,none⟩):=hf 0 (by decide)
     have f1:vs 1=.int .i64 (dn:Int):=hf 1 (by decide)
     have f2:vs 2=.int .i64 A:=hf 2 (by decide)
     have f3:vs 3=.int .i64 k:=hf 3 (by decide)
     have f4:vs 4=.int .i64 (2 ^ k.toNat):=hf 4 (by decide)
     have f5:vs 5=.int .i64 (A * 2 ^ k.toNat):=hf 5 (by decide)
     have f6:vs 6=.int .i64 (A * 2 ^ k.toNat % 4294967296):=hf 6 (by decide)
     have f7:vs 7=.pointer (some ⟨w.heap.size,0,none⟩):=hf 7 (by decide)
     have f8:vs 8=.pointer (some ⟨w.heap.size,dn,none⟩):=hf 8 (by decide)
     simp only[f0,f1,f2,f3,f4,f5,f6,f7,f8,List.drop_succ_cons,List.drop_zero]
     clear hf f0 f1 f2 f3 f4 f5 f6 f7 f8
     obtain⟨zf,cD⟩:=HZ.out W hW
     replace HST:=Lib.hid (HST.out W hW)
     clear HC HZ hW
     go_wp2
     go_meet
     case rel=>
      obtain⟨g1,g2,g3⟩:=HST.out _ HX.out
      exact⟨by rw[HPC.out],g1,g2,g3⟩
   ·go_upto_region 17 with fail
    have hk31:=hsh (.inr rfl)
    have hP:=pow_u32 hk.1 hk31
    have HPW:=Lib.hid (fun W=>rPow k.toNat (by omega) W)
    rw[Int.toNat_of_nonneg hk.1] at HPW
    have HMU:Hid (0≤A * 2 ^ k.toNat∧A * 2 ^ k.toNat≤9223372034707292160):=Lib.hid ⟨Int.mul_nonneg hA.1 (by omega),by
     have h1:=Int.mul_le_mul_of_nonneg_right (show A≤4294967295 by omega) (show (0:Int)≤2 ^ k.toNat by omega)
     have h2:=Int.mul_le_mul_of_nonneg_left hP.2 (show (0:Int)≤4294967295 by omega)
     omega⟩
    have HX:Hid (XS=[r0,r1,r2,r3,r4,r5,r6,r7].set dn (A / 2 ^ k.toNat)):=Lib.hid (by rw[HO.out];rfl)
    have HPC:Hid (PC=pc+1):=Lib.hid (by rw[HP.out];rfl)
    have HC:Hid (∀ W,Below x.heap.size x W→Jb W (w.heap.size+1) _):=Lib.hid fun W hW=>q1.below hW
    have HZ:Hid (∀ W,Below x.heap.size x W→(∀ i,W.frozen? ⟨w.heap.size,i,none⟩=false)∧W.cell? ⟨w.heap.size,dn,none⟩=some (.int .i64 Dv)):=Lib.hid fun W hW=>⟨Bk.free (HQ0.out W hW),by rw[(hW.cell (p:=⟨w.heap.size,dn,none⟩) HQL.out)];exact cD⟩
    clear e0 e1 e2 e3 e4 e5 e6 e7 cD zf
    refine wp_region_tail 8 (fun vs=>{ tmps:=#[.agg #[.int .i64 r0,.int .i64 r1,.int .i64 r2,.int .i64 r3,.int .i64 r4,.int .i64 r5,.int .i64 r6,.int .i64 r7,.int .i64 pc],.agg #[.int .i64 6,.int .i64 (dn:Int),.int .i64 (sn:Int),.int .i64 (tn:Int),.int .i64 u,.int .i64 a',.int .u32 k,.int .i64 pl],.int .i64 self,.pointer (some ⟨w.heap.size,0,none⟩),.pointer (some ⟨w.heap.size+1,0,none⟩),undef,.pointer (some ⟨w.heap.size+1+1,0,none⟩),.int .i64 A,.int .i64 B,.int .i64 k,.int .i64 (pc+1),.pointer (some ⟨w.heap.size+1,2,none⟩),.int .i64 (sn:Int),.pointer (some ⟨w.heap.size,0,none⟩),.pointer (some ⟨w.heap.size,sn,none⟩),.int .i64 A,.pointer (some ⟨w.heap.size+1,3,none⟩),.int .i64 (tn:Int),.pointer (some ⟨w.heap.size,0,none⟩),.pointer (some ⟨w.heap.size,tn,none⟩),.int .i64 B,.pointer (some ⟨w.heap.size+1,6,none⟩),.int .u32 k,.int .i64 k,.pointer (some ⟨w.heap.size+1,0,none⟩),.int .i64 6,.bool false,.bool false,.pointer (some ⟨w.heap.size+1,0,none⟩),.int .i64 6,.bool false,.bool false,undef,.pointer (some ⟨w.heap.size,8,none⟩),.int .i64 pc,.int .i64 (pc+1),.pointer (some ⟨w.heap.size+1,0,none⟩),.int .i64 6,.bool false,.bool false,undef,undef,undef,undef,undef,.bool false,.bool false,undef,undef,undef,undef,undef,.bool false,.bool false,undef,undef,undef,undef,undef,undef,undef,undef,.bool false,.bool false,undef,undef,undef,undef,undef,undef,undef,.bool false,.bool false,undef,undef,undef,undef,undef,undef,undef,undef,undef,.bool true,.bool true,vs 0,vs 1,vs 2,vs 3,vs 4,vs 5,vs 6,vs 7,undef,undef,undef,undef,undef,undef,undef,undef,undef,undef,undef,undef,undef,undef,undef,undef,undef,undef,undef,undef,undef,undef,undef,undef,undef,undef,undef,undef,undef,undef,undef,undef,undef,undef,undef,undef,undef],defers:=[] }) (valT [.pointer (some ⟨w.heap.size+1,1,none⟩),.int .i64 (dn:Int),.int .i64 A,.int .i64 k,.int .i64 (2 ^ k.toNat),.int .i64 (A / 2 ^ k.toNat),.pointer (some ⟨w.heap.size,0,none⟩),.pointer (some ⟨w.heap.size,dn,none⟩)]) ?ghm ?ghr ?ght ?glit ?gstable ?gops ?gdone
    case ghm=>kernel_rfl
    case ghr=>kernel_rfl
    case ght=>kernel_rfl
    case glit=>intro vs;rfl
    case gstable=>exact valT_stable
    case gops=>
     simp only[List.take_succ_cons,List.take_zero]
     refine⟨?_,?_,?_,?_,?_,?_,?_,?_,trivial⟩
     ·intro vs W hW hd
      refine leaves_free rfl ?_
      go_simp
      exact⟨rfl,Below.refl _ _⟩
     ·intro vs W hW hd
      refine leaves_free rfl ?_
      have e0:vs 0=.pointer (some ⟨w.heap.size+1,1,none⟩):=hd 0 (by decide)
      have hq1:=HC.out W hW;obtain⟨e0,e1,e2,e3,e4,e5,e6,e7⟩:=hq1.cells;simp only at e0 e1 e2 e3 e4 e5 e6 e7
      go_simp
      exact⟨rfl,Below.refl _ _⟩
     ·intro vs W hW hd
      refine leaves_free rfl ?_
      go_simp
      exact⟨rfl,Below.refl _ _⟩
     ·intro vs W hW hd
      refine leaves_free rfl ?_
      go_simp
      exact⟨rfl,Below.refl _ _⟩
     ·intro vs W hW hd
      refine leaves_free rfl ?_
      have e3:vs 3=.int .i64 k:=hd 3 (by decide)
      have HS:=Lib.hid (HPW.out W)
      clear hd
      go_simp
      refine HS.out.mono ?_
      rintro e z ⟨he,rfl⟩
      exact⟨_,he,rfl,Below.refl _ _⟩
     ·intro vs W hW hd
      refine leaves_free rfl ?_
      have e2:vs 2=.int .i64 A:=hd 2 (by decide)
      have e4:vs 4=.int .i64 (2 ^ k.toNat):=hd 4 (by decide)
      clear hd
      have hne:¬ (2:Int) ^ k.toNat=0:=by omega
      have hdv:IntKind.i64.wrap (A.tdiv (2 ^ k.toNat))=A / 2 ^ k.toNat:=by
       rw[Int.tdiv_eq_ediv_of_nonneg hA.1]
       have:=Int.ediv_le_self (2 ^ k.toNat) hA.1
       have:=Int.ediv_nonneg hA.1 (by omega:(0:Int)≤2 ^ k.toNat)
       exact IntWalk.i64_in _ (by omega)
      go_simp
      exact⟨rfl,Below.refl _ _⟩
     ·intro vs W hW hd
      refine leaves_free rfl ?_
      go_simp
      exact⟨rfl,Below.refl _ _⟩
     ·intro vs W hW hd
      refine leaves_free rfl ?_
      have e6:vs 6=.pointer (some ⟨w.heap.size,0,none⟩):=hd 6 (by decide)
      have e1:vs 1=.int .i64 (dn:Int):=hd 1 (by decide)
      go_simp
      exact⟨rfl,Below.refl _ _⟩
    case gdone=>
     intro vs W hW hf
     have f0:vs 0=.pointer (some ⟨w.heap.size+1,1,none⟩):=hf 0 (by decide)
     have f1:vs 1=.int .i64 (dn:Int):=hf 1 (by decide)
     have f2:vs 2=.int .i64 A:=hf 2 (by decide)
     have f3:vs 3=.int .i64 k:=hf 3 (by decide)
     have f4:vs 4=.int .i64 (2 ^ k.toNat):=hf 4 (by decide)
     have f5:vs 5=.int .i64 (A / 2 ^ k.toNat):=hf 5 (by decide)
     have f6:vs 6=.pointer (some ⟨w.heap.size,0,none⟩):=hf 6 (by decide)
     have f7:vs 7=.pointer (some ⟨w.heap.size,dn,none⟩):=hf 7 (by decide)
     simp only[f0,f1,f2,f3,f4,f5,f6,f7,List.drop_succ_cons,List.drop_zero]
     clear hf f0 f1 f2 f3 f4 f5 f6 f7
     obtain⟨zf,cD⟩:=HZ.out W hW
     replace HST:=Lib.hid (HST.out W hW)
     clear HC HZ hW
     go_wp2
     go_meet
     case rel=>
      obtain⟨g1,g2,g3⟩:=HST.out _ HX.out
      exact⟨by rw[HPC.out],g1,g2,g3⟩
   ·go_upto_region 19 with fail
    have HBT:=Lib.hid (fun W=>rBits A B false hA.1 hA.2 hB.1 hB.2 W)
    simp only[Bool.false_eq_true,if_false] at HBT
    have HX:Hid (XS=[r0,r1,r2,r3,r4,r5,r6,r7].set dn (orI A B)):=Lib.hid (by rw[HO.out];rfl)
    have HPC:Hid (PC=pc+1):=Lib.hid (by rw[HP.out];rfl)
    have HC:Hid (∀ W,Below x.heap.size x W→Jb W (w.heap.size+1) _):=Lib.hid fun W hW=>q1.below hW
    have HZ:Hid (∀ W,Below x.heap.size x W→(∀ i,W.frozen? ⟨w.heap.size,i,none⟩=false)∧W.cell? ⟨w.heap.size,dn,none⟩=some (.int .i64 Dv)):=Lib.hid fun W hW=>⟨Bk.free (HQ0.out W hW),by rw[(hW.cell (p:=⟨w.heap.size,dn,none⟩) HQL.out)];exact cD⟩
    clear e0 e1 e2 e3 e4 e5 e6 e7 cD zf
    refine wp_region_tail 7 (fun vs=>{ tmps:=#[.agg #[.int .i64 r0,.int .i64 r1,.int .i64 r2,.int .i64 r3,.int .i64 r4,.int .i64 r5,.int .i64 r6,.int .i64 r7,.int .i64 pc],.agg #[.int .i64 7,.int .i64 (dn:Int),.int .i64 (sn:Int),.int .i64 (tn:Int),.int .i64 u,.int .i64 a',.int .u32 k,.int .i64 pl],.int .i64 self,.pointer (some ⟨w.heap.size,0,none⟩),.pointer (some ⟨w.heap.size+1,0,none⟩),undef,.pointer (some ⟨w.heap.size+1+1,0,none⟩),.int .i64 A,.int .i64 B,.int .i64 k,.int .i64 (pc+1),.pointer (some ⟨w.heap.size+1,2,none⟩),.int .i64 (sn:Int),.pointer (some ⟨w.heap.size,0,none⟩),.pointer (some ⟨w.heap.size,sn,none⟩),.int .i64 A,.pointer (some ⟨w.heap.size+1,3,none⟩),.int .i64 (tn:Int),.pointer (some ⟨w.heap.size,0,none⟩),.pointer (some ⟨w.heap.size,tn,none⟩),.int .i64 B,.pointer (some ⟨w.heap.size+1,6,none⟩),.int .u32 k,.int .i64 k,.pointer (some ⟨w.heap.size+1,0,none⟩),.int .i64 7,.bool false,.bool false,.pointer (some ⟨w.heap.size+1,0,none⟩),.int .i64 7,.bool false,.bool false,undef,.pointer (some ⟨w.heap.size,8,none⟩),.int .i64 pc,.int .i64 (pc+1),.pointer (some ⟨w.heap.size+1,0,none⟩),.int .i64 7,.bool false,.bool false,undef,undef,undef,undef,undef,.bool false,.bool false,undef,undef,undef,undef,undef,.bool false,.bool false,undef,undef,undef,undef,undef,undef,undef,undef,.bool false,.bool false,undef,undef,undef,undef,undef,undef,undef,.bool false,.bool false,undef,undef,undef,undef,undef,undef,undef,undef,undef,.bool false,.bool false,undef,undef,undef,undef,undef,undef,undef,undef,.bool true,.bool true,vs 0,vs 1,vs 2,vs 3,vs 4,vs 5,vs 6,undef,undef,undef,undef,undef,undef,undef,undef,undef,undef,undef,undef,undef,undef,undef,undef,undef,undef,undef,undef,undef,undef,undef,undef,undef,undef,undef,undef],defers:=[] }) (valT [.pointer (some ⟨w.heap.size+1,1,none⟩),.int .i64 (dn:Int),.int .i64 A,.int .i64 B,.int .i64 (orI A B),.pointer (some ⟨w.heap.size,0,none⟩),.pointer (some ⟨w.heap.size,dn,none⟩)]) ?ghm ?ghr ?ght ?glit ?gstable ?gops ?gdone
    case ghm=>kernel_rfl
    case ghr=>kernel_rfl
    case ght=>kernel_rfl
    case glit=>intro vs;rfl
    case gstable=>exact valT_stable
    case gops=>
     simp only[List.take_succ_cons,List.take_zero]
     refine⟨?_,?_,?_,?_,?_,?_,?_,trivial⟩
     ·intro vs W hW hd
      refine leaves_free rfl ?_
      go_simp
      exact⟨rfl,Below.refl _ _⟩
     ·intro vs W hW hd
      refine leaves_free rfl ?_
      have e0:vs 0=.pointer (some ⟨w.heap.size+1,1,none⟩):=hd 0 (by decide)
      have hq1:=HC.out W hW;obtain⟨e0,e1,e2,e3,e4,e5,e6,e7⟩:=hq1.cells;simp only at e0 e1 e2 e3 e4 e5 e6 e7
      go_simp
      exact⟨rfl,Below.refl _ _⟩
     ·intro vs W hW hd
      refine leaves_free rfl ?_
      go_simp
      exact⟨rfl,Below.refl _ _⟩
     ·intro vs W hW hd
      refine leaves_free rfl ?_
      go_simp
      exact⟨rfl,Below.refl _ _⟩
     ·intro vs W hW hd
      refine leaves_free rfl ?_
      have e2:vs 2=.int .i64 A:=hd 2 (by decide)
      have e3:vs 3=.int .i64 B:=hd 3 (by decide)
      have HS:=Lib.hid (HBT.out W)
      clear hd
      go_simp
      refine HS.out.mono ?_
      rintro e z ⟨he,m,rfl⟩
      exact⟨_,he,rfl,Go.below_drewN (Below.refl _ _) m⟩
     ·intro vs W hW hd
      refine leaves_free rfl ?_
      go_simp
      exact⟨rfl,Below.refl _ _⟩
     ·intro vs W hW hd
      refine leaves_free rfl ?_
      have e5:vs 5=.pointer (some ⟨w.heap.size,0,none⟩):=hd 5 (by decide)
      have e1:vs 1=.int .i64 (dn:Int):=hd 1 (by decide)
      go_simp
      exact⟨rfl,Below.refl _ _⟩
    case gdone=>
     intro vs W hW hf
     have f0:vs 0=.pointer (some ⟨w.heap.size+1,1,none⟩):=hf 0 (by decide)
     have f1:vs 1=.int .i64 (dn:Int):=hf 1 (by decide)
     have f2:vs 2=.int .i64 A:=hf 2 (by decide)
     have f3:vs 3=.int .i64 B:=hf 3 (by decide)
     have f4:vs 4=.int .i64 (orI A B):=hf 4 (by decide)
     have f5:vs 5=.pointer (some ⟨w.heap.size,0,none⟩):=hf 5 (by decide)
     have f6:vs 6=.pointer (some ⟨w.heap.size,dn,none⟩):=hf 6 (by decide)
     simp only[f0,f1,f2,f3,f4,f5,f6,List.drop_succ_cons,List.drop_zero]
     clear hf f0 f1 f2 f3 f4 f5 f6
     obtain⟨zf,cD⟩:=HZ.out W hW
     replace HST:=Lib.hid (HST.out W hW)
     clear HC HZ hW
     go_wp2
     go_meet
     case rel=>
      obtain⟨g1,g2,g3⟩:=HST.out _ HX.out
      exact⟨by rw[HPC.out],g1,g2,g3⟩
   ·by_cases hAB:A=B
    ·subst hAB
     have HX:Hid (XS=[r0,r1,r2,r3,r4,r5,r6,r7]):=Lib.hid (by rw[HO.out];rfl)
     have HPC:Hid (PC=pl):=Lib.hid (by rw[HP.out];simp[placeA])
     go_wp2
     go_meet
     case rel=>
      obtain⟨g1,g2,g3⟩:=HSN.out HX.out
      exact⟨by rw[HPC.out],g1,g2,g3⟩
    ·have hne:(A==B)=false:=by simpa using hAB
     have HX:Hid (XS=[r0,r1,r2,r3,r4,r5,r6,r7]):=Lib.hid (by rw[HO.out];rfl)
     have HPC:Hid (PC=pc+1):=Lib.hid (by rw[HP.out];simp[placeA,hAB])
     clear hAB
     go_wp2
     go_meet
     case rel=>
      obtain⟨g1,g2,g3⟩:=HSN.out HX.out
      exact⟨by rw[HPC.out],g1,g2,g3⟩
   ·by_cases hAB:A=B
    ·subst hAB
     have HX:Hid (XS=[r0,r1,r2,r3,r4,r5,r6,r7]):=Lib.hid (by rw[HO.out];rfl)
     have HPC:Hid (PC=pc+1):=Lib.hid (by rw[HP.out];simp[placeA])
     go_wp2
     go_meet
     case rel=>
      obtain⟨g1,g2,g3⟩:=HSN.out HX.out
      exact⟨by rw[HPC.out],g1,g2,g3⟩
    ·have hne:(A==B)=false:=by simpa using hAB
     have HX:Hid (XS=[r0,r1,r2,r3,r4,r5,r6,r7]):=Lib.hid (by rw[HO.out];rfl)
     have HPC:Hid (PC=pl):=Lib.hid (by rw[HP.out];simp[placeA,hAB])
     clear hAB
     go_wp2
     go_meet
     case rel=>
      obtain⟨g1,g2,g3⟩:=HSN.out HX.out
      exact⟨by rw[HPC.out],g1,g2,g3⟩
   ·have HX:Hid (XS=[r0,r1,r2,r3,r4,r5,r6,r7]):=Lib.hid (by rw[HO.out];rfl)
    have HPC:Hid (PC=pl):=Lib.hid (by rw[HP.out];rfl)
    go_wp2
    go_meet
    case rel=>
     obtain⟨g1,g2,g3⟩:=HSN.out HX.out
     exact⟨by rw[HPC.out],g1,g2,g3⟩
   ·have HX:Hid (XS=[r0,r1,r2,r3,r4,r5,r6,r7].set dn (self)):=Lib.hid (by rw[HO.out];rfl)
    have HPC:Hid (PC=pc+1):=Lib.hid (by rw[HP.out];rfl)
    go_wp2
    go_meet
    case rel=>
     obtain⟨g1,g2,g3⟩:=HST0.out _ HX.out
     exact⟨by rw[HPC.out],g1,g2,g3⟩
   ·have HX:Hid (XS=[r0,r1,r2,r3,r4,r5,r6,r7]):=Lib.hid (by rw[HO.out];rfl)
    have HPC:Hid (PC=pc+1):=Lib.hid (by rw[HP.out];rfl)
    go_wp2
    go_meet
    case rel=>
     obtain⟨g1,g2,g3⟩:=HSN.out HX.out
     exact⟨by rw[HPC.out],g1,g2,g3⟩
  case rest=>
   obtain⟨rfl,hO,hR,hb⟩:=hcut
   obtain⟨s0,s1,s2,s3,s4,s5,s6,s7,hs9⟩:=eight_cons HE.out.1
   have HX:=Lib.hid hs9
   rw[hs9] at hO
   clear hs9 q0 q1 q2 b0 hop hop2 hstay HO HP HE HM e0 e1 e2 e3 e4 e5 e6 e7
   obtain⟨c0,c1,c2,c3,c4,c5,c6,c7,c8⟩:=hO.cells
   have zf:=Bk.free hO
   go_upto_region 31 with fail
   replace hO:=hO.setpc rfl PC
   have hR2:Rb (wc.setCell ⟨w.heap.size,8,none⟩ (.int .i64 PC)) _ _ _:=Bk.off hR (p:=⟨w.heap.size,8,none⟩) (by show w.heap.size+1+1≠w.heap.size;omega) _
   replace hb:=hb.setCell (p:=⟨w.heap.size,8,none⟩) (Nat.le_refl _) (.int .i64 PC)
   clear zf hR c0 c1 c2 c3 c4 c5 c6 c7 c8
   generalize wc.setCell ⟨w.heap.size,8,none⟩ (.int .i64 PC)=x9 at *
   obtain⟨c0,c1,c2,c3,c4,c5,c6,c7,c8⟩:=hO.cells
   obtain⟨z0,z1,z2,z3,z4,z5,z6,z7,z8⟩:=hR2.cells
   have zf:=Bk.free hR2
   have h9:=put9_bk hR2 (.int .i64 s0) (.int .i64 s1) (.int .i64 s2) (.int .i64 s3) (.int .i64 s4) (.int .i64 s5) (.int .i64 s6) (.int .i64 s7) (.int .i64 PC)
   have b9:=put9_below hb (show w.heap.size≤w.heap.size+1+1 by omega) (.int .i64 s0) (.int .i64 s1) (.int .i64 s2) (.int .i64 s3) (.int .i64 s4) (.int .i64 s5) (.int .i64 s6) (.int .i64 s7) (.int .i64 PC)
   go_wp
   generalize hv9:(((((((((x9.setCell ⟨w.heap.size+1+1,0,none⟩ (.int .i64 s0)).setCell ⟨w.heap.size+1+1,1,none⟩ (.int .i64 s1)).setCell ⟨w.heap.size+1+1,2,none⟩ (.int .i64 s2)).setCell ⟨w.heap.size+1+1,3,none⟩ (.int .i64 s3)).setCell ⟨w.heap.size+1+1,4,none⟩ (.int .i64 s4)).setCell ⟨w.heap.size+1+1,5,none⟩ (.int .i64 s5)).setCell ⟨w.heap.size+1+1,6,none⟩ (.int .i64 s6)).setCell ⟨w.heap.size+1+1,7,none⟩ (.int .i64 s7)).setCell ⟨w.heap.size+1+1,8,none⟩ (.int .i64 PC))=v9
   replace hv9:put9 x9 (w.heap.size+1+1) (.int .i64 s0) (.int .i64 s1) (.int .i64 s2) (.int .i64 s3) (.int .i64 s4) (.int .i64 s5) (.int .i64 s6) (.int .i64 s7) (.int .i64 PC)=v9:=hv9
   rw[hv9] at h9 b9
   obtain⟨y0,y1,y2,y3,y4,y5,y6,y7,y8⟩:=Rb.cells (r0:=s0) (r1:=s1) (r2:=s2) (r3:=s3) (r4:=s4) (r5:=s5) (r6:=s6) (r7:=s7) (pc:=PC) h9
   exact bodyPost_ret (v:=.agg #[.int .i64 s0,.int .i64 s1,.int .i64 s2,.int .i64 s3,.int .i64 s4,.int .i64 s5,.int .i64 s6,.int .i64 s7,.int .i64 PC]) (by simp[results,Tryz.results118,go_sem,y0,y1,y2,y3,y4,y5,y6,y7,y8]) rfl ⟨by rw[HX.out];rfl,b9⟩
end Go.Proofs.YthdgehcghklflaaGreatDoor
