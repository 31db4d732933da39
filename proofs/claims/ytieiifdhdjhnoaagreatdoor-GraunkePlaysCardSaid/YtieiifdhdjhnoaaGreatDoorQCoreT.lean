import Derived.Test.YtieiifdhdjhnoaaGreatDoorQArR
import Derived.Deep.CutBlock
set_option linter.unusedVariables false
set_option maxHeartbeats 4000000
set_option maxRecDepth 100000
open Go.Value renaming int->I,pointer->P
open Go.IntKind renaming i64->Q,u32->N
open Option renaming none->O,some->Z
open Bool renaming false->V
open Go.Obj renaming cells->S
open Go.Lib renaming hid->T
open Go.RowKit.Below renaming refl->R
open Go renaming undef->U
namespace Go.Proofs.YtieiifdhdjhnoaaGreatDoor
open Go.ChangeShapes Go.WideShapes Go.ChangeAt Go.RowKit
theorem GQ (xs:List Int)(pc:Int)(i:aU)(self:Int)(hx:cX xs)(hi:Fr i)(h0:0<=self)(h1:self<4294967296)(p0:-9223372036854775808<=pc)(p1:pc<=1099511627776)(w:World):
 Calls Tryz.prog 119 #[rv xs pc,iv i,I Q self] w fun e w'=>e=.returned (rv (oV xs i self) (tT xs pc i))/\Below w.heap.size w w':=by
 have HO:Hid (oV xs i self=if fp i.op then xs else match oE xs i self with | some v=>xs.set i.d.toNat v | none=>xs):=T rfl
 have HP:Hid (tT xs pc i=if fp i.op then pc else vH xs pc i):=T rfl
 have HE:Hid (cX (oV xs i self)):=T (hx.one hi h0 h1)
 have hd:=hi.d
 have hs:=hi.s
 have ht:=hi.t
 have hk:=hi.k
 have hsh:=hi.sh
 have hop:=hi.op
 obtain⟨h8,hxu⟩:=hx
 unfold oE vH at *
 generalize oV xs i self=XS at *
 generalize tT xs pc i=PC at *
 obtain⟨op,d,s,t,u,a',k,pl⟩:=i
 clear hi
 simp only at hd hs ht hk hsh hop HO HP
 obtain⟨dn,rfl⟩:∃ n:Nat,d=n:=⟨d.toNat,by omega⟩
 obtain⟨sn,rfl⟩:∃ n:Nat,s=n:=⟨s.toNat,by omega⟩
 obtain⟨tn,rfl⟩:∃ n:Nat,t=n:=⟨t.toNat,by omega⟩
 have hd8:dn<8:=by omega
 have hs8:sn<8:=by omega
 have ht8:tn<8:=by omega
 have hdi:(dn:Int)<8:=by omega
 have hsi:(sn:Int)<8:=by omega
 have hti:(tn:Int)<8:=by omega
 simp only[Int.toNat_natCast] at HO HP
 have hA:=hxu.at_ sn
 have hB:=hxu.at_ tn
 obtain⟨r0,r1,r2,r3,r4,r5,r6,r7,rfl⟩:=cG h8
 have q0:Rb (((w.alloc (S #[I Q r0,I Q r1,I Q r2,I Q r3,I Q r4,I Q r5,I Q r6,I Q r7,I Q pc] 111)).alloc (S #[I Q op,I Q dn,I Q sn,I Q tn,I Q u,I Q a',I N k,I Q pl] 123)).alloc (S #[I Q 0,I Q 0,I Q 0,I Q 0,I Q 0,I Q 0,I Q 0,I Q 0,I Q 0] 111)) w.heap.size [r0,r1,r2,r3,r4,r5,r6,r7] pc:=((Rb.made w [r0,r1,r2,r3,r4,r5,r6,r7] pc).alloc (S #[I Q op,I Q dn,I Q sn,I Q tn,I Q u,I Q a',I N k,I Q pl] 123)).alloc (S #[I Q 0,I Q 0,I Q 0,I Q 0,I Q 0,I Q 0,I Q 0,I Q 0,I Q 0] 111)
 have q1:Jb (((w.alloc (S #[I Q r0,I Q r1,I Q r2,I Q r3,I Q r4,I Q r5,I Q r6,I Q r7,I Q pc] 111)).alloc (S #[I Q op,I Q dn,I Q sn,I Q tn,I Q u,I Q a',I N k,I Q pl] 123)).alloc (S #[I Q 0,I Q 0,I Q 0,I Q 0,I Q 0,I Q 0,I Q 0,I Q 0,I Q 0] 111)) (w.heap.size+1) ⟨op,dn,sn,tn,u,a',k,pl⟩:=by
  have:=Bk.alloc (Jb.made (w.alloc (S #[I Q r0,I Q r1,I Q r2,I Q r3,I Q r4,I Q r5,I Q r6,I Q r7,I Q pc] 111)) op dn sn tn u a' k pl) (S #[I Q 0,I Q 0,I Q 0,I Q 0,I Q 0,I Q 0,I Q 0,I Q 0,I Q 0] 111)
  rw[World.size_alloc] at this
  exact this
 have q2:Rb (((w.alloc (S #[I Q r0,I Q r1,I Q r2,I Q r3,I Q r4,I Q r5,I Q r6,I Q r7,I Q pc] 111)).alloc (S #[I Q op,I Q dn,I Q sn,I Q tn,I Q u,I Q a',I N k,I Q pl] 123)).alloc (S #[I Q 0,I Q 0,I Q 0,I Q 0,I Q 0,I Q 0,I Q 0,I Q 0,I Q 0] 111)) (w.heap.size+1+1) [0,0,0,0,0,0,0,0] 0:=by
  have:=Rb.made ((w.alloc (S #[I Q r0,I Q r1,I Q r2,I Q r3,I Q r4,I Q r5,I Q r6,I Q r7,I Q pc] 111)).alloc (S #[I Q op,I Q dn,I Q sn,I Q tn,I Q u,I Q a',I N k,I Q pl] 123)) [0,0,0,0,0,0,0,0] 0
  rw[World.size_alloc,World.size_alloc] at this
  exact this
 have b0:Below w.heap.size w (((w.alloc (S #[I Q r0,I Q r1,I Q r2,I Q r3,I Q r4,I Q r5,I Q r6,I Q r7,I Q pc] 111)).alloc (S #[I Q op,I Q dn,I Q sn,I Q tn,I Q u,I Q a',I N k,I Q pl] 123)).alloc (S #[I Q 0,I Q 0,I Q 0,I Q 0,I Q 0,I Q 0,I Q 0,I Q 0,I Q 0] 111)):=(((R _ _).alloc (Nat.le_refl _) _).alloc (by simp) _).alloc (by simp;omega) _
 unfold rv iv at *
 simp only[dE,List.map_cons,List.map_nil,List.cons_append,List.nil_append]
 go_enter Tryz.func119,Tryz.ntmps119
 go_upto_region 1 with fail
 generalize ((w.alloc (S #[I Q r0,I Q r1,I Q r2,I Q r3,I Q r4,I Q r5,I Q r6,I Q r7,I Q pc] 111)).alloc (S #[I Q op,I Q dn,I Q sn,I Q tn,I Q u,I Q a',I N k,I Q pl] 123)).alloc (S #[I Q 0,I Q 0,I Q 0,I Q 0,I Q 0,I Q 0,I Q 0,I Q 0,I Q 0] 111)=x at *
 have cA:=q0.at_ h8 hs8
 have cB:=q0.at_ h8 ht8
 obtain⟨e0,e1,e2,e3,e4,e5,e6,e7⟩:=q1.cells
 simp only at e0 e1 e2 e3 e4 e5 e6 e7
 generalize aD [r0,r1,r2,r3,r4,r5,r6,r7] sn=A at *
 generalize aD [r0,r1,r2,r3,r4,r5,r6,r7] tn=B at *
 go_quiet ((fail))
 replace q0:Rb (x.drewN nq) _ _ _:=q0
 replace q1:Jb (x.drewN nq) _ _:=q1
 replace q2:Rb (x.drewN nq) _ _ _:=q2
 replace b0:=Go.below_drewN b0 nq
 replace cA:(x.drewN nq).cell? _=_:=cA
 clear cA cB e0 e1 e2 e3 e4 e5 e6 e7
 generalize x.drewN nq=x at *
 obtain⟨e0,e1,e2,e3,e4,e5,e6,e7⟩:=q1.cells
 simp only at e0 e1 e2 e3 e4 e5 e6 e7
 by_cases hstay:16<=op\/op=13
 ·have HS:Hid (XS=[r0,r1,r2,r3,r4,r5,r6,r7]/\PC=pc):=T (by
   rw[HO.out,HP.out]
   rcases hstay with h | h
   ·have:fp op=true:=by simp[fp];omega
    simp[this]
   ·subst h;exact⟨rfl,rfl⟩)
  obtain⟨c0,c1,c2,c3,c4,c5,c6,c7,c8⟩:=q0.cells
  obtain⟨z0,z1,z2,z3,z4,z5,z6,z7,z8⟩:=q2.cells
  have zf:=Bk.free q2
  by_cases h16:16<=op
  ·clear hstay hop
   go_upto_region 3 with fail
   have h9:=jE q2 (I Q r0) (I Q r1) (I Q r2) (I Q r3) (I Q r4) (I Q r5) (I Q r6) (I Q r7) (I Q pc)
   have b9:=fg b0 (show w.heap.size<=w.heap.size+1+1 by omega) (I Q r0) (I Q r1) (I Q r2) (I Q r3) (I Q r4) (I Q r5) (I Q r6) (I Q r7) (I Q pc)
   go_wp
   generalize hv9:(((((((((x.setCell ⟨w.heap.size+1+1,0,O⟩ (I Q r0)).setCell ⟨w.heap.size+1+1,1,O⟩ (I Q r1)).setCell ⟨w.heap.size+1+1,2,O⟩ (I Q r2)).setCell ⟨w.heap.size+1+1,3,O⟩ (I Q r3)).setCell ⟨w.heap.size+1+1,4,O⟩ (I Q r4)).setCell ⟨w.heap.size+1+1,5,O⟩ (I Q r5)).setCell ⟨w.heap.size+1+1,6,O⟩ (I Q r6)).setCell ⟨w.heap.size+1+1,7,O⟩ (I Q r7)).setCell ⟨w.heap.size+1+1,8,O⟩ (I Q pc))=v9
   replace hv9:gu x (w.heap.size+1+1) (I Q r0) (I Q r1) (I Q r2) (I Q r3) (I Q r4) (I Q r5) (I Q r6) (I Q r7) (I Q pc)=v9:=hv9
   rw[hv9] at h9 b9
   obtain⟨y0,y1,y2,y3,y4,y5,y6,y7,y8⟩:=Rb.cells (r0:=r0) (r1:=r1) (r2:=r2) (r3:=r3) (r4:=r4) (r5:=r5) (r6:=r6) (r7:=r7) (pc:=pc) h9
   exact bodyPost_ret (v:=.agg #[I Q r0,I Q r1,I Q r2,I Q r3,I Q r4,I Q r5,I Q r6,I Q r7,I Q pc]) (by simp[results,Tryz.results119,go_sem,y0,y1,y2,y3,y4,y5,y6,y7,y8]) rfl ⟨by rw[HS.out.1,HS.out.2];rfl,b9⟩
  ·obtain rfl:op=13:=by omega
   clear hstay hop h16
   go_upto_region 3 with fail
   have h9:=jE q2 (I Q r0) (I Q r1) (I Q r2) (I Q r3) (I Q r4) (I Q r5) (I Q r6) (I Q r7) (I Q pc)
   have b9:=fg b0 (show w.heap.size<=w.heap.size+1+1 by omega) (I Q r0) (I Q r1) (I Q r2) (I Q r3) (I Q r4) (I Q r5) (I Q r6) (I Q r7) (I Q pc)
   go_wp
   generalize hv9:(((((((((x.setCell ⟨w.heap.size+1+1,0,O⟩ (I Q r0)).setCell ⟨w.heap.size+1+1,1,O⟩ (I Q r1)).setCell ⟨w.heap.size+1+1,2,O⟩ (I Q r2)).setCell ⟨w.heap.size+1+1,3,O⟩ (I Q r3)).setCell ⟨w.heap.size+1+1,4,O⟩ (I Q r4)).setCell ⟨w.heap.size+1+1,5,O⟩ (I Q r5)).setCell ⟨w.heap.size+1+1,6,O⟩ (I Q r6)).setCell ⟨w.heap.size+1+1,7,O⟩ (I Q r7)).setCell ⟨w.heap.size+1+1,8,O⟩ (I Q pc))=v9
   replace hv9:gu x (w.heap.size+1+1) (I Q r0) (I Q r1) (I Q r2) (I Q r3) (I Q r4) (I Q r5) (I Q r6) (I Q r7) (I Q pc)=v9:=hv9
   rw[hv9] at h9 b9
   obtain⟨y0,y1,y2,y3,y4,y5,y6,y7,y8⟩:=Rb.cells (r0:=r0) (r1:=r1) (r2:=r2) (r3:=r3) (r4:=r4) (r5:=r5) (r6:=r6) (r7:=r7) (pc:=pc) h9
   exact bodyPost_ret (v:=.agg #[I Q r0,I Q r1,I Q r2,I Q r3,I Q r4,I Q r5,I Q r6,I Q r7,I Q pc]) (by simp[results,Tryz.results119,go_sem,y0,y1,y2,y3,y4,y5,y6,y7,y8]) rfl ⟨by rw[HS.out.1,HS.out.2];rfl,b9⟩
 ·have hop2:op=1\/op=2\/op=3\/op=4\/op=5\/op=6\/op=7\/op=8\/op=9\/op=10\/op=11\/op=12:=by omega
  have h16:¬ 16<=op:=by omega
  have h13:(op==13)=V:=by simp;omega
  have HM:Hid (fp op=V):=T (by simp[fp];omega)
  obtain⟨c0,c1,c2,c3,c4,c5,c6,c7,c8⟩:=q0.cells
  go_upto_block 0 with fail
  clear c0 c1 c2 c3 c4 c5 c6 c7 c8
  go_cut [10] (fun nx wx=>nx=I Q PC/\Rb wx w.heap.size XS pc/\Rb wx (w.heap.size+1+1) [0,0,0,0,0,0,0,0] 0/\Below w.heap.size w wx)
  case first=>
   have HST:Hid (∀ W,Below x.heap.size x W->∀ v,XS=[r0,r1,r2,r3,r4,r5,r6,r7].set dn v->Rb (W.setCell ⟨w.heap.size,dn,O⟩ (I Q v)) w.heap.size XS pc/\Rb (W.setCell ⟨w.heap.size,dn,O⟩ (I Q v)) (w.heap.size+1+1) [0,0,0,0,0,0,0,0] 0/\Below w.heap.size w (W.setCell ⟨w.heap.size,dn,O⟩ (I Q v))):=T fun W hW v e=>by
    refine⟨by rw[e];exact(q0.below hW).set h8 hd8 v,Bk.off (q2.below hW) (p:=⟨w.heap.size,dn,O⟩) (by show w.heap.size+1+1≠w.heap.size;omega) _,Below.setCell (b0.trans (hW.mono b0.size)) (p:=⟨w.heap.size,dn,O⟩) (Nat.le_refl _) _⟩
   have HSN:Hid (XS=[r0,r1,r2,r3,r4,r5,r6,r7]->Rb x w.heap.size XS pc/\Rb x (w.heap.size+1+1) [0,0,0,0,0,0,0,0] 0/\Below w.heap.size w x):=T fun e=>⟨by rw[e];exact q0,q2,b0⟩
   have HST0:=T (HST.out x (R _ _))
   have cD:=q0.at_ h8 hd8
   have HQ0:Hid (∀ W,Below x.heap.size x W->Rb W w.heap.size _ _):=T fun W hW=>q0.below hW
   have HQL:Hid (w.heap.size<x.heap.size):=T (Bk.lt q0)
   have zf:=Bk.free q0
   generalize aD [r0,r1,r2,r3,r4,r5,r6,r7] dn=Dv at *
   rw[HM.out] at HO HP
   clear q0 q2 hop hstay hxu h8
   rcases hop2 with rfl|rfl|rfl|rfl|rfl|rfl|rfl|rfl|rfl|rfl|rfl|rfl
   ·have HX:Hid (XS=[r0,r1,r2,r3,r4,r5,r6,r7].set dn (k)):=T (by rw[HO.out];rfl)
    have HPC:Hid (PC=pc+1):=T (by rw[HP.out];rfl)
    go_wp2
    go_meet
    case rel=>
     obtain⟨g1,g2,g3⟩:=HST0.out _ HX.out
     exact⟨by rw[HPC.out],g1,g2,g3⟩
   ·have HX:Hid (XS=[r0,r1,r2,r3,r4,r5,r6,r7].set dn (A)):=T (by rw[HO.out];rfl)
    have HPC:Hid (PC=pc+1):=T (by rw[HP.out];rfl)
    go_wp2
    go_meet
    case rel=>
     obtain⟨g1,g2,g3⟩:=HST0.out _ HX.out
     exact⟨by rw[HPC.out],g1,g2,g3⟩
   ·have HX:Hid (XS=[r0,r1,r2,r3,r4,r5,r6,r7].set dn ((A+k) % 4294967296)):=T (by rw[HO.out];rfl)
    have HPC:Hid (PC=pc+1):=T (by rw[HP.out];rfl)
    go_wp2
    go_meet
    case rel=>
     obtain⟨g1,g2,g3⟩:=HST0.out _ HX.out
     exact⟨by rw[HPC.out],g1,g2,g3⟩
   ·go_upto_region 13 with fail
    have HBT:=T (fun W=>DL A k true hA.1 hA.2 hk.1 hk.2 W)
    simp only[if_true] at HBT
    have HX:Hid (XS=[r0,r1,r2,r3,r4,r5,r6,r7].set dn (nF A k)):=T (by rw[HO.out];rfl)
    have HPC:Hid (PC=pc+1):=T (by rw[HP.out];rfl)
    have HC:Hid (∀ W,Below x.heap.size x W->Jb W (w.heap.size+1) _):=T fun W hW=>q1.below hW
    have HZ:Hid (∀ W,Below x.heap.size x W->(∀ i,W.frozen? ⟨w.heap.size,i,O⟩=V)/\W.cell? ⟨w.heap.size,dn,O⟩=Z (I Q Dv)):=T fun W hW=>⟨Bk.free (HQ0.out W hW),by rw[(hW.cell (p:=⟨w.heap.size,dn,O⟩) HQL.out)];exact cD⟩
    clear e0 e1 e2 e3 e4 e5 e6 e7 cD zf
    refine du 7 (fun vs=>{ tmps:=#[.agg #[I Q r0,I Q r1,I Q r2,I Q r3,I Q r4,I Q r5,I Q r6,I Q r7,I Q pc],.agg #[I Q 4,I Q (dn:Int),I Q (sn:Int),I Q (tn:Int),I Q u,I Q a',I N k,I Q pl],I Q self,P (Z ⟨w.heap.size,0,O⟩),P (Z ⟨w.heap.size+1,0,O⟩),U,P (Z ⟨w.heap.size+1+1,0,O⟩),I Q A,I Q B,I Q k,I Q (pc+1),P (Z ⟨w.heap.size+1,2,O⟩),I Q (sn:Int),P (Z ⟨w.heap.size,0,O⟩),P (Z ⟨w.heap.size,sn,O⟩),I Q A,P (Z ⟨w.heap.size+1,3,O⟩),I Q (tn:Int),P (Z ⟨w.heap.size,0,O⟩),P (Z ⟨w.heap.size,tn,O⟩),I Q B,P (Z ⟨w.heap.size+1,6,O⟩),I N k,I Q k,P (Z ⟨w.heap.size+1,0,O⟩),I Q 4,.bool V,.bool V,P (Z ⟨w.heap.size+1,0,O⟩),I Q 4,.bool V,.bool V,U,P (Z ⟨w.heap.size,8,O⟩),I Q pc,I Q (pc+1),P (Z ⟨w.heap.size+1,0,O⟩),I Q 4,.bool V,.bool V,U,U,U,U,U,.bool V,.bool V,U,U,U,U,U,.bool V,.bool V,U,U,U,U,U,U,U,U,.bool true,.bool true,vs 0,vs 1,vs 2,vs 3,vs 4,vs 5,vs 6,U,U,U,U,U,U,U,U,U,U,U,U,U,U,U,U,U,U,U,U,U,U,U,U,U,U,U,U,U,U,U,U,U,U,U,U,U,U,U,U,U,U,U,U,U,U,U,U,U,U,U,U,U,U,U,U,U,U],defers:=[] }) (vA [P (Z ⟨w.heap.size+1,1,O⟩),I Q (dn:Int),I Q A,I Q k,I Q (nF A k),P (Z ⟨w.heap.size,0,O⟩),P (Z ⟨w.heap.size,dn,O⟩)]) ?ghm ?ghr ?ght ?glit ?gstable ?gops ?gdone
    case ghm=>kernel_rfl
    case ghr=>kernel_rfl
    case ght=>kernel_rfl
    case glit=>intro vs;rfl
    case gstable=>exact eL
    case gops=>
     simp only[List.take_succ_cons,List.take_zero]
     refine⟨?_,?_,?_,?_,?_,?_,?_,trivial⟩
     ·intro vs W hW hd
      refine aa rfl ?_
      go_simp
      exact⟨rfl,R _ _⟩
     ·intro vs W hW hd
      refine aa rfl ?_
      have e0:vs 0=P (Z ⟨w.heap.size+1,1,O⟩):=hd 0 (by decide)
      have hq1:=HC.out W hW;obtain⟨e0,e1,e2,e3,e4,e5,e6,e7⟩:=hq1.cells;simp only at e0 e1 e2 e3 e4 e5 e6 e7
      go_simp
      exact⟨rfl,R _ _⟩
     ·intro vs W hW hd
      refine aa rfl ?_
      go_simp
      exact⟨rfl,R _ _⟩
     ·intro vs W hW hd
      refine aa rfl ?_
      go_simp
      exact⟨rfl,R _ _⟩
     ·intro vs W hW hd
      refine aa rfl ?_
      have e2:vs 2=I Q A:=hd 2 (by decide)
      have e3:vs 3=I Q k:=hd 3 (by decide)
      have HS:=T (HBT.out W)
      clear hd
      go_simp
      refine HS.out.mono ?_
      rintro e z ⟨he,m,rfl⟩
      exact⟨_,he,rfl,Go.below_drewN (R _ _) m⟩
     ·intro vs W hW hd
      refine aa rfl ?_
      go_simp
      exact⟨rfl,R _ _⟩
     ·intro vs W hW hd
      refine aa rfl ?_
      have e5:vs 5=P (Z ⟨w.heap.size,0,O⟩):=hd 5 (by decide)
      have e1:vs 1=I Q (dn:Int):=hd 1 (by decide)
      go_simp
      exact⟨rfl,R _ _⟩
    case gdone=>
     intro vs W hW hf
     have f0:vs 0=P (Z ⟨w.heap.size+1,1,O⟩):=hf 0 (by decide)
     have f1:vs 1=I Q (dn:Int):=hf 1 (by decide)
     have f2:vs 2=I Q A:=hf 2 (by decide)
     have f3:vs 3=I Q k:=hf 3 (by decide)
     have f4:vs 4=I Q (nF A k):=hf 4 (by decide)
     have f5:vs 5=P (Z ⟨w.heap.size,0,O⟩):=hf 5 (by decide)
     have f6:vs 6=P (Z ⟨w.heap.size,dn,O⟩):=hf 6 (by decide)
     simp only[f0,f1,f2,f3,f4,f5,f6,List.drop_succ_cons,List.drop_zero]
     clear hf f0 f1 f2 f3 f4 f5 f6
     obtain⟨zf,cD⟩:=HZ.out W hW
     replace HST:=T (HST.out W hW)
     clear HC HZ hW
     go_wp2
     go_meet
     case rel=>
      obtain⟨g1,g2,g3⟩:=HST.out _ HX.out
      exact⟨by rw[HPC.out],g1,g2,g3⟩
   ·go_upto_region 15 with fail
    have hk31:=hsh (.inl rfl)
    have hP:=qR hk.1 hk31
    have HPW:=T (fun W=>Fd k.toNat (by omega) W)
    rw[Int.toNat_of_nonneg hk.1] at HPW
    have HMU:Hid (0<=A*2 ^ k.toNat/\A*2 ^ k.toNat<=9223372034707292160):=T ⟨Int.mul_nonneg hA.1 (by omega),by
     have h1:=Int.mul_le_mul_of_nonneg_right (show A<=4294967295 by omega) (show (0:Int)<=2 ^ k.toNat by omega)
     have h2:=Int.mul_le_mul_of_nonneg_left hP.2 (show (0:Int)<=4294967295 by omega)
     omega⟩
    have HX:Hid (XS=[r0,r1,r2,r3,r4,r5,r6,r7].set dn (A*2 ^ k.toNat % 4294967296)):=T (by rw[HO.out];rfl)
    have HPC:Hid (PC=pc+1):=T (by rw[HP.out];rfl)
    have HC:Hid (∀ W,Below x.heap.size x W->Jb W (w.heap.size+1) _):=T fun W hW=>q1.below hW
    have HZ:Hid (∀ W,Below x.heap.size x W->(∀ i,W.frozen? ⟨w.heap.size,i,O⟩=V)/\W.cell? ⟨w.heap.size,dn,O⟩=Z (I Q Dv)):=T fun W hW=>⟨Bk.free (HQ0.out W hW),by rw[(hW.cell (p:=⟨w.heap.size,dn,O⟩) HQL.out)];exact cD⟩
    clear e0 e1 e2 e3 e4 e5 e6 e7 cD zf
    refine du 9 (fun vs=>{ tmps:=#[.agg #[I Q r0,I Q r1,I Q r2,I Q r3,I Q r4,I Q r5,I Q r6,I Q r7,I Q pc],.agg #[I Q 5,I Q (dn:Int),I Q (sn:Int),I Q (tn:Int),I Q u,I Q a',I N k,I Q pl],I Q self,P (Z ⟨w.heap.size,0,O⟩),P (Z ⟨w.heap.size+1,0,O⟩),U,P (Z ⟨w.heap.size+1+1,0,O⟩),I Q A,I Q B,I Q k,I Q (pc+1),P (Z ⟨w.heap.size+1,2,O⟩),I Q (sn:Int),P (Z ⟨w.heap.size,0,O⟩),P (Z ⟨w.heap.size,sn,O⟩),I Q A,P (Z ⟨w.heap.size+1,3,O⟩),I Q (tn:Int),P (Z ⟨w.heap.size,0,O⟩),P (Z ⟨w.heap.size,tn,O⟩),I Q B,P (Z ⟨w.heap.size+1,6,O⟩),I N k,I Q k,P (Z ⟨w.heap.size+1,0,O⟩),I Q 5,.bool V,.bool V,P (Z ⟨w.heap.size+1,0,O⟩),I Q 5,.bool V,.bool V,U,P (Z ⟨w.heap.size,8,O⟩),I Q pc,I Q (pc+1),P (Z ⟨w.heap.size+1,0,O⟩),I Q 5,.bool V,.bool V,U,U,U,U,U,.bool V,.bool V,U,U,U,U,U,.bool V,.bool V,U,U,U,U,U,U,U,U,.bool V,.bool V,U,U,U,U,U,U,U,.bool true,.bool true,vs 0,vs 1,vs 2,vs 3,vs 4,vs 5,vs 6,vs 7,vs 8,U,U,U,U,U,U,U,U,U,U,U,U,U,U,U,U,U,U,U,U,U,U,U,U,U,U,U,U,U,U,U,U,U,U,U,U,U,U,U,U,U,U,U,U,U,U,U],defers:=[] }) (vA [P (Z ⟨w.heap.size+1,1,O⟩),I Q (dn:Int),I Q A,I Q k,I Q (2 ^ k.toNat),I Q (A*2 ^ k.toNat),I Q (A*2 ^ k.toNat % 4294967296),P (Z ⟨w.heap.size,0,O⟩),P (Z ⟨w.heap.size,dn,O⟩)]) ?ghm ?ghr ?ght ?glit ?gstable ?gops ?gdone
    case ghm=>kernel_rfl
    case ghr=>kernel_rfl
    case ght=>kernel_rfl
    case glit=>intro vs;rfl
    case gstable=>exact eL
    case gops=>
     simp only[List.take_succ_cons,List.take_zero]
     refine⟨?_,?_,?_,?_,?_,?_,?_,?_,?_,trivial⟩
     ·intro vs W hW hd
      refine aa rfl ?_
      go_simp
      exact⟨rfl,R _ _⟩
     ·intro vs W hW hd
      refine aa rfl ?_
      have e0:vs 0=P (Z ⟨w.heap.size+1,1,O⟩):=hd 0 (by decide)
      have hq1:=HC.out W hW;obtain⟨e0,e1,e2,e3,e4,e5,e6,e7⟩:=hq1.cells;simp only at e0 e1 e2 e3 e4 e5 e6 e7
      go_simp
      exact⟨rfl,R _ _⟩
     ·intro vs W hW hd
      refine aa rfl ?_
      go_simp
      exact⟨rfl,R _ _⟩
     ·intro vs W hW hd
      refine aa rfl ?_
      go_simp
      exact⟨rfl,R _ _⟩
     ·intro vs W hW hd
      refine aa rfl ?_
      have e3:vs 3=I Q k:=hd 3 (by decide)
      have HS:=T (HPW.out W)
      clear hd
      go_simp
      refine HS.out.mono ?_
      rintro e z ⟨he,rfl⟩
      exact⟨_,he,rfl,R _ _⟩
     ·intro vs W hW hd
      refine aa rfl ?_
      have e2:vs 2=I Q A:=hd 2 (by decide)
      have e4:vs 4=I Q (2 ^ k.toNat):=hd 4 (by decide)
      obtain⟨m0,m1⟩:=HMU.out
      clear hd
      go_simp
      exact⟨by show Value.int .i64 (IntKind.i64.wrap (A*2 ^ k.toNat))=I Q (A*2 ^ k.toNat);rw[IntWalk.i64_in _ (by omega)],R _ _⟩
     ·intro vs W hW hd
      refine aa rfl ?_
      have e5:vs 5=I Q (A*2 ^ k.toNat):=hd 5 (by decide)
      obtain⟨m0,m1⟩:=HMU.out
      clear hd
      generalize A*2 ^ k.toNat=AP at *
      go_simp
      exact⟨by show Value.int .i64 (AP.tmod 4294967296)=I Q (AP % 4294967296);rw[Int.tmod_eq_emod_of_nonneg m0],R _ _⟩
     ·intro vs W hW hd
      refine aa rfl ?_
      go_simp
      exact⟨rfl,R _ _⟩
     ·intro vs W hW hd
      refine aa rfl ?_
      have e7:vs 7=P (Z ⟨w.heap.size,0,O⟩):=hd 7 (by decide)
      have e1:vs 1=I Q (dn:Int):=hd 1 (by decide)
      go_simp
      exact⟨rfl,R _ _⟩
    case gdone=>
     intro vs W hW hf
     have f0:vs 0=P (Z ⟨w.heap.size+1,1,O⟩):=hf 0 (by decide)
     have f1:vs 1=I Q (dn:Int):=hf 1 (by decide)
     have f2:vs 2=I Q A:=hf 2 (by decide)
     have f3:vs 3=I Q k:=hf 3 (by decide)
     have f4:vs 4=I Q (2 ^ k.toNat):=hf 4 (by decide)
     have f5:vs 5=I Q (A*2 ^ k.toNat):=hf 5 (by decide)
     have f6:vs 6=I Q (A*2 ^ k.toNat % 4294967296):=hf 6 (by decide)
     have f7:vs 7=P (Z ⟨w.heap.size,0,O⟩):=hf 7 (by decide)
     have f8:vs 8=P (Z ⟨w.heap.size,dn,O⟩):=hf 8 (by decide)
     simp only[f0,f1,f2,f3,f4,f5,f6,f7,f8,List.drop_succ_cons,List.drop_zero]
     clear hf f0 f1 f2 f3 f4 f5 f6 f7 f8
     obtain⟨zf,cD⟩:=HZ.out W hW
     replace HST:=T (HST.out W hW)
     clear HC HZ hW
     go_wp2
     go_meet
     case rel=>
      obtain⟨g1,g2,g3⟩:=HST.out _ HX.out
      exact⟨by rw[HPC.out],g1,g2,g3⟩
   ·go_upto_region 17 with fail
    have hk31:=hsh (.inr rfl)
    have hP:=qR hk.1 hk31
    have HPW:=T (fun W=>Fd k.toNat (by omega) W)
    rw[Int.toNat_of_nonneg hk.1] at HPW
    have HMU:Hid (0<=A*2 ^ k.toNat/\A*2 ^ k.toNat<=9223372034707292160):=T ⟨Int.mul_nonneg hA.1 (by omega),by
     have h1:=Int.mul_le_mul_of_nonneg_right (show A<=4294967295 by omega) (show (0:Int)<=2 ^ k.toNat by omega)
     have h2:=Int.mul_le_mul_of_nonneg_left hP.2 (show (0:Int)<=4294967295 by omega)
     omega⟩
    have HX:Hid (XS=[r0,r1,r2,r3,r4,r5,r6,r7].set dn (A / 2 ^ k.toNat)):=T (by rw[HO.out];rfl)
    have HPC:Hid (PC=pc+1):=T (by rw[HP.out];rfl)
    have HC:Hid (∀ W,Below x.heap.size x W->Jb W (w.heap.size+1) _):=T fun W hW=>q1.below hW
    have HZ:Hid (∀ W,Below x.heap.size x W->(∀ i,W.frozen? ⟨w.heap.size,i,O⟩=V)/\W.cell? ⟨w.heap.size,dn,O⟩=Z (I Q Dv)):=T fun W hW=>⟨Bk.free (HQ0.out W hW),by rw[(hW.cell (p:=⟨w.heap.size,dn,O⟩) HQL.out)];exact cD⟩
    clear e0 e1 e2 e3 e4 e5 e6 e7 cD zf
    refine du 8 (fun vs=>{ tmps:=#[.agg #[I Q r0,I Q r1,I Q r2,I Q r3,I Q r4,I Q r5,I Q r6,I Q r7,I Q pc],.agg #[I Q 6,I Q (dn:Int),I Q (sn:Int),I Q (tn:Int),I Q u,I Q a',I N k,I Q pl],I Q self,P (Z ⟨w.heap.size,0,O⟩),P (Z ⟨w.heap.size+1,0,O⟩),U,P (Z ⟨w.heap.size+1+1,0,O⟩),I Q A,I Q B,I Q k,I Q (pc+1),P (Z ⟨w.heap.size+1,2,O⟩),I Q (sn:Int),P (Z ⟨w.heap.size,0,O⟩),P (Z ⟨w.heap.size,sn,O⟩),I Q A,P (Z ⟨w.heap.size+1,3,O⟩),I Q (tn:Int),P (Z ⟨w.heap.size,0,O⟩),P (Z ⟨w.heap.size,tn,O⟩),I Q B,P (Z ⟨w.heap.size+1,6,O⟩),I N k,I Q k,P (Z ⟨w.heap.size+1,0,O⟩),I Q 6,.bool V,.bool V,P (Z ⟨w.heap.size+1,0,O⟩),I Q 6,.bool V,.bool V,U,P (Z ⟨w.heap.size,8,O⟩),I Q pc,I Q (pc+1),P (Z ⟨w.heap.size+1,0,O⟩),I Q 6,.bool V,.bool V,U,U,U,U,U,.bool V,.bool V,U,U,U,U,U,.bool V,.bool V,U,U,U,U,U,U,U,U,.bool V,.bool V,U,U,U,U,U,U,U,.bool V,.bool V,U,U,U,U,U,U,U,U,U,.bool true,.bool true,vs 0,vs 1,vs 2,vs 3,vs 4,vs 5,vs 6,vs 7,U,U,U,U,U,U,U,U,U,U,U,U,U,U,U,U,U,U,U,U,U,U,U,U,U,U,U,U,U,U,U,U,U,U,U,U,U],defers:=[] }) (vA [P (Z ⟨w.heap.size+1,1,O⟩),I Q (dn:Int),I Q A,I Q k,I Q (2 ^ k.toNat),I Q (A / 2 ^ k.toNat),P (Z ⟨w.heap.size,0,O⟩),P (Z ⟨w.heap.size,dn,O⟩)]) ?ghm ?ghr ?ght ?glit ?gstable ?gops ?gdone
    case ghm=>kernel_rfl
    case ghr=>kernel_rfl
    case ght=>kernel_rfl
    case glit=>intro vs;rfl
    case gstable=>exact eL
    case gops=>
     simp only[List.take_succ_cons,List.take_zero]
     refine⟨?_,?_,?_,?_,?_,?_,?_,?_,trivial⟩
     ·intro vs W hW hd
      refine aa rfl ?_
      go_simp
      exact⟨rfl,R _ _⟩
     ·intro vs W hW hd
      refine aa rfl ?_
      have e0:vs 0=P (Z ⟨w.heap.size+1,1,O⟩):=hd 0 (by decide)
      have hq1:=HC.out W hW;obtain⟨e0,e1,e2,e3,e4,e5,e6,e7⟩:=hq1.cells;simp only at e0 e1 e2 e3 e4 e5 e6 e7
      go_simp
      exact⟨rfl,R _ _⟩
     ·intro vs W hW hd
      refine aa rfl ?_
      go_simp
      exact⟨rfl,R _ _⟩
     ·intro vs W hW hd
      refine aa rfl ?_
      go_simp
      exact⟨rfl,R _ _⟩
     ·intro vs W hW hd
      refine aa rfl ?_
      have e3:vs 3=I Q k:=hd 3 (by decide)
      have HS:=T (HPW.out W)
      clear hd
      go_simp
      refine HS.out.mono ?_
      rintro e z ⟨he,rfl⟩
      exact⟨_,he,rfl,R _ _⟩
     ·intro vs W hW hd
      refine aa rfl ?_
      have e2:vs 2=I Q A:=hd 2 (by decide)
      have e4:vs 4=I Q (2 ^ k.toNat):=hd 4 (by decide)
      clear hd
      have hne:¬ (2:Int) ^ k.toNat=0:=by omega
      have hdv:IntKind.i64.wrap (A.tdiv (2 ^ k.toNat))=A / 2 ^ k.toNat:=by
       rw[Int.tdiv_eq_ediv_of_nonneg hA.1]
       have:=Int.ediv_le_self (2 ^ k.toNat) hA.1
       have:=Int.ediv_nonneg hA.1 (by omega:(0:Int)<=2 ^ k.toNat)
       exact IntWalk.i64_in _ (by omega)
      go_simp
      exact⟨rfl,R _ _⟩
     ·intro vs W hW hd
      refine aa rfl ?_
      go_simp
      exact⟨rfl,R _ _⟩
     ·intro vs W hW hd
      refine aa rfl ?_
      have e6:vs 6=P (Z ⟨w.heap.size,0,O⟩):=hd 6 (by decide)
      have e1:vs 1=I Q (dn:Int):=hd 1 (by decide)
      go_simp
      exact⟨rfl,R _ _⟩
    case gdone=>
     intro vs W hW hf
     have f0:vs 0=P (Z ⟨w.heap.size+1,1,O⟩):=hf 0 (by decide)
     have f1:vs 1=I Q (dn:Int):=hf 1 (by decide)
     have f2:vs 2=I Q A:=hf 2 (by decide)
     have f3:vs 3=I Q k:=hf 3 (by decide)
     have f4:vs 4=I Q (2 ^ k.toNat):=hf 4 (by decide)
     have f5:vs 5=I Q (A / 2 ^ k.toNat):=hf 5 (by decide)
     have f6:vs 6=P (Z ⟨w.heap.size,0,O⟩):=hf 6 (by decide)
     have f7:vs 7=P (Z ⟨w.heap.size,dn,O⟩):=hf 7 (by decide)
     simp only[f0,f1,f2,f3,f4,f5,f6,f7,List.drop_succ_cons,List.drop_zero]
     clear hf f0 f1 f2 f3 f4 f5 f6 f7
     obtain⟨zf,cD⟩:=HZ.out W hW
     replace HST:=T (HST.out W hW)
     clear HC HZ hW
     go_wp2
     go_meet
     case rel=>
      obtain⟨g1,g2,g3⟩:=HST.out _ HX.out
      exact⟨by rw[HPC.out],g1,g2,g3⟩
   ·go_upto_region 19 with fail
    have HBT:=T (fun W=>DL A B V hA.1 hA.2 hB.1 hB.2 W)
    simp only[Bool.false_eq_true,if_false] at HBT
    have HX:Hid (XS=[r0,r1,r2,r3,r4,r5,r6,r7].set dn (Dw A B)):=T (by rw[HO.out];rfl)
    have HPC:Hid (PC=pc+1):=T (by rw[HP.out];rfl)
    have HC:Hid (∀ W,Below x.heap.size x W->Jb W (w.heap.size+1) _):=T fun W hW=>q1.below hW
    have HZ:Hid (∀ W,Below x.heap.size x W->(∀ i,W.frozen? ⟨w.heap.size,i,O⟩=V)/\W.cell? ⟨w.heap.size,dn,O⟩=Z (I Q Dv)):=T fun W hW=>⟨Bk.free (HQ0.out W hW),by rw[(hW.cell (p:=⟨w.heap.size,dn,O⟩) HQL.out)];exact cD⟩
    clear e0 e1 e2 e3 e4 e5 e6 e7 cD zf
    refine du 7 (fun vs=>{ tmps:=#[.agg #[I Q r0,I Q r1,I Q r2,I Q r3,I Q r4,I Q r5,I Q r6,I Q r7,I Q pc],.agg #[I Q 7,I Q (dn:Int),I Q (sn:Int),I Q (tn:Int),I Q u,I Q a',I N k,I Q pl],I Q self,P (Z ⟨w.heap.size,0,O⟩),P (Z ⟨w.heap.size+1,0,O⟩),U,P (Z ⟨w.heap.size+1+1,0,O⟩),I Q A,I Q B,I Q k,I Q (pc+1),P (Z ⟨w.heap.size+1,2,O⟩),I Q (sn:Int),P (Z ⟨w.heap.size,0,O⟩),P (Z ⟨w.heap.size,sn,O⟩),I Q A,P (Z ⟨w.heap.size+1,3,O⟩),I Q (tn:Int),P (Z ⟨w.heap.size,0,O⟩),P (Z ⟨w.heap.size,tn,O⟩),I Q B,P (Z ⟨w.heap.size+1,6,O⟩),I N k,I Q k,P (Z ⟨w.heap.size+1,0,O⟩),I Q 7,.bool V,.bool V,P (Z ⟨w.heap.size+1,0,O⟩),I Q 7,.bool V,.bool V,U,P (Z ⟨w.heap.size,8,O⟩),I Q pc,I Q (pc+1),P (Z ⟨w.heap.size+1,0,O⟩),I Q 7,.bool V,.bool V,U,U,U,U,U,.bool V,.bool V,U,U,U,U,U,.bool V,.bool V,U,U,U,U,U,U,U,U,.bool V,.bool V,U,U,U,U,U,U,U,.bool V,.bool V,U,U,U,U,U,U,U,U,U,.bool V,.bool V,U,U,U,U,U,U,U,U,.bool true,.bool true,vs 0,vs 1,vs 2,vs 3,vs 4,vs 5,vs 6,U,U,U,U,U,U,U,U,U,U,U,U,U,U,U,U,U,U,U,U,U,U,U,U,U,U,U,U],defers:=[] }) (vA [P (Z ⟨w.heap.size+1,1,O⟩),I Q (dn:Int),I Q A,I Q B,I Q (Dw A B),P (Z ⟨w.heap.size,0,O⟩),P (Z ⟨w.heap.size,dn,O⟩)]) ?ghm ?ghr ?ght ?glit ?gstable ?gops ?gdone
    case ghm=>kernel_rfl
    case ghr=>kernel_rfl
    case ght=>kernel_rfl
    case glit=>intro vs;rfl
    case gstable=>exact eL
    case gops=>
     simp only[List.take_succ_cons,List.take_zero]
     refine⟨?_,?_,?_,?_,?_,?_,?_,trivial⟩
     ·intro vs W hW hd
      refine aa rfl ?_
      go_simp
      exact⟨rfl,R _ _⟩
     ·intro vs W hW hd
      refine aa rfl ?_
      have e0:vs 0=P (Z ⟨w.heap.size+1,1,O⟩):=hd 0 (by decide)
      have hq1:=HC.out W hW;obtain⟨e0,e1,e2,e3,e4,e5,e6,e7⟩:=hq1.cells;simp only at e0 e1 e2 e3 e4 e5 e6 e7
      go_simp
      exact⟨rfl,R _ _⟩
     ·intro vs W hW hd
      refine aa rfl ?_
      go_simp
      exact⟨rfl,R _ _⟩
     ·intro vs W hW hd
      refine aa rfl ?_
      go_simp
      exact⟨rfl,R _ _⟩
     ·intro vs W hW hd
      refine aa rfl ?_
      have e2:vs 2=I Q A:=hd 2 (by decide)
      have e3:vs 3=I Q B:=hd 3 (by decide)
      have HS:=T (HBT.out W)
      clear hd
      go_simp
      refine HS.out.mono ?_
      rintro e z ⟨he,m,rfl⟩
      exact⟨_,he,rfl,Go.below_drewN (R _ _) m⟩
     ·intro vs W hW hd
      refine aa rfl ?_
      go_simp
      exact⟨rfl,R _ _⟩
     ·intro vs W hW hd
      refine aa rfl ?_
      have e5:vs 5=P (Z ⟨w.heap.size,0,O⟩):=hd 5 (by decide)
      have e1:vs 1=I Q (dn:Int):=hd 1 (by decide)
      go_simp
      exact⟨rfl,R _ _⟩
    case gdone=>
     intro vs W hW hf
     have f0:vs 0=P (Z ⟨w.heap.size+1,1,O⟩):=hf 0 (by decide)
     have f1:vs 1=I Q (dn:Int):=hf 1 (by decide)
     have f2:vs 2=I Q A:=hf 2 (by decide)
     have f3:vs 3=I Q B:=hf 3 (by decide)
     have f4:vs 4=I Q (Dw A B):=hf 4 (by decide)
     have f5:vs 5=P (Z ⟨w.heap.size,0,O⟩):=hf 5 (by decide)
     have f6:vs 6=P (Z ⟨w.heap.size,dn,O⟩):=hf 6 (by decide)
     simp only[f0,f1,f2,f3,f4,f5,f6,List.drop_succ_cons,List.drop_zero]
     clear hf f0 f1 f2 f3 f4 f5 f6
     obtain⟨zf,cD⟩:=HZ.out W hW
     replace HST:=T (HST.out W hW)
     clear HC HZ hW
     go_wp2
     go_meet
     case rel=>
      obtain⟨g1,g2,g3⟩:=HST.out _ HX.out
      exact⟨by rw[HPC.out],g1,g2,g3⟩
   ·by_cases hAB:A=B
    ·subst hAB
     have HX:Hid (XS=[r0,r1,r2,r3,r4,r5,r6,r7]):=T (by rw[HO.out];rfl)
     have HPC:Hid (PC=pl):=T (by rw[HP.out];simp[oH])
     go_wp2
     go_meet
     case rel=>
      obtain⟨g1,g2,g3⟩:=HSN.out HX.out
      exact⟨by rw[HPC.out],g1,g2,g3⟩
    ·have hne:(A==B)=V:=by simpa using hAB
     have HX:Hid (XS=[r0,r1,r2,r3,r4,r5,r6,r7]):=T (by rw[HO.out];rfl)
     have HPC:Hid (PC=pc+1):=T (by rw[HP.out];simp[oH,hAB])
     clear hAB
     go_wp2
     go_meet
     case rel=>
      obtain⟨g1,g2,g3⟩:=HSN.out HX.out
      exact⟨by rw[HPC.out],g1,g2,g3⟩
   ·by_cases hAB:A=B
    ·subst hAB
     have HX:Hid (XS=[r0,r1,r2,r3,r4,r5,r6,r7]):=T (by rw[HO.out];rfl)
     have HPC:Hid (PC=pc+1):=T (by rw[HP.out];simp[oH])
     go_wp2
     go_meet
     case rel=>
      obtain⟨g1,g2,g3⟩:=HSN.out HX.out
      exact⟨by rw[HPC.out],g1,g2,g3⟩
    ·have hne:(A==B)=V:=by simpa using hAB
     have HX:Hid (XS=[r0,r1,r2,r3,r4,r5,r6,r7]):=T (by rw[HO.out];rfl)
     have HPC:Hid (PC=pl):=T (by rw[HP.out];simp[oH,hAB])
     clear hAB
     go_wp2
     go_meet
     case rel=>
      obtain⟨g1,g2,g3⟩:=HSN.out HX.out
      exact⟨by rw[HPC.out],g1,g2,g3⟩
   ·have HX:Hid (XS=[r0,r1,r2,r3,r4,r5,r6,r7]):=T (by rw[HO.out];rfl)
    have HPC:Hid (PC=pl):=T (by rw[HP.out];rfl)
    go_wp2
    go_meet
    case rel=>
     obtain⟨g1,g2,g3⟩:=HSN.out HX.out
     exact⟨by rw[HPC.out],g1,g2,g3⟩
   ·have HX:Hid (XS=[r0,r1,r2,r3,r4,r5,r6,r7].set dn (self)):=T (by rw[HO.out];rfl)
    have HPC:Hid (PC=pc+1):=T (by rw[HP.out];rfl)
    go_wp2
    go_meet
    case rel=>
     obtain⟨g1,g2,g3⟩:=HST0.out _ HX.out
     exact⟨by rw[HPC.out],g1,g2,g3⟩
   ·have HX:Hid (XS=[r0,r1,r2,r3,r4,r5,r6,r7]):=T (by rw[HO.out];rfl)
    have HPC:Hid (PC=pc+1):=T (by rw[HP.out];rfl)
    go_wp2
    go_meet
    case rel=>
     obtain⟨g1,g2,g3⟩:=HSN.out HX.out
     exact⟨by rw[HPC.out],g1,g2,g3⟩
  case rest=>
   obtain⟨rfl,hO,hR,hb⟩:=hcut
   obtain⟨s0,s1,s2,s3,s4,s5,s6,s7,hs9⟩:=cG HE.out.1
   have HX:=T hs9
   rw[hs9] at hO
   clear hs9 q0 q1 q2 b0 hop hop2 hstay HO HP HE HM e0 e1 e2 e3 e4 e5 e6 e7
   obtain⟨c0,c1,c2,c3,c4,c5,c6,c7,c8⟩:=hO.cells
   have zf:=Bk.free hO
   go_upto_region 31 with fail
   replace hO:=hO.zi rfl PC
   have hR2:Rb (wc.setCell ⟨w.heap.size,8,O⟩ (I Q PC)) _ _ _:=Bk.off hR (p:=⟨w.heap.size,8,O⟩) (by show w.heap.size+1+1≠w.heap.size;omega) _
   replace hb:=hb.setCell (p:=⟨w.heap.size,8,O⟩) (Nat.le_refl _) (I Q PC)
   clear zf hR c0 c1 c2 c3 c4 c5 c6 c7 c8
   generalize wc.setCell ⟨w.heap.size,8,O⟩ (I Q PC)=x9 at *
   obtain⟨c0,c1,c2,c3,c4,c5,c6,c7,c8⟩:=hO.cells
   obtain⟨z0,z1,z2,z3,z4,z5,z6,z7,z8⟩:=hR2.cells
   have zf:=Bk.free hR2
   have h9:=jE hR2 (I Q s0) (I Q s1) (I Q s2) (I Q s3) (I Q s4) (I Q s5) (I Q s6) (I Q s7) (I Q PC)
   have b9:=fg hb (show w.heap.size<=w.heap.size+1+1 by omega) (I Q s0) (I Q s1) (I Q s2) (I Q s3) (I Q s4) (I Q s5) (I Q s6) (I Q s7) (I Q PC)
   go_wp
   generalize hv9:(((((((((x9.setCell ⟨w.heap.size+1+1,0,O⟩ (I Q s0)).setCell ⟨w.heap.size+1+1,1,O⟩ (I Q s1)).setCell ⟨w.heap.size+1+1,2,O⟩ (I Q s2)).setCell ⟨w.heap.size+1+1,3,O⟩ (I Q s3)).setCell ⟨w.heap.size+1+1,4,O⟩ (I Q s4)).setCell ⟨w.heap.size+1+1,5,O⟩ (I Q s5)).setCell ⟨w.heap.size+1+1,6,O⟩ (I Q s6)).setCell ⟨w.heap.size+1+1,7,O⟩ (I Q s7)).setCell ⟨w.heap.size+1+1,8,O⟩ (I Q PC))=v9
   replace hv9:gu x9 (w.heap.size+1+1) (I Q s0) (I Q s1) (I Q s2) (I Q s3) (I Q s4) (I Q s5) (I Q s6) (I Q s7) (I Q PC)=v9:=hv9
   rw[hv9] at h9 b9
   obtain⟨y0,y1,y2,y3,y4,y5,y6,y7,y8⟩:=Rb.cells (r0:=s0) (r1:=s1) (r2:=s2) (r3:=s3) (r4:=s4) (r5:=s5) (r6:=s6) (r7:=s7) (pc:=PC) h9
   exact bodyPost_ret (v:=.agg #[I Q s0,I Q s1,I Q s2,I Q s3,I Q s4,I Q s5,I Q s6,I Q s7,I Q PC]) (by simp[results,Tryz.results119,go_sem,y0,y1,y2,y3,y4,y5,y6,y7,y8]) rfl ⟨by rw[HX.out];rfl,b9⟩
