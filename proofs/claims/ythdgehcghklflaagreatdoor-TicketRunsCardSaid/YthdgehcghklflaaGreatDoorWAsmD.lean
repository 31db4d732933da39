import Derived.Test.YthdgehcghklflaaGreatDoorWPrgM
import Derived.Test.YthdgehcghklflaaGreatDoorWRecs
import Derived.Test.YthdgehcghklflaaGreatDoorWAsmB
import Derived.Test.YthdgehcghklflaaGreatDoorWAsmC
import Derived.Test.YthdgehcghklflaaGreatDoorWCoreU
import Derived.Test.YthdgehcghklflaaGreatDoorWCoreV
import Derived.Test.YthdgehcghklflaaGreatDoorWInstA
import Derived.Test.YthdgehcghklflaaGreatDoorWMem
import Derived.Test.YthdgehcghklflaaGreatDoorWAsmM
import Derived.Test.YthdgehcghklflaaGreatDoorWPoolRefE
import Derived.Test.YthdgehcghklflaaGreatDoorWPool
import Derived.Test.YthdgehcghklflaaGreatDoorWArR
import Derived.ProofKit
import Derived.OpenShut
import Derived.Deep.Fields
import Derived.Lib.SmallJoins
import Derived.Deep.Slices
import Derived.ChangeSame
import Derived.ChangeArms
import Derived.DataReads
import Derived.BigQuiet
import Derived.Deep.CutBlock
import Derived.Deep.QuietTactic
set_option linter.unusedVariables false
set_option maxHeartbeats 4000000
set_option maxRecDepth 100000
open Go.Value renaming int->I,slice->G,pointer->F
open Go.IntKind renaming i64->Q,u32->O
open Option renaming none->Z,some->T
open Bool renaming false->K,true->J
open Go.Obj renaming cells->C
open Go.Lib renaming hid->Za
open Go.RowKit.Below renaming refl->Zb
open Nat renaming le_refl->Zc
namespace Go.Proofs.YthdgehcghklflaaGreatDoor
section
open Go.ChangeShapes Go.WideShapes Go.ChangeAt Go.RowKit Go.Shelf
theorem Ax (t:List UInt8):p7 (t++[58])=cj t:=by
 unfold p7
 simp
theorem CG {s:List UInt8}(h:∀ t,s≠t++[58]):p7 s=K:=by
 rw[Bool.eq_false_iff]
 intro e
 unfold p7 at e
 simp only[Bool.and_eq_true,decide_eq_true_eq,Bool.not_eq_true',List.isEmpty_eq_false_iff] at e
 obtain⟨h1,h2,_⟩:=e
 refine h s.dropLast ?_
 have:=List.dropLast_concat_getLast h1
 have h3:(s.dropLast++[s.getLast h1]).getLastD 0=58:=by rw[this];exact h2
 simp at h3
 rw[h3] at this
 exact this.symm
def gW (s:List UInt8)(n:Int)(ls:List (List UInt8×Int))(rs:List Rw):Int×List (List UInt8×Int)×List Rw:=
 if p7 s=J then (if fy ls s.dropLast=J then (2,ls,rs) else (0,ls++[(s.dropLast,(rs.length:Int))],rs))
 else match dX s with
  | none=>(8,ls,rs)
  | some (i,nm)=>if 64<=rs.length then (9,ls,rs) else (0,ls,rs++[(i,nm,n)])
section
variable {w:World}{p m lo:Nat}{ls:List (List UInt8×Int)}{rs:List Rw}
theorem A8 (h:Dr w p m lo ls rs)(s:List UInt8)(hs:∀ t,s≠t++[10])(hl:s.length<100000)(n:Int):
 Calls Tryz.prog 60 #[F (T ⟨p,0,Z⟩),I Q n,bs s] w fun e w'=>e=.returned (I Q 8)/\w=w':=by
 have HC:=Za (fun W=>Df s [10] (by omega) W)
 rw[(pR hs).1,(pR hs).2] at HC
 unfold bs
 go_enter Tryz.func60,Tryz.ntmps60
 go_wp2_with fail
 refine(HC.out _).mono ?_
 rintro e w' ⟨rfl,rfl⟩
 unfold bs
 go_wp2
 go_ret
 exact⟨rfl,rfl⟩
def pO (w:World)(p m lo:Nat)(q:Int×List (List UInt8×Int)×List Rw)(e:Ending)(w':World):Prop:=e=.returned (I Q q.1)/\Dr w' p m lo q.2.1 q.2.2/\ab w w' (wP p m lo)
theorem Ek (h:Dr w p m lo ls rs)(hlo:lo<=w.heap.size)(L:Lb w)(s:List UInt8)(hl:s.length<90000)(n:Int)(hls:ls.length<1000000)(hrs:rs.length<=64):
 Calls Tryz.prog 60 #[F (T ⟨p,0,Z⟩),I Q n,bs (s++[10])] w (pO w p m lo (gW s n ls rs)):=by
 have HC:=Za (fun W=>Df (s++[10]) [10] (by simp;omega) W)
 rw[(lE s 10).1,(lE s 10).2] at HC
 have HK:=Za (fun W=>Df s [58] (by omega) W)
 have HI:=Za (fun W LW=>A4 s (by omega) W LW)
 have HB:Hid (∀ W,Below w.heap.size w W->Dr W p m lo ls rs/\ab w W (wP p m lo)):=Za fun W hW=>⟨h.within (av hW) (by simp) (by simp) (by simp),(av hW).wide (by simp)⟩
 have HLB:=Za (fun W (hW:Below w.heap.size w W)=>L.below hW)
 rcases Cf s 58 with ⟨nm,hnm⟩ | hno
 case' inl=>
  have e1:=(lE nm 58).1
  have e2:=(lE nm 58).2
  rw[<-hnm] at e1 e2
  rw[e1,e2] at HK
  have HN:=Za (fun W=>uq nm W)
  have hlb:p7 s=cj nm:=by rw[hnm];exact Ax nm
  have lw:s.dropLast=nm:=by rw[hnm];simp
  have HD:=Za lw
  have hnl:nm.length<=1000000:=by rw[hnm] at hl;simp at hl;omega
  clear e1 e2 lw
  clear hnm
  unfold bs
  go_enter Tryz.func60,Tryz.ntmps60
  go_wp2_with fail
  refine(HC.out _).mono ?_
  rintro e w' ⟨rfl,rfl⟩
  unfold bs
  go_wp2_with fail
  refine(HK.out _).mono ?_
  rintro e w' ⟨rfl,rfl⟩
  unfold bs
  go_wp2_with fail
  refine(HN.out _).mono ?_
  rintro e x ⟨rfl,bb⟩
  rcases hq:cj nm
  case' true=>
   rw[hq] at hlb
   have HLBL:=Za hlb
   clear HI HC HK HN hq hlb
   obtain⟨hD,hW⟩:=HB.out x bb
   rcases hk:fy ls nm
   ·have HA:=Za (vY hD nm hnl hls hrs hk)
    go_wp2_with fail
    refine HA.out.mono ?_
    rintro e y ⟨rfl,hD2,hW2⟩
    go_wp2
    go_ret
    have:gW s n ls rs=(0,ls++[(nm,(rs.length:Int))],rs):=by
     unfold gW
     rw[if_pos HLBL.out,HD.out,if_neg (by rw[hk];simp)]
    unfold pO
    rw[this]
    exact⟨rfl,hD2,hW.bz hW2 fun i hi=>.inl hi⟩
   ·have HA:=Za (qt hD nm hnl hk)
    go_wp2_with fail
    refine HA.out.mono ?_
    rintro e y ⟨rfl,rfl⟩
    go_wp2
    go_ret
    have:gW s n ls rs=(2,ls,rs):=by
     unfold gW
     rw[if_pos HLBL.out,HD.out,if_pos hk]
    unfold pO
    rw[this]
    exact⟨rfl,hD,hW⟩
  case' false=>
   rw[hq] at hlb
   have HLBL:=Za hlb
   clear HC HK HN hq hlb HD
   go_wp2_with fail
 case' inr=>
  rw[(pR hno).1,(pR hno).2] at HK
  have HLBL:=Za (CG hno)
  clear hno
  unfold bs
  go_enter Tryz.func60,Tryz.ntmps60
  go_wp2_with fail
  refine(HC.out _).mono ?_
  rintro e w' ⟨rfl,rfl⟩
  unfold bs
  go_wp2_with fail
  refine(HK.out _).mono ?_
  rintro e w' ⟨rfl,rfl⟩
  unfold bs
  have bb:=Zb w.heap.size w
  clear HC HK
  go_wp2_with fail
 all_goals (
  refine(HI.out _ (HLB.out _ bb)).mono ?_
  rintro e y ⟨rfl,hby⟩
  replace bb:=bb.trans (hby.mono bb.size)
  clear hby HI
  rcases hq:dX s with _ | ⟨⟨op,d,s',t,u,a,k,pl⟩,nm2⟩
  ·have e:gE s=.tuple #[.agg #[I Q 0,I Q 0,I Q 0,I Q 0,I Q 0,I Q 0,I O 0,I Q 0],.string ⟨#[]⟩,.bool K]:=by unfold gE;rw[hq];rfl
   have ea:gW s n ls rs=(8,ls,rs):=by unfold gW;rw[if_neg (by rw[HLBL.out];simp),hq]
   have EA:=Za ea
   rw[e]
   clear e hq HLBL ea
   go_wp2
   go_ret
   unfold pO
   rw[EA.out]
   exact⟨rfl,HB.out _ (bb.alloc bb.size _)⟩
  ·have e:gE s=.tuple #[.agg #[I Q op,I Q d,I Q s',I Q t,I Q u,I Q a,I O k,I Q pl],.string ⟨nm2.toArray⟩,.bool J]:=by unfold gE;rw[hq];rfl
   have ea:gW s n ls rs=if 64<=rs.length then (9,ls,rs) else (0,ls,rs++[(⟨op,d,s',t,u,a,k,pl⟩,nm2,n)]):=by unfold gW;rw[if_neg (by rw[HLBL.out];simp),hq]
   have EA:=Za ea
   rw[e]
   clear e hq HLBL ea
   go_upto_region 8 with fail
   have m2:=Ib.made y op d s' t u a k pl
   replace bb:=bb.alloc (o:=C #[I Q op,I Q d,I Q s',I Q t,I Q u,I Q a,I O k,I Q pl] 119) bb.size
   generalize y.heap.size=g at *
   generalize y.alloc (C #[I Q op,I Q d,I Q s',I Q t,I Q u,I Q a,I O k,I Q pl] 119)=x3 at *
   obtain⟨c0,c1,c2,c3,c4,c5,c6,c7⟩:=m2.cells
   simp only at c0 c1 c2 c3 c4 c5 c6 c7
   obtain⟨hD,hW⟩:=HB.out x3 bb
   go_wp2_with fail
   by_cases h64:rs.length<64
   ·refine(A7 hD h64 (Nat.le_trans hlo bb.size) (⟨op,d,s',t,u,a,k,pl⟩,nm2,n)).mono ?_
    rintro e z ⟨rfl,hD2,hW2⟩
    go_wp2
    go_ret
    unfold pO
    rw[EA.out,if_neg (by omega)]
    exact⟨rfl,hD2,hW.bz hW2 fun i hi=>.inl hi⟩
   ·refine(vX hD (by omega) (⟨op,d,s',t,u,a,k,pl⟩,nm2,n)).mono ?_
    rintro e z ⟨rfl,hz⟩
    go_wp2
    go_ret
    unfold pO
    rw[EA.out,if_pos (by omega)]
    exact⟨rfl,HB.out _ (bb.trans (hz.mono bb.size))⟩)
end
end
section
open Go.Joins Go.ChangeShapes Go.WideShapes Go.ChangeAt Go.RowKit Go.Deep
theorem own:ownKnob Tryz.prog.godebug=Z:=by kernel_rfl
theorem pD:laidOutB Tryz.prog=J:=by kernel_rfl
theorem uH (a:Int)(d:Nat)(w:World):(Op.equalIn (d+1) 3 (I Q a) (I Q a)).run Tryz.prog w=.ok J w:=by
 simp[Op.equalIn,run_underlying Tryz.underlying3]
theorem xO:(Tryz.prog.info? 3).isSome=J:=by kernel_rfl
theorem uG (x0 x1 x2 x3 x4 x5 x6 x7:Int)(d:Nat)(w:World):(Op.equalIn (d+1+1) 110 (.agg #[I Q x0,I Q x1,I Q x2,I Q x3,I Q x4,I Q x5,I Q x6,I Q x7]) (.agg #[I Q x0,I Q x1,I Q x2,I Q x3,I Q x4,I Q x5,I Q x6,I Q x7])).run Tryz.prog w=.ok J w:=by
 obtain⟨i,hi⟩:=Option.isSome_iff_exists.1 xO
 have hc:Tryz.prog.cellsOf 3=1:=by kernel_rfl
 rw[run_equalIn_array w (d+1) _ _ Tryz.underlying110 hi,hc,show List.range 8=[0,1,2,3,4,5,6,7] from rfl]
 simp[Op.eqItems,part,uH]
theorem A6 (c:fC)(v:Value)(xs:List Int)(pc:Int)(self:Int)(unl:Bool)(w:World)(hv:Pv w v c)(hl:c.l.length<=64)(hi:∀ i∈c.l,Bm i)(hx:bg xs)(h0:0<=self)(h1:self<4294967296):
 Calls Tryz.prog 46 #[cv xs pc,v,I Q self,.bool unl] w (zE w (fK self c.l 256 xs (if unl then c.un else c.lo) [])):=by
 have HE:=Za (fT hi h0 h1 256 xs (if unl then c.un else c.lo) [] hx)
 obtain⟨RR,hRR⟩:∃ R,R=fK self c.l 256 xs (if unl then c.un else c.lo) []:=⟨_,rfl⟩
 have HRun:Hid (∀ W v,Pv W v c->Calls Tryz.prog 50 #[cv xs (if unl then c.un else c.lo),v,I Q self] W (zE W RR)):=Za fun W v h=>by rw[hRR];exact BL c v xs _ self W h hl hi hx h0 h1
 rw[<-hRR] at HE ⊢
 clear hRR
 obtain⟨a,ca,rfl,hc1,hc2,hcn,ha⟩:=hv
 obtain⟨r0,r1,r2,r3,r4,r5,r6,r7,rfl⟩:=aC hx.1
 have q0:Cb (((w.alloc (C #[I O r0,I O r1,I O r2,I O r3,I O r4,I O r5,I O r6,I O r7,I Q pc] 108)).alloc (C #[G a c.l.length ca,I Q c.lo,I Q c.un] 25)).alloc (C #[I O 0,I O 0,I O 0,I O 0,I O 0,I O 0,I O 0,I O 0,I Q 0] 108)) w.heap.size [r0,r1,r2,r3,r4,r5,r6,r7] pc:=((Cb.made w [r0,r1,r2,r3,r4,r5,r6,r7] pc).alloc (C #[G a c.l.length ca,I Q c.lo,I Q c.un] 25)).alloc (C #[I O 0,I O 0,I O 0,I O 0,I O 0,I O 0,I O 0,I O 0,I Q 0] 108)
 have q1:Bk (((w.alloc (C #[I O r0,I O r1,I O r2,I O r3,I O r4,I O r5,I O r6,I O r7,I Q pc] 108)).alloc (C #[G a c.l.length ca,I Q c.lo,I Q c.un] 25)).alloc (C #[I O 0,I O 0,I O 0,I O 0,I O 0,I O 0,I O 0,I O 0,I Q 0] 108)) (w.heap.size+1) 25 #[G a c.l.length ca,I Q c.lo,I Q c.un]:=by
  have:=Bk.alloc (Bk.made (w.alloc (C #[I O r0,I O r1,I O r2,I O r3,I O r4,I O r5,I O r6,I O r7,I Q pc] 108)) 25 #[G a c.l.length ca,I Q c.lo,I Q c.un]) (C #[I O 0,I O 0,I O 0,I O 0,I O 0,I O 0,I O 0,I O 0,I Q 0] 108)
  rw[World.size_alloc] at this
  exact this
 have q2:Cb (((w.alloc (C #[I O r0,I O r1,I O r2,I O r3,I O r4,I O r5,I O r6,I O r7,I Q pc] 108)).alloc (C #[G a c.l.length ca,I Q c.lo,I Q c.un] 25)).alloc (C #[I O 0,I O 0,I O 0,I O 0,I O 0,I O 0,I O 0,I O 0,I Q 0] 108)) (w.heap.size+1+1) [0,0,0,0,0,0,0,0] 0:=by
  have:=Cb.made ((w.alloc (C #[I O r0,I O r1,I O r2,I O r3,I O r4,I O r5,I O r6,I O r7,I Q pc] 108)).alloc (C #[G a c.l.length ca,I Q c.lo,I Q c.un] 25)) [0,0,0,0,0,0,0,0] 0
  rw[World.size_alloc,World.size_alloc] at this
  exact this
 have b0:Below w.heap.size w (((w.alloc (C #[I O r0,I O r1,I O r2,I O r3,I O r4,I O r5,I O r6,I O r7,I Q pc] 108)).alloc (C #[G a c.l.length ca,I Q c.lo,I Q c.un] 25)).alloc (C #[I O 0,I O 0,I O 0,I O 0,I O 0,I O 0,I O 0,I O 0,I Q 0] 108)):=(((Zb _ _).alloc (Zc _) _).alloc (by simp) _).alloc (by simp;omega) _
 unfold zE dF cv at *
 simp only[bQ,List.map_cons,List.map_nil,List.cons_append,List.nil_append] at HRun ⊢
 go_enter Tryz.func46,Tryz.ntmps46
 go_upto_region 1 with fail
 generalize ((w.alloc (C #[I O r0,I O r1,I O r2,I O r3,I O r4,I O r5,I O r6,I O r7,I Q pc] 108)).alloc (C #[G a c.l.length ca,I Q c.lo,I Q c.un] 25)).alloc (C #[I O 0,I O 0,I O 0,I O 0,I O 0,I O 0,I O 0,I O 0,I Q 0] 108)=x at *
 obtain⟨c0,c1,c2,c3,c4,c5,c6,c7,c8⟩:=q0.cells
 obtain⟨k0,k1,k2⟩:=q1.kX
 have zf:=Bk.free q0
 go_upto_region 2 with fail
 have p0:Cb (x.setCell ⟨w.heap.size,8,Z⟩ (I Q c.lo)) w.heap.size [r0,r1,r2,r3,r4,r5,r6,r7] c.lo:=Bk.put q0 8 (I Q c.lo)
 have p1:=Bk.off q1 (p:=⟨w.heap.size,8,Z⟩) (by show w.heap.size+1≠w.heap.size;omega) (I Q c.lo)
 have p2:Cb (x.setCell ⟨w.heap.size,8,Z⟩ (I Q c.lo)) _ _ _:=Bk.off q2 (p:=⟨w.heap.size,8,Z⟩) (by show w.heap.size+1+1≠w.heap.size;omega) (I Q c.lo)
 have b1:=b0.setCell (p:=⟨w.heap.size,8,Z⟩) (Zc _) (I Q c.lo)
 clear q0 q1 q2 b0 c0 c1 c2 c3 c4 c5 c6 c7 c8 k0 k1 k2 zf
 generalize x.setCell ⟨w.heap.size,8,Z⟩ (I Q c.lo)=y at *
 obtain⟨c0,c1,c2,c3,c4,c5,c6,c7,c8⟩:=p0.cells
 obtain⟨k0,k1,k2⟩:=p1.kX
 cases unl
 ·simp only[Bool.false_eq_true,if_false] at HRun
  go_upto_region 4 with fail
  have hPv:Pv y (.agg #[G a c.l.length ca,I Q c.lo,I Q c.un]) c:=⟨a,ca,rfl,hc1,hc2,hcn,ha.below b1⟩
  replace HRun:=Za (HRun.out y _ hPv)
  clear hPv
  go_wp2_with fail
  refine HRun.out.mono ?_
  rintro e z ⟨m,rfl,hml,hz⟩
  clear c0 c1 c2 c3 c4 c5 c6 c7 c8 k0 k1 k2 HRun
  have hR:jR w a c.l.length ca c.lo c.un m [r0,r1,r2,r3,r4,r5,r6,r7] c.lo RR.ms z:=⟨b1.trans (hz.mono b1.size),p0.below hz,(hz.block _ p1.lt).trans p1,p2.below hz,hml.1,fun g e=>Nat.le_trans b1.size (hml.2 g e)⟩
  clear p0 p1 p2 b1 hz hml
  obtain⟨s0,s1,s2,s3,s4,s5,s6,s7,hs⟩:=aC HE.out.1
  have HX:=Za hs
  rw[hs]
  clear hs
  simp only[List.map_cons,List.map_nil,List.cons_append,List.nil_append]
  obtain⟨n0,n1,n2,n3,n4,n5,n6,n7,n8⟩:=hR.r.cells
  have zf:=Bk.free hR.r
  have hf9:=hR.f
  obtain⟨l9,b9,k9⟩:=hR.ret (r0:=s0) (r1:=s1) (r2:=s2) (r3:=s3) (r4:=s4) (r5:=s5) (r6:=s6) (r7:=s7) (pc':=RR.pc)
  go_wp
  generalize hv9:(((((((((z.setCell ⟨w.heap.size+1+1,0,Z⟩ (I O s0)).setCell ⟨w.heap.size+1+1,1,Z⟩ (I O s1)).setCell ⟨w.heap.size+1+1,2,Z⟩ (I O s2)).setCell ⟨w.heap.size+1+1,3,Z⟩ (I O s3)).setCell ⟨w.heap.size+1+1,4,Z⟩ (I O s4)).setCell ⟨w.heap.size+1+1,5,Z⟩ (I O s5)).setCell ⟨w.heap.size+1+1,6,Z⟩ (I O s6)).setCell ⟨w.heap.size+1+1,7,Z⟩ (I O s7)).setCell ⟨w.heap.size+1+1,8,Z⟩ (I Q RR.pc))=v9
  replace hv9:bm z (w.heap.size+1+1) (I O s0) (I O s1) (I O s2) (I O s3) (I O s4) (I O s5) (I O s6) (I O s7) (I Q RR.pc)=v9:=hv9
  rw[hv9] at l9 b9 k9
  obtain⟨y0,y1,y2,y3,y4,y5,y6,y7,y8⟩:=k9.cells
  exact bodyPost_ret (v:=.tuple #[.agg #[I O s0,I O s1,I O s2,I O s3,I O s4,I O s5,I O s6,I O s7,I Q RR.pc],m,I Q RR.done,I Q RR.e]) (by simp[results,Tryz.results46,go_sem,y0,y1,y2,y3,y4,y5,y6,y7,y8]) rfl ⟨m,by rw[HX.out];rfl,⟨l9,hf9⟩,b9⟩
 ·simp only[if_true] at HRun
  have zf:=Bk.free p0
  go_upto_region 4 with fail
  have o0:Cb (y.setCell ⟨w.heap.size,8,Z⟩ (I Q c.un)) w.heap.size [r0,r1,r2,r3,r4,r5,r6,r7] c.un:=Bk.put p0 8 (I Q c.un)
  have o1:=Bk.off p1 (p:=⟨w.heap.size,8,Z⟩) (by show w.heap.size+1≠w.heap.size;omega) (I Q c.un)
  have o2:Cb (y.setCell ⟨w.heap.size,8,Z⟩ (I Q c.un)) _ _ _:=Bk.off p2 (p:=⟨w.heap.size,8,Z⟩) (by show w.heap.size+1+1≠w.heap.size;omega) (I Q c.un)
  have o3:=b1.setCell (p:=⟨w.heap.size,8,Z⟩) (Zc _) (I Q c.un)
  clear p0 p1 p2 b1 c0 c1 c2 c3 c4 c5 c6 c7 c8 k0 k1 k2 zf
  have p0:=o0
  have p1:=o1
  have p2:=o2
  have b1:=o3
  clear o0 o1 o2 o3
  generalize y.setCell ⟨w.heap.size,8,Z⟩ (I Q c.un)=y at *
  obtain⟨c0,c1,c2,c3,c4,c5,c6,c7,c8⟩:=p0.cells
  obtain⟨k0,k1,k2⟩:=p1.kX
  have hPv:Pv y (.agg #[G a c.l.length ca,I Q c.lo,I Q c.un]) c:=⟨a,ca,rfl,hc1,hc2,hcn,ha.below b1⟩
  replace HRun:=Za (HRun.out y _ hPv)
  clear hPv
  go_wp2_with fail
  refine HRun.out.mono ?_
  rintro e z ⟨m,rfl,hml,hz⟩
  clear c0 c1 c2 c3 c4 c5 c6 c7 c8 k0 k1 k2 HRun
  have hR:jR w a c.l.length ca c.lo c.un m [r0,r1,r2,r3,r4,r5,r6,r7] c.un RR.ms z:=⟨b1.trans (hz.mono b1.size),p0.below hz,(hz.block _ p1.lt).trans p1,p2.below hz,hml.1,fun g e=>Nat.le_trans b1.size (hml.2 g e)⟩
  clear p0 p1 p2 b1 hz hml
  obtain⟨s0,s1,s2,s3,s4,s5,s6,s7,hs⟩:=aC HE.out.1
  have HX:=Za hs
  rw[hs]
  clear hs
  simp only[List.map_cons,List.map_nil,List.cons_append,List.nil_append]
  obtain⟨n0,n1,n2,n3,n4,n5,n6,n7,n8⟩:=hR.r.cells
  have zf:=Bk.free hR.r
  have hf9:=hR.f
  obtain⟨l9,b9,k9⟩:=hR.ret (r0:=s0) (r1:=s1) (r2:=s2) (r3:=s3) (r4:=s4) (r5:=s5) (r6:=s6) (r7:=s7) (pc':=RR.pc)
  go_wp
  generalize hv9:(((((((((z.setCell ⟨w.heap.size+1+1,0,Z⟩ (I O s0)).setCell ⟨w.heap.size+1+1,1,Z⟩ (I O s1)).setCell ⟨w.heap.size+1+1,2,Z⟩ (I O s2)).setCell ⟨w.heap.size+1+1,3,Z⟩ (I O s3)).setCell ⟨w.heap.size+1+1,4,Z⟩ (I O s4)).setCell ⟨w.heap.size+1+1,5,Z⟩ (I O s5)).setCell ⟨w.heap.size+1+1,6,Z⟩ (I O s6)).setCell ⟨w.heap.size+1+1,7,Z⟩ (I O s7)).setCell ⟨w.heap.size+1+1,8,Z⟩ (I Q RR.pc))=v9
  replace hv9:bm z (w.heap.size+1+1) (I O s0) (I O s1) (I O s2) (I O s3) (I O s4) (I O s5) (I O s6) (I O s7) (I Q RR.pc)=v9:=hv9
  rw[hv9] at l9 b9 k9
  obtain⟨y0,y1,y2,y3,y4,y5,y6,y7,y8⟩:=k9.cells
  exact bodyPost_ret (v:=.tuple #[.agg #[I O s0,I O s1,I O s2,I O s3,I O s4,I O s5,I O s6,I O s7,I Q RR.pc],m,I Q RR.done,I Q RR.e]) (by simp[results,Tryz.results46,go_sem,y0,y1,y2,y3,y4,y5,y6,y7,y8]) rfl ⟨m,by rw[HX.out];rfl,⟨l9,hf9⟩,b9⟩
theorem iy {W:World}{m:Value}{ms:List Int}{g:Nat}{ty:TypeId}{cs:Array Value}(hl:eG .i64 3 W m ms)(hk:Bk W g ty cs)(ht:ty≠3)(a b c d e f h i j:Value):eG .i64 3 (bm W g a b c d e f h i j) m ms:=by
 have hW:ab W (bm W g a b c d e f h i j) (fun x=>x=g):=by
  unfold bm
  exact(((((((((ab.refl W (fun b=>b=g)).put _ 0 _ (.inl rfl)).put _ 1 _ (.inl rfl)).put _ 2 _ (.inl rfl)).put _ 3 _ (.inl rfl)).put _ 4 _ (.inl rfl)).put _ 5 _ (.inl rfl)).put _ 6 _ (.inl rfl)).put _ 7 _ (.inl rfl)).put _ 8 _ (.inl rfl)
 refine hl.within hW fun x ex e2=>?_
 obtain⟨Fo,hcs⟩:=hl.bk ex
 exact Bk.aj hcs hk (fun e=>ht e.symm) e2
def ll (v0:Value)(ms:List Int)(D E:Int)(v:Value)(W:World):Prop:=∃ m,v=.tuple #[v0,m,I Q D,I Q E]/\eG .i64 3 W m ms
theorem ll.below {v0:Value}{ms:List Int}{D E:Int}{v:Value}{W W':World}(h:ll v0 ms D E v W)(hb:Below W.heap.size W W'):ll v0 ms D E v W':=by
 obtain⟨m,e,h⟩:=h
 exact⟨m,e,fO h hb⟩
theorem eB {B:Nat}{W W':World}{m:Value}{ms:List Int}(h:dF B W m ms)(hb:Below W.heap.size W W'):dF B W' m ms:=⟨fO h.1 hb,h.2⟩
theorem iD {B:Nat}{W:World}{m:Value}{ms:List Int}{g:Nat}{ty:TypeId}{cs:Array Value}(hl:dF B W m ms)(hk:Bk W g ty cs)(ht:ty≠3)(a b c d e f h i j:Value):dF B (bm W g a b c d e f h i j) m ms:=⟨iy hl.1 hk ht a b c d e f h i j,hl.2⟩
def gz (B:Nat)(v0:Value)(ms:List Int)(D E:Int)(v:Value)(W:World):Prop:=∃ m,v=.tuple #[v0,m,I Q D,I Q E]/\dF B W m ms
theorem gz.below {B:Nat}{v0:Value}{ms:List Int}{D E:Int}{v:Value}{W W':World}(h:gz B v0 ms D E v W)(hb:Below W.heap.size W W'):gz B v0 ms D E v W':=by
 obtain⟨m,e,h⟩:=h
 exact⟨m,e,eB h hb⟩
end
section
open Go.ChangeShapes Go.WideShapes Go.ChangeAt Go.RowKit
section
variable {w wr w2:World}{p x n each each' c:Nat}{M M2:PM}{R R2:RM}{free:Nat->List Nat}{gen out:List Int}{fr:Nat->List Int}{os:Int->Bool}{hv:Value}{had:List Int}
theorem Rf.bk (h:Rf w x n each R free gen out){i:Nat}(k:R.Has n i):∃ t cs,Bk w i t cs/\(t=26\/t=3):=by
 rcases k with e | e | e | ⟨s,hs,e⟩
 ·obtain⟨cs,hc⟩:=h.row.bk e;exact⟨_,cs,hc,.inl rfl⟩
 ·obtain⟨cs,hc⟩:=h.gens.bk e;exact⟨_,cs,hc,.inr rfl⟩
 ·obtain⟨cs,hc⟩:=h.outs.bk e;exact⟨_,cs,hc,.inr rfl⟩
 ·obtain⟨cs,hc⟩:=(h.frees s hs).bk e;exact⟨_,cs,hc,.inr rfl⟩
theorem Rf.dN (h:Rf w x n each R free gen out){q:Nat}{t:TypeId}{cs:Array Value}(k:Bk w q t cs)(h1:t≠26)(h2:t≠3):¬ R.Has n q:=fun e=>by
 obtain⟨t',cs',hc,ht⟩:=h.bk e
 have:t=t':=by unfold Bk at k hc;rw[k] at hc;injection hc with hc;injection hc
 subst this
 rcases ht with e | e
 ·exact h1 e
 ·exact h2 e
theorem Pl.off (hp:Pl w p n each M fr os c)(hr:Rf w x n each' R free gen out){i:Nat}(k:M.Has n i):¬ R.Has n i:=fun e=>by
 obtain⟨t,cs,hc,ht⟩:=hr.bk e
 rcases ht with rfl|rfl
 ·exact hp.dN hc (by decide) (by decide) k
 ·exact hp.dN hc (by decide) (by decide) k
end
def tz:List Value->Nat->List Value->List Value
 | xs,_,[]=>xs
 | xs,o,v :: vs=>tz (xs.set o v) (o+1) vs
def gU (y:World)(g:Nat):Nat->List Value->World
 | _,[]=>y
 | o,v :: vs=>gU (y.setCell ⟨g,o,Z⟩ v) g (o+1) vs
theorem pu:∀ (vs xs:List Value) (o i:Nat),o+vs.length<=xs.length->(tz xs o vs)[i]?=if o<=i/\i<o+vs.length then vs[i-o]? else xs[i]?
 | [],xs,o,i,_=>by rw[tz,if_neg (by simp)]
 | v :: vs,xs,o,i,h=>by
  simp only[List.length_cons] at h
  rw[tz,pu vs _ _ _ (by rw[List.length_set];omega),List.length_cons]
  by_cases e:i=o
  ·subst e
   rw[if_neg (by omega),if_pos (by omega),List.getElem?_set_self (by omega),Nat.sub_self]
   rfl
  ·rw[List.getElem?_set_ne (fun e'=>e e'.symm)]
   by_cases hi:o<=i/\i<o+(vs.length+1)
   ·rw[if_pos (by omega),if_pos hi,show i-o=(i-(o+1))+1 by omega]
    rfl
   ·rw[if_neg (by omega),if_neg hi]
theorem tU {g:Nat}{t:TypeId}:∀ (vs cs:List Value) (o:Nat) (y:World),Bk y g t cs.toArray->Bk (gU y g o vs) g t (tz cs o vs).toArray
 | [],cs,o,y,h=>h
 | v :: vs,cs,o,y,h=>by
  have h2:=h.put o v
  rw[List.setIfInBounds_toArray] at h2
  exact tU vs _ (o+1) _ h2
theorem eF {g:Nat}:∀ (vs:List Value) (o:Nat) (y:World),fE y (gU y g o vs) g
 | [],o,y=>df y _
 | v :: vs,o,y=>aQ (dt y g o v) (eF vs (o+1) _) (.inl rfl)
theorem nj {xs:List Int}{pc:Int}(h:xs.length=8):(bQ xs pc).length=9:=by simp[bQ,h]
def eS (cs:Nat->kF)(n:Nat):List Value:=(List.range n).flatMap fun t=>bQ (cs t).xs (cs t).pc
theorem nd {α:Type}(f:α->List Value)(n:Nat):∀ (l:List α),(∀ x∈l,(f x).length=n)->(l.flatMap f).length=l.length*n
 | [],_=>by simp
 | x :: l,h=>by
  rw[List.flatMap_cons,List.length_append,h x (by simp),nd f n l (fun y hy=>h y (by simp[hy])),List.length_cons,Nat.add_mul]
  omega
theorem nf {α:Type}(f:α->List Value)(n:Nat):∀ (l:List α),(∀ x∈l,(f x).length=n)->∀ (k j:Nat) (x:α),l[k]?=T x->j<n->(l.flatMap f)[k*n+j]?=(f x)[j]?
 | [],_,k,j,x,h,_=>by simp at h
 | y :: l,hf,0,j,x,h,hj=>by
  simp at h
  subst h
  simp[List.getElem?_append,hf,hj]
 | y :: l,hf,k+1,j,x,h,hj=>by
  have ih:=nf f n l (fun z hz=>hf z (by simp[hz])) k j x (by simpa using h) hj
  rw[<-ih,List.flatMap_cons,show (k+1)*n+j=n+(k*n+j) by rw[Nat.add_mul];omega,List.getElem?_append_right (by rw[hf y (by simp)];omega),hf y (by simp)]
  congr 1
  omega
section
variable {cs:Nat->kF}{n:Nat}
theorem fW (h:∀ t,t<n->bg (cs t).xs):(eS cs n).length=n*9:=by
 unfold eS
 rw[nd _ 9 _ (fun t ht=>nj (h t (List.mem_range.1 ht)).1),List.length_range]
theorem fP (h:∀ t,t<n->bg (cs t).xs){t j:Nat}(ht:t<n)(hj:j<9):(eS cs n)[t*9+j]?=(bQ (cs t).xs (cs t).pc)[j]?:=
 nf _ 9 _ (fun t ht=>nj (h t (List.mem_range.1 ht)).1) t j t (by simp[ht]) hj
theorem s9 (h:∀ t,t<n->bg (cs t).xs){t:Nat}(ht:t<n){c:kF}(hc:bg c.xs):tz (eS cs n) (t*9) (bQ c.xs c.pc)=eS (eO cs t c) n:=by
 have h2:=eT (n:=n) h hc t
 apply List.ext_getElem?
 intro i
 have hl:=fW h
 have hl2:=fW h2
 have hcl:=nj (pc:=c.pc) hc.1
 have hle:t*9+9<=n*9:=by omega
 rw[pu _ _ _ _ (by rw[hcl,hl];exact hle),hcl]
 by_cases hi:i<n*9
 ·obtain⟨s,j,hs,hj,rfl⟩:∃ s j,s<n/\j<9/\i=s*9+j:=⟨i / 9,i % 9,by omega,by omega,by omega⟩
  rw[fP h2 hs hj,fP h hs hj]
  by_cases e:s=t
  ·subst e
   rw[if_pos (by omega),jX,show s*9+j-s*9=j by omega]
  ·rw[if_neg (by omega),iU e]
 ·rw[if_neg (by omega),List.getElem?_eq_none (by omega),List.getElem?_eq_none (by omega)]
end
theorem Mm.within {w w':World}{p q g s:Nat}{zs xs:List Int}{S:Nat->Prop}(h:Mm w p q g s zs xs)(k:ab w w' S)(h1:¬ S p)(h2:¬ S q)(h3:¬ S g)(h4:¬ S s):Mm w' p q g s zs xs:=
 ⟨h.ptr.within k h1,⟨h.cel.ptr.within k h2,h.cel.row.within k h3,h.cel.rng,h.cel.few⟩,h.row.within k h4,h.right,h.len⟩
def zj (w:World)(p n each:Nat)(M:PM)(pn:Pn):Prop:=∃ fr os c,Pl w p n each M fr os c/\mu n each pn.free pn.gen pn.out fr os c
structure XP where
 x:Nat
 cv:Value
 kb:Nat
 p:Nat
 q:Nat
 g:Nat
 s:Nat
 pp:Nat
 M:PM
def XP.Own (X:XP)(n i:Nat):Prop:=i=X.x\/X.cv.ownBlock=T i\/i=X.kb\/i=X.p\/i=X.q\/i=X.g\/i=X.s\/i=X.pp\/i=X.M.g\/X.M.Has n i
def XP.Has (X:XP)(n i:Nat):Prop:=i=X.kb\/i=X.g\/X.M.Has n i
theorem XP.iN {X:XP}{n i:Nat}(h:X.Has n i):X.Own n i:=by
 rcases h with h | h | h
 ·exact .inr (.inr (.inl h))
 ·exact .inr (.inr (.inr (.inr (.inr (.inl h)))))
 ·exact .inr (.inr (.inr (.inr (.inr (.inr (.inr (.inr (.inr h))))))))
structure Ex (w:World)(X:XP)(k:Lk)(m:Mc):Prop where
 ptr:Bk w X.x 105 #[X.cv,I Q k.lo,I Q k.un,F (T ⟨X.p,0,Z⟩),F (T ⟨X.pp,0,Z⟩),G (T ⟨X.kb,0,Z⟩) k.n k.n]
 code:w.ownsRow 0 119 8 X.cv k.l.length (bH k.l)
 cores:Bk w X.kb 108 (eS m.cs k.n).toArray
 mem:Mm w X.p X.q X.g X.s k.zs m.ws
 d9:zj w X.pp k.n k.each X.M m.pn
 lk:mz k
 mc:EI k m
section
variable {w w':World}{X:XP}{k:Lk}{m:Mc}
theorem Ex.kept {S:Nat->Prop}(h:Ex w X k m)(hw:ab w w' S)(hn:∀ i,X.Own k.n i->¬ S i):Ex w' X k m:=by
 obtain⟨fr,os,c,hp,hs⟩:=h.d9
 unfold XP.Own at hn
 exact⟨h.ptr.within hw (hn _ (.inl rfl)),aq h.code hw (fun g e=>hn g (.inr (.inl e))),h.cores.within hw (hn _ (.inr (.inr (.inl rfl)))),
  h.mem.within hw (hn _ (.inr (.inr (.inr (.inl rfl))))) (hn _ (.inr (.inr (.inr (.inr (.inl rfl)))))) (hn _ (.inr (.inr (.inr (.inr (.inr (.inl rfl))))))) (hn _ (.inr (.inr (.inr (.inr (.inr (.inr (.inl rfl)))))))),
  ⟨fr,os,c,hp.kept hw (hn _ (.inr (.inr (.inr (.inr (.inr (.inr (.inr (.inl rfl))))))))) (hn _ (.inr (.inr (.inr (.inr (.inr (.inr (.inr (.inr (.inl rfl)))))))))) (fun i hi=>hn i (.inr (.inr (.inr (.inr (.inr (.inr (.inr (.inr (.inr hi)))))))))),hs⟩,h.lk,h.mc⟩
theorem Ex.below (h:Ex w X k m)(hb:Below w.heap.size w w'):Ex w' X k m:=h.kept (av hb) (by simp)
theorem Ex.lt (h:Ex w X k m){i:Nat}(hi:X.Own k.n i):i<w.heap.size:=by
 obtain⟨fr,os,c,hp,hs⟩:=h.d9
 rcases hi with rfl | e | rfl|rfl|rfl|rfl|rfl|rfl|rfl | e
 ·exact h.ptr.lt
 ·exact(World.ownsRow.lt h.code i e).2
 ·exact h.cores.lt
 ·exact h.mem.ptr.lt
 ·exact h.mem.cel.ptr.lt
 ·exact h.mem.cel.row.lt
 ·exact h.mem.row.lt
 ·exact hp.Bq
 ·exact hp.Bt
 ·exact hp.lt e
theorem Ex.c0 (h:Ex w X k m):w.cell? ⟨X.x,0,Z⟩=T X.cv:=by rw[h.ptr.cell];rfl
theorem Ex.c1 (h:Ex w X k m):w.cell? ⟨X.x,1,Z⟩=T (I Q k.lo):=by rw[h.ptr.cell];rfl
theorem Ex.c2 (h:Ex w X k m):w.cell? ⟨X.x,2,Z⟩=T (I Q k.un):=by rw[h.ptr.cell];rfl
theorem Ex.c3 (h:Ex w X k m):w.cell? ⟨X.x,3,Z⟩=T (F (T ⟨X.p,0,Z⟩)):=by rw[h.ptr.cell];rfl
theorem Ex.c4 (h:Ex w X k m):w.cell? ⟨X.x,4,Z⟩=T (F (T ⟨X.pp,0,Z⟩)):=by rw[h.ptr.cell];rfl
theorem Ex.c5 (h:Ex w X k m):w.cell? ⟨X.x,5,Z⟩=T (G (T ⟨X.kb,0,Z⟩) k.n k.n):=by rw[h.ptr.cell];rfl
theorem Ex.pv (h:Ex w X k m):Pv w (.agg #[X.cv,I Q k.lo,I Q k.un]) ⟨k.l,k.lo,k.un⟩/\∃ a cap,X.cv=G a k.l.length cap:=by
 obtain⟨a,cap,e,h1,h2,_⟩:=bp h.code
 have ho:=h.code
 rw[e] at ho ⊢
 exact⟨⟨a,cap,rfl,h1,h2,py ho,pt ho⟩,a,cap,rfl⟩
theorem Ex.uo (h:Ex w X k m){t:Nat}(ht:t<k.n){j:Nat}(hj:j<9):w.cell? ⟨X.kb,t*9+j,Z⟩=(bQ (m.cs t).xs (m.cs t).pc)[j]?:=by
 rw[h.cores.cell,List.getElem?_toArray,fP h.mc.cs ht hj]
theorem Ex.core (h:Ex w X k m){t:Nat}(ht:t<k.n){r0 r1 r2 r3 r4 r5 r6 r7 pc:Int}(e:m.cs t=⟨[r0,r1,r2,r3,r4,r5,r6,r7],pc⟩):
 w.cell? ⟨X.kb,t*9,Z⟩=T (I O r0)/\w.cell? ⟨X.kb,t*9+1,Z⟩=T (I O r1)/\w.cell? ⟨X.kb,t*9+2,Z⟩=T (I O r2)/\w.cell? ⟨X.kb,t*9+3,Z⟩=T (I O r3)/\
 w.cell? ⟨X.kb,t*9+4,Z⟩=T (I O r4)/\w.cell? ⟨X.kb,t*9+5,Z⟩=T (I O r5)/\w.cell? ⟨X.kb,t*9+6,Z⟩=T (I O r6)/\w.cell? ⟨X.kb,t*9+7,Z⟩=T (I O r7)/\w.cell? ⟨X.kb,t*9+8,Z⟩=T (I Q pc):=by
 have H:=fun j (hj:j<9)=>h.uo ht hj
 rw[e] at H
 exact⟨H 0 (by omega),H 1 (by omega),H 2 (by omega),H 3 (by omega),H 4 (by omega),H 5 (by omega),H 6 (by omega),H 7 (by omega),H 8 (by omega)⟩
theorem Ex.bB (h:Ex w X k m){t:Nat}(ht:t<k.n):∃ r0 r1 r2 r3 r4 r5 r6 r7 pc,m.cs t=⟨[r0,r1,r2,r3,r4,r5,r6,r7],pc⟩:=by
 obtain⟨r0,r1,r2,r3,r4,r5,r6,r7,e⟩:=aC (h.mc.cs t ht).1
 exact⟨r0,r1,r2,r3,r4,r5,r6,r7,(m.cs t).pc,by rw[<-e]⟩
theorem Ex.free (h:Ex w X k m)(i:Nat):w.frozen? ⟨X.kb,i,Z⟩=K:=h.cores.free i
theorem Ex.put (h:Ex w X k m){t:Nat}(ht:t<k.n){c:kF}(hc:bg c.xs):Ex (gU w X.kb (t*9) (bQ c.xs c.pc)) X k { m with cs:=eO m.cs t c }:=by
 have hW:ab w (gU w X.kb (t*9) (bQ c.xs c.pc)) (fun i=>i=X.kb):=.ay (eF _ _ _) (by rintro i e;injection e with e;exact .inl e.symm)
 obtain⟨fr,os,cn,hp,hs⟩:=h.d9
 have hb:=tU (bQ c.xs c.pc) _ (t*9) _ h.cores
 rw[s9 h.mc.cs ht hc] at hb
 refine⟨h.ptr.within hW (Bk.aj h.ptr h.cores (by decide)),aq h.code hW (fun g e e2=>?_),hb,h.mem.within hW (Bk.aj h.mem.ptr h.cores (by decide)) (Bk.aj h.mem.cel.ptr h.cores (by decide)) (Bk.aj h.mem.cel.row h.cores (by decide)) (Bk.aj h.mem.row h.cores (by decide)),
  ⟨fr,os,cn,hp.kept hW (Bk.aj hp.ptr h.cores (by decide)) (Bk.aj hp.row h.cores (by decide)) (fun i hi e=>hp.dN h.cores (by decide) (by decide) (e ▸ hi)),hs⟩,h.lk,⟨h.mc.ws,h.mc.len,eT h.mc.cs hc t⟩⟩
 obtain⟨cs',hcs⟩:=aZ h.code e
 exact Bk.aj hcs h.cores (by decide) e2
theorem Ex.words (h:Ex w X k m){ys:List Int}(hm:Mm w' X.p X.q X.g X.s k.zs ys)(ho:fE w w' X.g)(hu:fM ys)(hl:ys.length=m.ws.length):Ex w' X k { m with ws:=ys }:=by
 have hW:ab w w' (fun i=>i=X.g):=.ay ho (by rintro i e;injection e with e;exact .inl e.symm)
 obtain⟨fr,os,cn,hp,hs⟩:=h.d9
 have hr:=h.mem.cel.row
 refine⟨h.ptr.within hW (Bk.aj h.ptr hr (by decide)),aq h.code hW (fun g e e2=>?_),h.cores.within hW (Bk.aj h.cores hr (by decide)),hm,
  ⟨fr,os,cn,hp.kept hW (Bk.aj hp.ptr hr (by decide)) (Bk.aj hp.row hr (by decide)) (fun i hi e=>hp.dN hr (by decide) (by decide) (e ▸ hi)),hs⟩,h.lk,⟨hu,hl.trans h.mc.len,h.mc.cs⟩⟩
 obtain⟨cs',hcs⟩:=aZ h.code e
 exact Bk.aj hcs hr (by decide) e2
theorem Ex.nodes (h:Ex w X k m){fr fr':Nat->List Int}{os os':Int->Bool}{c c':Nat}{M':PM}{pn':Pn}(hp:Pl w X.pp k.n k.each X.M fr os c)(hp':Pl w' X.pp k.n k.each M' fr' os' c')(hs:mu k.n k.each pn'.free pn'.gen pn'.out fr' os' c')(hst:ia w k.n X.M w' M'):Ex w' { X with M:=M' } k { m with pn:=pn' }:=by
 have hW:=hst.2.1
 have nh:∀ {q:Nat} {t:TypeId} {cs:Array Value},Bk w q t cs->t≠255->t≠22->¬ X.M.Has k.n q:=fun hb h1 h2=>hp.dN hb h1 h2
 refine⟨h.ptr.within hW (nh h.ptr (by decide) (by decide)),aq h.code hW (fun g e e2=>?_),h.cores.within hW (nh h.cores (by decide) (by decide)),h.mem.within hW (nh h.mem.ptr (by decide) (by decide)) (nh h.mem.cel.ptr (by decide) (by decide)) (nh h.mem.cel.row (by decide) (by decide)) (nh h.mem.row (by decide) (by decide)),
  ⟨fr',os',c',hp',hs⟩,h.lk,⟨h.mc.ws,h.mc.len,h.mc.cs⟩⟩
 obtain⟨cs',hcs⟩:=aZ h.code e
 exact nh hcs (by decide) (by decide) e2
def bh (w:World)(n:Nat)(X:XP)(w':World)(X':XP):Prop:=ab w w' (X.Has n)/\(∀ i,X'.Own n i->X.Own n i\/w.heap.size<=i)/\(∀ i,X'.Has n i->X.Has n i\/w.heap.size<=i)
theorem bh.refl (w:World)(n:Nat)(X:XP):bh w n X w X:=⟨ab.refl _ _,fun _ h=>.inl h,fun _ h=>.inl h⟩
theorem bh.bz {n:Nat}{w'':World}{X' X'':XP}(h:bh w n X w' X')(k:bh w' n X' w'' X''):bh w n X w'' X'':=
 ⟨h.1.bz k.1 h.2.2,fun i hi=>by
  rcases k.2.1 i hi with e | e
  ·exact h.2.1 i e
  ·exact .inr (Nat.le_trans h.1.size e),fun i hi=>by
  rcases k.2.2 i hi with e | e
  ·exact h.2.2 i e
  ·exact .inr (Nat.le_trans h.1.size e)⟩
theorem bh.grown {n:Nat}{X':XP}{w'':World}(h:bh w n X w' X')(k:Below w'.heap.size w' w''):bh w n X w'' X':=
 h.bz ⟨(av k).wide (by simp),fun _ h=>.inl h,fun _ h=>.inl h⟩
theorem bh.ay {n:Nat}(k:Below w.heap.size w w'):bh w n X w' X:=(bh.refl w n X).grown k
theorem bh.put {n t:Nat}{vs:List Value}:bh w n X (gU w X.kb t vs) X:=⟨.ay (eF _ _ _) (by rintro i e;injection e with e;exact .inl (.inl e.symm)),fun _ h=>.inl h,fun _ h=>.inl h⟩
theorem bh.words {n:Nat}(ho:fE w w' X.g):bh w n X w' X:=⟨.ay ho (by rintro i e;injection e with e;exact .inl (.inr (.inl e.symm))),fun _ h=>.inl h,fun _ h=>.inl h⟩
theorem bh.nodes {n:Nat}{M':PM}(hs:ia w n X.M w' M'):bh w n X w' { X with M:=M' }:=by
 refine⟨hs.2.1.wide (fun i e _=>.inr (.inr e)),fun i hi=>?_,fun i hi=>?_⟩
 ·rcases hi with e | e | e | e | e | e | e | e | e | e
  ·exact .inl (.inl e)
  ·exact .inl (.inr (.inl e))
  ·exact .inl (.inr (.inr (.inl e)))
  ·exact .inl (.inr (.inr (.inr (.inl e))))
  ·exact .inl (.inr (.inr (.inr (.inr (.inl e)))))
  ·exact .inl (.inr (.inr (.inr (.inr (.inr (.inl e))))))
  ·exact .inl (.inr (.inr (.inr (.inr (.inr (.inr (.inl e)))))))
  ·exact .inl (.inr (.inr (.inr (.inr (.inr (.inr (.inr (.inl e))))))))
  ·exact .inl (.inr (.inr (.inr (.inr (.inr (.inr (.inr (.inr (.inl (e.trans hs.1))))))))))
  ·rcases hs.2.2 i e with e | e
   ·exact .inl (.inr (.inr (.inr (.inr (.inr (.inr (.inr (.inr (.inr e)))))))))
   ·exact .inr e
 ·rcases hi with e | e | e
  ·exact .inl (.inl e)
  ·exact .inl (.inr (.inl e))
  ·rcases hs.2.2 i e with e | e
   ·exact .inl (.inr (.inr e))
   ·exact .inr e
def zC (v:Value)(o:Ot):Value:=.agg #[v,I Q o.done,I Q o.addr,.bool o.wrote,.bool o.stay,I Q o.e]
theorem lC (h:Ex w X k m)(t:Nat)(ht:t<k.n):
 Calls Tryz.prog 44 #[F (T ⟨X.x,0,Z⟩),I Q t] w fun e w'=>e=.returned (.bool J)/\w=w':=by
 have c5:=h.c5
 have hf:=h.lk.n64
 go_enter Tryz.func44,Tryz.ntmps44
 go_wp2
 go_ret
 exact⟨rfl,rfl⟩
theorem Bw (w:World):
 Calls Tryz.prog 45 #[] w fun e w'=>e=.returned (zC (G Z 0 0) eZ)/\Below w.heap.size w w':=by
 unfold zC eZ
 go_enter Tryz.func45,Tryz.ntmps45
 go_wp2
 refine bodyPost_ret (v:=.agg #[G Z 0 0,I Q (-1),I Q (-1),.bool K,.bool K,I Q 11]) (by simp[results,Tryz.results45,go_sem]) rfl ⟨rfl,(Zb _ _).alloc (Zc _) _⟩
theorem wS (h:Ex w X k m):
 Calls Tryz.prog 55 #[F (T ⟨X.x,0,Z⟩)] w fun e w'=>e=.returned (I Q k.n)/\w=w':=by
 have c5:=h.c5
 have hf:=h.lk.n64
 go_enter Tryz.func55,Tryz.ntmps55
 go_wp2
 go_ret
 exact⟨rfl,rfl⟩
theorem EY (h:Ex w X k m)(t:Nat)(ht:t<k.n):
 Calls Tryz.prog 58 #[F (T ⟨X.x,0,Z⟩),I Q t] w fun e w'=>e=.returned (I Q (nC k.each m.pn t))/\∃ j,w'=w.drewN j:=by
 obtain⟨fr,os,c,hp,hs⟩:=h.d9
 have c4:=h.c4
 have hfr:=hs.frs t ht
 have hle:(m.pn.free t).length<=k.each:=by
  have h1:=hs.own t ht
  exact kf k.each (t*k.each) _ (hs.dup t ht) (fun q hq=>⟨(h1 q hq).1,(h1 q hq).2.1⟩)
 have E:Hid (((k.each-(fr t).length:Nat):Int)=nC k.each m.pn t):=Za (by rw[hfr,List.length_map];unfold nC;omega)
 clear hfr hle hs
 go_enter Tryz.func58,Tryz.ntmps58
 go_wp2_with fail
 refine(D1 hp t ht).mono ?_
 rintro e w' ⟨rfl,j,rfl⟩
 rw[E.out]
 go_wp2
 go_ret
 exact⟨rfl,_,rfl⟩
theorem BX (h:Ex w X k m):
 Calls Tryz.prog 54 #[F (T ⟨X.x,0,Z⟩)] w (EF w X.q X.g m.ws):=by
 have c3:=h.c3
 have d0:=h.mem.c0
 have hc:=h.mem.cel
 go_enter Tryz.func54,Tryz.ntmps54
 go_wp2_with fail
 refine(CZ hc).mono ?_
 rintro e w' ⟨q,rfl,h1,h2,h3,h4⟩
 go_wp2
 go_ret
 exact⟨q,rfl,h1,h2,h3,h4⟩
end
def fx (cs:Nat->kF)(n:Nat):List Value:=(List.range n).flatMap fun t=>da (cs t).xs (cs t).pc
theorem mT {xs:List Int}{pc:Int}(h:xs.length=8):(da xs pc).length=9:=by simp[da,h]
section
variable {cs:Nat->kF}{n:Nat}
theorem mp (h:∀ t,t<n->bg (cs t).xs):(fx cs n).length=n*9:=by
 unfold fx
 rw[nd _ 9 _ (fun t ht=>mT (h t (List.mem_range.1 ht)).1),List.length_range]
theorem kw (h:∀ t,t<n->bg (cs t).xs){t j:Nat}(ht:t<n)(hj:j<9):(fx cs n)[t*9+j]?=(da (cs t).xs (cs t).pc)[j]?:=
 nf _ 9 _ (fun t ht=>mT (h t (List.mem_range.1 ht)).1) t j t (by simp[ht]) hj
theorem sZ (h:∀ t,t<n->bg (cs t).xs){t:Nat}(ht:t<n){c:kF}(hc:bg c.xs):tz (fx cs n) (t*9) (da c.xs c.pc)=fx (eO cs t c) n:=by
 have h2:=eT (n:=n) h hc t
 apply List.ext_getElem?
 intro i
 have hl:=mp h
 have hl2:=mp h2
 have hcl:=mT (pc:=c.pc) hc.1
 have hle:t*9+9<=n*9:=by omega
 rw[pu _ _ _ _ (by rw[hcl,hl];exact hle),hcl]
 by_cases hi:i<n*9
 ·obtain⟨s,j,hs,hj,rfl⟩:∃ s j,s<n/\j<9/\i=s*9+j:=⟨i / 9,i % 9,by omega,by omega,by omega⟩
  rw[kw h2 hs hj,kw h hs hj]
  by_cases e:s=t
  ·subst e
   rw[if_pos (by omega),jX,show s*9+j-s*9=j by omega]
  ·rw[if_neg (by omega),iU e]
 ·rw[if_neg (by omega),List.getElem?_eq_none (by omega),List.getElem?_eq_none (by omega)]
theorem qq (cs:Nat->kF)(n:Nat):fx cs n++da (cs n).xs (cs n).pc=fx cs (n+1):=by
 unfold fx
 rw[List.range_succ,List.flatMap_append]
 simp
end
theorem qL {base n cap sz g:Nat}{t:TypeId}:∀ (vs xs:List Value) (o:Nat) (w:World),w.ownsRow base t sz (G (T ⟨g,0,Z⟩) n cap) n xs->(gU w g o vs).ownsRow base t sz (G (T ⟨g,0,Z⟩) n cap) n (tz xs o vs)
 | [],xs,o,w,h=>h
 | v :: vs,xs,o,w,h=>qL vs _ (o+1) _ (World.ownsRow.stored h o v).1
theorem mX {w:World}{base n sz:Nat}{t:TypeId}{v:Value}{xs:List Value}(h:w.ownsRow base t sz v n xs):w.ownsRow 0 t sz v n xs:=World.ownsRow.mono (base':=0) h (Nat.zero_le _)
structure YP where
 y:Nat
 cv:Value
 cl:Value
 wl:Value
 x:Nat
 kl:Value
 ac:Int
 R:RM
def YP.Own (Y:YP)(n i:Nat):Prop:=i=Y.y\/Y.cv.ownBlock=T i\/Y.cl.ownBlock=T i\/Y.wl.ownBlock=T i\/i=Y.x\/Y.kl.ownBlock=T i\/Y.R.Has n i
structure Ey (w:World)(Y:YP)(k:Lk)(m:Mc):Prop where
 ptr:Bk w Y.y 91 #[Y.cv,I Q k.lo,I Q k.un,Y.cl,Y.wl,F (T ⟨Y.x,0,Z⟩),Y.kl,I Q Y.ac]
 code:w.ownsRow 0 125 8 Y.cv k.l.length (bH k.l)
 cells:Cs 0 w Y.cl (nE k.zs)
 words:eG .u32 22 w Y.wl m.ws
 d9:Rf w Y.x k.n k.each Y.R m.pn.free m.pn.gen m.pn.out
 same:∃ fr os c,mu k.n k.each m.pn.free m.pn.gen m.pn.out fr os c
 cores:w.ownsRow 0 112 9 Y.kl k.n (fx m.cs k.n)
 lk:mz k
 mc:EI k m
def bA (w:World)(n:Nat)(Y:YP)(w':World)(Y':YP):Prop:=ab w w' (Y.Own n)/\(∀ i,Y'.Own n i->Y.Own n i\/w.heap.size<=i)/\Y'.y=Y.y
section
variable {w w':World}{Y:YP}{k:Lk}{m:Mc}
theorem bA.refl (w:World)(n:Nat)(Y:YP):bA w n Y w Y:=⟨ab.refl _ _,fun _ h=>.inl h,rfl⟩
theorem bA.bz {n:Nat}{w'':World}{Y' Y'':YP}(h:bA w n Y w' Y')(k:bA w' n Y' w'' Y''):bA w n Y w'' Y'':=
 ⟨h.1.bz k.1 h.2.1,fun i hi=>by
  rcases k.2.1 i hi with e | e
  ·exact h.2.1 i e
  ·exact .inr (Nat.le_trans h.1.size e),k.2.2.trans h.2.2⟩
theorem bA.grown {n:Nat}{Y':YP}{w'':World}(h:bA w n Y w' Y')(k:Below w'.heap.size w' w''):bA w n Y w'' Y':=
 h.bz ⟨(av k).wide (by simp),fun _ h=>.inl h,rfl⟩
theorem bA.ay {n:Nat}(k:Below w.heap.size w w'):bA w n Y w' Y:=(bA.refl w n Y).grown k
theorem bA.oP {v:World}{N:Nat}{Y':YP}{S:Nat->Prop}(h:bA v N Y w Y')(hw:ab w w' S)(hs:∀ i,S i->v.heap.size<=i):bA v N Y w' Y':=
 ⟨h.1.bz hw (fun i e=>.inr (hs i e)),h.2⟩
theorem Ey.kept {S:Nat->Prop}(h:Ey w Y k m)(hw:ab w w' S)(hn:∀ i,Y.Own k.n i->¬ S i):Ey w' Y k m:=by
 unfold YP.Own at hn
 exact⟨h.ptr.within hw (hn _ (.inl rfl)),aq h.code hw (fun g e=>hn g (.inr (.inl e))),h.cells.within hw (fun g e=>hn g (.inr (.inr (.inl e)))),h.words.within hw (fun g e=>hn g (.inr (.inr (.inr (.inl e))))),
  h.d9.kept hw (hn _ (.inr (.inr (.inr (.inr (.inl rfl)))))) (fun i hi=>hn i (.inr (.inr (.inr (.inr (.inr (.inr hi))))))),h.same,aq h.cores hw (fun g e=>hn g (.inr (.inr (.inr (.inr (.inr (.inl e))))))),h.lk,h.mc⟩
theorem Ey.below (h:Ey w Y k m)(hb:Below w.heap.size w w'):Ey w' Y k m:=h.kept (av hb) (by simp)
theorem Ey.lt (h:Ey w Y k m){i:Nat}(hi:Y.Own k.n i):i<w.heap.size:=by
 rcases hi with rfl | e | e | e | rfl | e | e
 ·exact h.ptr.lt
 ·exact(World.ownsRow.lt h.code i e).2
 ·exact(h.cells.lt e).2
 ·exact h.words.lt e
 ·exact h.d9.ptr.lt
 ·exact(World.ownsRow.lt h.cores i e).2
 ·exact h.d9.lt e
theorem Ey.c0 (h:Ey w Y k m):w.cell? ⟨Y.y,0,Z⟩=T Y.cv:=by rw[h.ptr.cell];rfl
theorem Ey.c1 (h:Ey w Y k m):w.cell? ⟨Y.y,1,Z⟩=T (I Q k.lo):=by rw[h.ptr.cell];rfl
theorem Ey.c2 (h:Ey w Y k m):w.cell? ⟨Y.y,2,Z⟩=T (I Q k.un):=by rw[h.ptr.cell];rfl
theorem Ey.c3 (h:Ey w Y k m):w.cell? ⟨Y.y,3,Z⟩=T Y.cl:=by rw[h.ptr.cell];rfl
theorem Ey.c4 (h:Ey w Y k m):w.cell? ⟨Y.y,4,Z⟩=T Y.wl:=by rw[h.ptr.cell];rfl
theorem Ey.c5 (h:Ey w Y k m):w.cell? ⟨Y.y,5,Z⟩=T (F (T ⟨Y.x,0,Z⟩)):=by rw[h.ptr.cell];rfl
theorem Ey.c6 (h:Ey w Y k m):w.cell? ⟨Y.y,6,Z⟩=T Y.kl:=by rw[h.ptr.cell];rfl
theorem Ey.c7 (h:Ey w Y k m):w.cell? ⟨Y.y,7,Z⟩=T (I Q Y.ac):=by rw[h.ptr.cell];rfl
theorem Ey.pv (h:Ey w Y k m):Pv w (.agg #[Y.cv,I Q k.lo,I Q k.un]) ⟨k.l,k.lo,k.un⟩/\∃ a cap,Y.cv=G a k.l.length cap:=by
 obtain⟨a,cap,e,h1,h2,_⟩:=bp h.code
 exact⟨yS (c:=⟨k.l,k.lo,k.un⟩) h.code,a,cap,e⟩
theorem Ey.oO (h:Ey w Y k m):∃ g cap,Y.kl=G (T ⟨g,0,Z⟩) k.n cap/\k.n<=cap/\cap<=maxLen/\Y.kl.ownBlock=T g/\(∀ i,w.frozen? ⟨g,i,Z⟩=K)/\∀ t,t<k.n->∀ j,j<9->w.cell? ⟨g,t*9+j,Z⟩=(da (m.cs t).xs (m.cs t).pc)[j]?:=by
 obtain⟨a,cap,e,h1,h2,h3⟩:=bp h.cores
 obtain⟨g,rfl,e2,_,_,hf,hc⟩:=h3 h.lk.n1
 refine⟨g,cap,e,h1,h2,e2,hf,fun t ht j hj=>?_⟩
 rw[hc _ (by omega),kw h.mc.cs ht hj]
theorem Ey.bB (h:Ey w Y k m){t:Nat}(ht:t<k.n):∃ r0 r1 r2 r3 r4 r5 r6 r7 pc,m.cs t=⟨[r0,r1,r2,r3,r4,r5,r6,r7],pc⟩:=by
 obtain⟨r0,r1,r2,r3,r4,r5,r6,r7,e⟩:=aC (h.mc.cs t ht).1
 exact⟨r0,r1,r2,r3,r4,r5,r6,r7,(m.cs t).pc,by rw[<-e]⟩
theorem Ey.core (h:Ey w Y k m){t:Nat}(ht:t<k.n){r0 r1 r2 r3 r4 r5 r6 r7 pc:Int}(e:m.cs t=⟨[r0,r1,r2,r3,r4,r5,r6,r7],pc⟩){g cap:Nat}(ek:Y.kl=G (T ⟨g,0,Z⟩) k.n cap):
 w.cell? ⟨g,t*9,Z⟩=T (I Q r0)/\w.cell? ⟨g,t*9+1,Z⟩=T (I Q r1)/\w.cell? ⟨g,t*9+2,Z⟩=T (I Q r2)/\w.cell? ⟨g,t*9+3,Z⟩=T (I Q r3)/\w.cell? ⟨g,t*9+4,Z⟩=T (I Q r4)/\w.cell? ⟨g,t*9+5,Z⟩=T (I Q r5)/\w.cell? ⟨g,t*9+6,Z⟩=T (I Q r6)/\w.cell? ⟨g,t*9+7,Z⟩=T (I Q r7)/\w.cell? ⟨g,t*9+8,Z⟩=T (I Q pc):=by
 obtain⟨g',cap',ek',_,_,_,_,hc⟩:=h.oO
 rw[ek] at ek'
 simp only[Value.slice.injEq,Option.some.injEq,Addr.mk.injEq,and_true,true_and] at ek'
 obtain⟨rfl,-⟩:=ek'
 have H:=fun j (hj:j<9)=>hc t ht j hj
 rw[e] at H
 exact⟨H 0 (by omega),H 1 (by omega),H 2 (by omega),H 3 (by omega),H 4 (by omega),H 5 (by omega),H 6 (by omega),H 7 (by omega),H 8 (by omega)⟩
theorem Ey.tq (h:Ey w Y k m):∃ a cap,Y.wl=G a m.ws.length cap/\m.ws.length<=cap/\cap<=maxLen/\(0<m.ws.length->∃ g,a=T ⟨g,0,Z⟩/\Y.wl.ownBlock=T g/\(∀ i,w.frozen? ⟨g,i,Z⟩=K)/\∀ i,i<m.ws.length->w.cell? ⟨g,i,Z⟩=T (I O (aG m.ws i))):=h.words.is
theorem Ey.others {g:Nat}{t:TypeId}{cs:Array Value}(h:Ey w Y k m)(hW:ab w w' (fun i=>i=g))(hb:Bk w g t cs):
 (t≠91->Bk w' Y.y 91 #[Y.cv,I Q k.lo,I Q k.un,Y.cl,Y.wl,F (T ⟨Y.x,0,Z⟩),Y.kl,I Q Y.ac])/\
 (t≠125->w'.ownsRow 0 125 8 Y.cv k.l.length (bH k.l))/\
 (t≠153->Cs 0 w' Y.cl (nE k.zs))/\
 (t≠22->eG .u32 22 w' Y.wl m.ws)/\
 (t≠160->t≠26->t≠3->Rf w' Y.x k.n k.each Y.R m.pn.free m.pn.gen m.pn.out)/\
 (t≠112->w'.ownsRow 0 112 9 Y.kl k.n (fx m.cs k.n)):=by
 refine⟨fun ht=>h.ptr.within hW (Bk.aj h.ptr hb (fun e=>ht e.symm)),fun ht=>aq h.code hW (fun g' e e2=>?_),fun ht=>h.cells.within hW (fun g' e e2=>?_),fun ht=>h.words.within hW (fun g' e e2=>?_),
  fun t1 t2 t3=>h.d9.kept hW (Bk.aj h.d9.ptr hb (fun e=>t1 e.symm)) (fun i hi e2=>Rf.dN h.d9 hb t2 t3 (e2 ▸ hi)),fun ht=>aq h.cores hW (fun g' e e2=>?_)⟩
 ·obtain⟨cs',hcs⟩:=aZ h.code e
  exact Bk.aj hcs hb (fun e=>ht e.symm) e2
 ·obtain⟨cs',hcs⟩:=aZ h.cells e
  exact Bk.aj hcs hb (fun e=>ht e.symm) e2
 ·obtain⟨cs',hcs⟩:=h.words.bk e
  exact Bk.aj hcs hb (fun e=>ht e.symm) e2
 ·obtain⟨cs',hcs⟩:=aZ h.cores e
  exact Bk.aj hcs hb (fun e=>ht e.symm) e2
theorem Ey.put (h:Ey w Y k m){t:Nat}(ht:t<k.n){c:kF}(hc:bg c.xs){g cap:Nat}(e:Y.kl=G (T ⟨g,0,Z⟩) k.n cap):Ey (gU w g (t*9) (da c.xs c.pc)) Y k { m with cs:=eO m.cs t c }/\bA w k.n Y (gU w g (t*9) (da c.xs c.pc)) Y:=by
 have hW:ab w (gU w g (t*9) (da c.xs c.pc)) (fun i=>i=g):=.ay (eF _ _ _) (by rintro i e;injection e with e;exact .inl e.symm)
 have hg:Y.kl.ownBlock=T g:=by rw[e];rfl
 have hk:=h.cores
 obtain⟨cs0,hb⟩:=aZ hk hg
 rw[e] at hk
 have hp:=qL (da c.xs c.pc) _ (t*9) w hk
 rw[sZ h.mc.cs ht hc,<-e] at hp
 obtain⟨o1,o2,o3,o4,o5,o6⟩:=h.others hW hb
 exact⟨⟨o1 (by decide),o2 (by decide),o3 (by decide),o4 (by decide),o5 (by decide) (by decide) (by decide),h.same,hp,h.lk,⟨h.mc.ws,h.mc.len,eT h.mc.cs hc t⟩⟩,hW.wide (fun i e _=>by subst e;exact .inr (.inr (.inr (.inr (.inr (.inl hg)))))),fun _ h=>.inl h,rfl⟩
theorem Ey.word (h:Ey w Y k m){g cap:Nat}(e:Y.wl=G (T ⟨g,0,Z⟩) m.ws.length cap)(a:Nat){v:Int}(hv:0<=v/\v<4294967296):Ey (w.setCell ⟨g,a,Z⟩ (I O v)) Y k { m with ws:=m.ws.set a v }/\bA w k.n Y (w.setCell ⟨g,a,Z⟩ (I O v)) Y:=by
 have hW:ab w (w.setCell ⟨g,a,Z⟩ (I O v)) (fun i=>i=g):=(ab.refl _ _).put _ _ _ (.inl rfl)
 have hg:Y.wl.ownBlock=T g:=by rw[e];rfl
 have hk:=h.words
 obtain⟨cs0,hb⟩:=hk.bk hg
 rw[e] at hk
 have hp:=hk.put a v
 rw[<-e] at hp
 obtain⟨o1,o2,o3,o4,o5,o6⟩:=h.others hW hb
 exact⟨⟨o1 (by decide),o2 (by decide),o3 (by decide),hp,o5 (by decide) (by decide) (by decide),h.same,o6 (by decide),h.lk,⟨h.mc.ws.set _ _ hv,by rw[List.length_set];exact h.mc.len,h.mc.cs⟩⟩,hW.wide (fun i e _=>by subst e;exact .inr (.inr (.inr (.inl hg)))),fun _ h=>.inl h,rfl⟩
theorem Ey.more (h:Ey w Y k m)(v:Int):Ey (w.setCell ⟨Y.y,7,Z⟩ (I Q v)) { Y with ac:=v } k m/\bA w k.n Y (w.setCell ⟨Y.y,7,Z⟩ (I Q v)) { Y with ac:=v }:=by
 have hW:ab w (w.setCell ⟨Y.y,7,Z⟩ (I Q v)) (fun i=>i=Y.y):=(ab.refl _ _).put _ _ _ (.inl rfl)
 obtain⟨o1,o2,o3,o4,o5,o6⟩:=h.others hW h.ptr
 exact⟨⟨h.ptr.put 7 (I Q v),o2 (by decide),o3 (by decide),o4 (by decide),o5 (by decide) (by decide) (by decide),h.same,o6 (by decide),h.lk,h.mc⟩,hW.wide (fun i e _=>by subst e;exact .inl rfl),fun _ h=>.inl h,rfl⟩
theorem Ey.nodes (h:Ey w Y k m){R':RM}{pn':Pn}(hp:Rf w' Y.x k.n k.each R' pn'.free pn'.gen pn'.out)(hs:∃ fr os c,mu k.n k.each pn'.free pn'.gen pn'.out fr os c)(hst:fJ w k.n Y.R w' R'):Ey w' { Y with R:=R' } k { m with pn:=pn' }/\bA w k.n Y w' { Y with R:=R' }:=by
 have hW:=hst.1
 have nh:∀ {q:Nat} {t:TypeId} {cs:Array Value},Bk w q t cs->t≠26->t≠3->¬ Y.R.Has k.n q:=fun hb h1 h2=>h.d9.dN hb h1 h2
 refine⟨⟨h.ptr.within hW (nh h.ptr (by decide) (by decide)),aq h.code hW (fun g' e=>?_),h.cells.within hW (fun g' e=>?_),h.words.within hW (fun g' e=>?_),hp,hs,aq h.cores hW (fun g' e=>?_),h.lk,⟨h.mc.ws,h.mc.len,h.mc.cs⟩⟩,hW.wide (fun i e _=>.inr (.inr (.inr (.inr (.inr (.inr e)))))),fun i hi=>?_,rfl⟩
 ·obtain⟨cs',hcs⟩:=aZ h.code e
  exact nh hcs (by decide) (by decide)
 ·obtain⟨cs',hcs⟩:=aZ h.cells e
  exact nh hcs (by decide) (by decide)
 ·obtain⟨cs',hcs⟩:=h.words.bk e
  exact nh hcs (by decide) (by decide)
 ·obtain⟨cs',hcs⟩:=aZ h.cores e
  exact nh hcs (by decide) (by decide)
 ·rcases hi with e | e | e | e | e | e | e
  ·exact .inl (.inl e)
  ·exact .inl (.inr (.inl e))
  ·exact .inl (.inr (.inr (.inl e)))
  ·exact .inl (.inr (.inr (.inr (.inl e))))
  ·exact .inl (.inr (.inr (.inr (.inr (.inl e)))))
  ·exact .inl (.inr (.inr (.inr (.inr (.inr (.inl e))))))
  ·rcases hst.2 i e with e | e
   ·exact .inl (.inr (.inr (.inr (.inr (.inr (.inr e))))))
   ·exact .inr e
theorem rB (h:Ey w Y k m)(area x:Int)(h0:0<=x)(h1:x<4294967296):
 Calls Tryz.prog 53 #[Y.cl,I Q area,I O x] w fun e w'=>(match fz k.zs area x with
  | none=>e=.returned (I Q (-1))
  | some a=>e=.returned (I Q a))/\w.grownBy w' Z:=by
 unfold fz
 by_cases hc:0<=area/\area<k.zs.length/\x % 4096<sz k.zs area.toNat
 ·rw[if_pos hc]
  obtain⟨A,rfl⟩:=Int.eq_ofNat_of_zero_le hc.1
  have h2:=hc.2.2
  rw[Int.toNat_natCast] at h2 ⊢
  obtain⟨P,hP⟩:=Int.eq_ofNat_of_zero_le (show 0<=x % 4096 by omega)
  have:=DZ h.cells h.lk.zs A P x h0 h1 (by omega) (by omega) hP
  rw[hP,Int.toNat_natCast]
  exact this
 ·rw[if_neg hc]
  exact Aq h.cells h.lk.zs area x h0 h1 (by omega)
end
def aM (b:Bool):Int:=if b then 1 else 0
def Bj (v:Value)(o:Ot):Value:=.agg #[v,I Q o.done,I Q o.addr,I Q (aM o.wrote),I Q (aM o.stay),I Q o.e]
def fB (w:World)(Y:YP)(k:Lk)(r:Mc×Ot)(e:Ending)(w':World):Prop:=
 ∃ v Y',e=.returned (Bj v r.2)/\eG .i64 3 w' v r.2.ms/\Ey w' Y' k r.1/\bA w k.n Y w' Y'
section
variable {w w':World}{X:XP}{k:Lk}{m:Mc}
theorem DC (h:Ex w X k m)(t:Nat)(ht:t<k.n):
 Calls Tryz.prog 57 #[F (T ⟨X.x,0,Z⟩),I Q t] w fun e w'=>e=.returned (cv (m.cs t).xs (m.cs t).pc)/\Below w.heap.size w w':=by
 have hf:=h.lk.n64
 obtain⟨r0,r1,r2,r3,r4,r5,r6,r7,pc,ec⟩:=h.bB ht
 have h2:=h.below ((Zb _ w).alloc (Zc _) (C #[I O 0,I O 0,I O 0,I O 0,I O 0,I O 0,I O 0,I O 0,I Q 0] 108))
 have q0:=Cb.made w [0,0,0,0,0,0,0,0] 0
 have b0:Below w.heap.size w (w.alloc (C #[I O 0,I O 0,I O 0,I O 0,I O 0,I O 0,I O 0,I O 0,I Q 0] 108)):=(Zb _ _).alloc (Zc _) _
 simp only[bQ,List.map_cons,List.map_nil,List.cons_append,List.nil_append] at q0
 rw[ec]
 unfold cv
 simp only[bQ,List.map_cons,List.map_nil,List.cons_append,List.nil_append]
 go_enter Tryz.func57,Tryz.ntmps57
 go_upto_region 1 with fail
 generalize w.alloc (C #[I O 0,I O 0,I O 0,I O 0,I O 0,I O 0,I O 0,I O 0,I Q 0] 108)=x at *
 go_wp2_with fail
 refine(lC h2 t ht).mono ?_
 rintro e w' ⟨rfl,rfl⟩
 have c5:=h2.c5
 obtain⟨c0,c1,c2,c3,c4,c5',c6,c7,c8⟩:=h2.core ht ec
 have zf:=Bk.free q0
 obtain⟨z0,z1,z2,z3,z4,z5,z6,z7,z8⟩:=q0.cells
 go_upto_region 3 with fail
 have h9:=bx q0 (I O r0) (I O r1) (I O r2) (I O r3) (I O r4) (I O r5) (I O r6) (I O r7) (I Q pc)
 have b9:=aX b0 (Zc _) (I O r0) (I O r1) (I O r2) (I O r3) (I O r4) (I O r5) (I O r6) (I O r7) (I Q pc)
 go_wp
 generalize hv9:(((((((((x.setCell ⟨w.heap.size,0,Z⟩ (I O r0)).setCell ⟨w.heap.size,1,Z⟩ (I O r1)).setCell ⟨w.heap.size,2,Z⟩ (I O r2)).setCell ⟨w.heap.size,3,Z⟩ (I O r3)).setCell ⟨w.heap.size,4,Z⟩ (I O r4)).setCell ⟨w.heap.size,5,Z⟩ (I O r5)).setCell ⟨w.heap.size,6,Z⟩ (I O r6)).setCell ⟨w.heap.size,7,Z⟩ (I O r7)).setCell ⟨w.heap.size,8,Z⟩ (I Q pc))=v9
 replace hv9:bm x w.heap.size (I O r0) (I O r1) (I O r2) (I O r3) (I O r4) (I O r5) (I O r6) (I O r7) (I Q pc)=v9:=hv9
 rw[hv9] at h9 b9
 obtain⟨y0,y1,y2,y3,y4,y5,y6,y7,y8⟩:=Cb.cells (r0:=r0) (r1:=r1) (r2:=r2) (r3:=r3) (r4:=r4) (r5:=r5) (r6:=r6) (r7:=r7) (pc:=pc) h9
 exact bodyPost_ret (v:=.agg #[I O r0,I O r1,I O r2,I O r3,I O r4,I O r5,I O r6,I O r7,I Q pc]) (by simp[results,Tryz.results57,go_sem,y0,y1,y2,y3,y4,y5,y6,y7,y8]) rfl ⟨rfl,b9⟩
def tM (w:World)(e:Ending)(w':World):Prop:=e=.returned (.tuple #[iv aJ.zero,.bool K])/\Below w.heap.size w w'
def pI (w:World)(i:aJ)(e:Ending)(w':World):Prop:=e=.returned (.tuple #[iv i,.bool J])/\Below w.heap.size w w'
theorem rI (h:Ex w X k m)(t:Nat)(ht:t<k.n)(hn:gV k (m.cs t).pc=Z):
 Calls Tryz.prog 48 #[F (T ⟨X.x,0,Z⟩),I Q t] w (tM w):=by
 have hf:=h.lk.n64
 have hl:=h.lk.parts
 obtain⟨r0,r1,r2,r3,r4,r5,r6,r7,pc,ec⟩:=h.bB ht
 rw[ec] at hn
 simp only at hn
 have h2:=h.below ((Zb _ w).alloc (Zc _) (C #[I Q 0,I Q 0,I Q 0,I Q 0,I Q 0,I Q 0,I O 0,I Q 0] 119))
 have q0:=Ib.made w 0 0 0 0 0 0 0 0
 have b0:Below w.heap.size w (w.alloc (C #[I Q 0,I Q 0,I Q 0,I Q 0,I Q 0,I Q 0,I O 0,I Q 0] 119)):=(Zb _ _).alloc (Zc _) _
 unfold tM iv aJ.zero
 go_enter Tryz.func48,Tryz.ntmps48
 go_upto_region 1 with fail
 generalize w.alloc (C #[I Q 0,I Q 0,I Q 0,I Q 0,I Q 0,I Q 0,I O 0,I Q 0] 119)=x at *
 go_wp2_with fail
 refine(lC h2 t ht).mono ?_
 rintro e w' ⟨rfl,rfl⟩
 have c5:=h2.c5
 obtain⟨c0,c1,c2,c3,c4,c5',c6,c7,c8⟩:=h2.core ht ec
 have k0:=h2.c0
 obtain⟨hpv,a,cap,ecv⟩:=h2.pv
 rw[ecv] at k0
 have zf:=Bk.free q0
 obtain⟨z0,z1,z2,z3,z4,z5,z6,z7⟩:=q0.cells
 simp only at z0 z1 z2 z3 z4 z5 z6 z7
 have hg:∀ y:World,Ib y w.heap.size aJ.zero->Below w.heap.size w y->Ib (eu y w.heap.size aJ.zero) w.heap.size aJ.zero/\Below w.heap.size w (eu y w.heap.size aJ.zero):=fun y hy hb=>⟨dG hy,aU hb (Zc _)⟩
 have HG:=Za hg
 clear hg
 rcases oh hn with hp | hp | ⟨j,hp0,hp1,hj,hmj⟩
 ·clear hn hl
  have hp':decide (pc<0)=J:=by simpa using hp
  obtain⟨g1,g2⟩:=HG.out x q0 b0
  clear q0 b0 HG h h2 hpv
  go_upto_region 5 with fail
  go_wp
  generalize hv9:(((((((x.setCell ⟨w.heap.size,0,Z⟩ (I Q 0)).setCell ⟨w.heap.size,1,Z⟩ (I Q 0)).setCell ⟨w.heap.size,2,Z⟩ (I Q 0)).setCell ⟨w.heap.size,3,Z⟩ (I Q 0)).setCell ⟨w.heap.size,4,Z⟩ (I Q 0)).setCell ⟨w.heap.size,5,Z⟩ (I Q 0)).setCell ⟨w.heap.size,6,Z⟩ (I O 0)).setCell ⟨w.heap.size,7,Z⟩ (I Q 0)=v9
  replace hv9:eu x w.heap.size aJ.zero=v9:=hv9
  rw[hv9] at g1 g2
  obtain⟨y0,y1,y2,y3,y4,y5,y6,y7⟩:=g1.cells
  simp only[aJ.zero] at y0 y1 y2 y3 y4 y5 y6 y7
  exact bodyPost_ret (v:=.tuple #[.agg #[I Q 0,I Q 0,I Q 0,I Q 0,I Q 0,I Q 0,I O 0,I Q 0],.bool K]) (by simp[results,Tryz.results48,go_sem,y0,y1,y2,y3,y4,y5,y6,y7]) rfl ⟨rfl,g2⟩
 ·have hp':decide (pc<0)=K:=by simp;omega
  have hp2:decide (pc>=(k.l.length:Int))=J:=by simp;omega
  have hp3:(k.l.length:Int)<=pc:=hp
  have hl2:=hl.2.1
  clear hn hl
  obtain⟨g1,g2⟩:=HG.out x q0 b0
  clear q0 b0 HG h h2 hpv
  go_upto_region 5 with fail
  go_wp
  generalize hv9:(((((((x.setCell ⟨w.heap.size,0,Z⟩ (I Q 0)).setCell ⟨w.heap.size,1,Z⟩ (I Q 0)).setCell ⟨w.heap.size,2,Z⟩ (I Q 0)).setCell ⟨w.heap.size,3,Z⟩ (I Q 0)).setCell ⟨w.heap.size,4,Z⟩ (I Q 0)).setCell ⟨w.heap.size,5,Z⟩ (I Q 0)).setCell ⟨w.heap.size,6,Z⟩ (I O 0)).setCell ⟨w.heap.size,7,Z⟩ (I Q 0)=v9
  replace hv9:eu x w.heap.size aJ.zero=v9:=hv9
  rw[hv9] at g1 g2
  obtain⟨y0,y1,y2,y3,y4,y5,y6,y7⟩:=g1.cells
  simp only[aJ.zero] at y0 y1 y2 y3 y4 y5 y6 y7
  exact bodyPost_ret (v:=.tuple #[.agg #[I Q 0,I Q 0,I Q 0,I Q 0,I Q 0,I Q 0,I O 0,I Q 0],.bool K]) (by simp[results,Tryz.results48,go_sem,y0,y1,y2,y3,y4,y5,y6,y7]) rfl ⟨rfl,g2⟩
 ·obtain⟨a2,ca2,e2,_,_,_,hsl⟩:=hpv
  simp only[Value.agg.injEq,Array.mk.injEq,List.cons.injEq,ecv,Value.slice.injEq,and_true,true_and] at e2
  obtain⟨rfl,rfl⟩:=e2
  obtain⟨n,rfl⟩:=Int.eq_ofNat_of_zero_le hp0
  rw[Int.toNat_natCast] at hj
  obtain⟨g,off,rfl,hgl,e0,e1,e2,e3,e4,e5,e6,e7⟩:=hsl.at_ hj
  have hp':decide ((n:Int)<0)=K:=by simp
  have hp2:decide ((n:Int)>=(k.l.length:Int))=K:=by simp;omega
  have hp3:(n:Int)<k.l.length:=hp1
  have hl2:=hl.2.1
  have HM:=Za (fun W=>jM j W)
  rw[hmj] at HM
  have HQ:=Za q0
  have HB:=Za b0
  clear hn hl q0 b0 zf z0 z1 z2 z3 z4 z5 z6 z7 hmj
  obtain⟨op,d,s,t',u,a',k',pl⟩:=j
  unfold iv at HM
  simp only at e0 e1 e2 e3 e4 e5 e6 e7 HM
  go_wp2_with fail
  refine(HM.out _).mono ?_
  rintro e y ⟨rfl,hy⟩
  have q0:=HQ.out.below hy
  obtain⟨g1,g2⟩:=HG.out y q0 (HB.out.trans (hy.mono HB.out.size))
  have zf:=Bk.free q0
  obtain⟨z0,z1,z2,z3,z4,z5,z6,z7⟩:=q0.cells
  simp only at z0 z1 z2 z3 z4 z5 z6 z7
  clear q0 HQ HB HG h h2 hsl HM e0 e1 e2 e3 e4 e5 e6 e7 c0 c1 c2 c3 c4 c5 c5' c6 c7 c8 k0
  go_upto_region 5 with fail
  go_wp
  generalize hv9:(((((((y.setCell ⟨w.heap.size,0,Z⟩ (I Q 0)).setCell ⟨w.heap.size,1,Z⟩ (I Q 0)).setCell ⟨w.heap.size,2,Z⟩ (I Q 0)).setCell ⟨w.heap.size,3,Z⟩ (I Q 0)).setCell ⟨w.heap.size,4,Z⟩ (I Q 0)).setCell ⟨w.heap.size,5,Z⟩ (I Q 0)).setCell ⟨w.heap.size,6,Z⟩ (I O 0)).setCell ⟨w.heap.size,7,Z⟩ (I Q 0)=v9
  replace hv9:eu y w.heap.size aJ.zero=v9:=hv9
  rw[hv9] at g1 g2
  obtain⟨y0,y1,y2,y3,y4,y5,y6,y7⟩:=g1.cells
  simp only[aJ.zero] at y0 y1 y2 y3 y4 y5 y6 y7
  exact bodyPost_ret (v:=.tuple #[.agg #[I Q 0,I Q 0,I Q 0,I Q 0,I Q 0,I Q 0,I O 0,I Q 0],.bool K]) (by simp[results,Tryz.results48,go_sem,y0,y1,y2,y3,y4,y5,y6,y7]) rfl ⟨rfl,g2⟩
end
section
variable {w w':World}{k:Lk}{r:Rn}
theorem Ey.pz {Y:YP}{m:Mc}{g:Nat}{t:TypeId}{cs:Array Value}(h:Ey w Y k m)(hb:Bk w g t cs)
 (t1:t≠91) (t2:t≠125) (t3:t≠153) (t4:t≠22) (t5:t≠160) (t6:t≠26) (t7:t≠3) (t8:t≠112):¬ Y.Own k.n g:=by
 rintro(e | e | e | e | e | e | e)
 ·exact Bk.aj h.ptr hb (fun e=>t1 e.symm) e.symm
 ·obtain⟨cs',hcs⟩:=aZ h.code e
  exact Bk.aj hcs hb (fun e=>t2 e.symm) rfl
 ·obtain⟨cs',hcs⟩:=aZ h.cells e
  exact Bk.aj hcs hb (fun e=>t3 e.symm) rfl
 ·obtain⟨cs',hcs⟩:=h.words.bk e
  exact Bk.aj hcs hb (fun e=>t4 e.symm) rfl
 ·exact Bk.aj h.d9.ptr hb (fun e=>t5 e.symm) e.symm
 ·obtain⟨cs',hcs⟩:=aZ h.cores e
  exact Bk.aj hcs hb (fun e=>t8 e.symm) rfl
 ·exact Rf.dN h.d9 hb t6 t7 e
end
section
variable {w w':World}{X:XP}{k:Lk}{m:Mc}
def pJ (w:World)(c:kF)(s:Bool)(e:Ending)(w':World):Prop:=e=.returned (.tuple #[cv c.xs c.pc,.bool s])/\Below w.heap.size w w'
theorem BZ (c:kF)(i:aJ)(n:Nat)(v:Int)(late:Bool)(w:World)(hx:bg c.xs)(hi:EK i n)(h21:i.op=21)(hv:0<=v/\v<4294967296)(hp0:0<=c.pc)(hp1:c.pc<1000):
 Calls Tryz.prog 129 #[cv c.xs c.pc,iv i,I O v,.bool late] w (pJ w (fI c i v late).1 (fI c i v late).2):=by
 obtain⟨hk,hpl⟩:=hi.aw h21
 have hd:=hi.d
 have ht:=hi.t
 obtain⟨xs,pc⟩:=c
 obtain⟨op,d,s,t,u,a',k',pl⟩:=i
 simp only at hk hpl hd ht hx hp0 hp1
 obtain⟨dn,rfl⟩:∃ n:Nat,d=n:=⟨d.toNat,by omega⟩
 obtain⟨tn,rfl⟩:∃ n:Nat,t=n:=⟨t.toNat,by omega⟩
 have hd8:dn<8:=by omega
 have ht8:tn<8:=by omega
 have hV:=hx.2.at_ tn
 obtain⟨r0,r1,r2,r3,r4,r5,r6,r7,rfl⟩:=aC hx.1
 obtain⟨s0,s1,s2,s3,s4,s5,s6,s7,hs⟩:=aC (xs:=[r0,r1,r2,r3,r4,r5,r6,r7].set dn v) (by simp)
 have HS:=Za hs
 generalize hA:fI ⟨[r0,r1,r2,r3,r4,r5,r6,r7],pc⟩ ⟨op,dn,s,tn,u,a',k',pl⟩ v late=A
 have HA:Hid (A=if decide (v=aG [r0,r1,r2,r3,r4,r5,r6,r7] tn)==decide (k'=0) then (⟨[s0,s1,s2,s3,s4,s5,s6,s7],pc+1⟩,K) else if late=J/\pl≠-1 then (⟨[s0,s1,s2,s3,s4,s5,s6,s7],pl⟩,K) else (⟨[s0,s1,s2,s3,s4,s5,s6,s7],pc⟩,J)):=Za (by
  rw[<-hA];unfold fI;simp only[Int.toNat_natCast,hs])
 clear hA hs
 have q0:=((Cb.made w [r0,r1,r2,r3,r4,r5,r6,r7] pc).below (Below.alloc (o:=C #[I Q op,I Q dn,I Q s,I Q tn,I Q u,I Q a',I O k',I Q pl] 119) (Zb _ _) (Zc _)))
 have q1:=Ib.made (w.alloc (C (bQ [r0,r1,r2,r3,r4,r5,r6,r7] pc).toArray 108)) op dn s tn u a' k' pl
 have b0:Below w.heap.size w ((w.alloc (C (bQ [r0,r1,r2,r3,r4,r5,r6,r7] pc).toArray 108)).alloc (C #[I Q op,I Q dn,I Q s,I Q tn,I Q u,I Q a',I O k',I Q pl] 119)):=((Zb _ _).alloc (Zc _) _).alloc (by simp) _
 rw[World.size_alloc] at q1
 have q2:=Cb.made ((w.alloc (C (bQ [r0,r1,r2,r3,r4,r5,r6,r7] pc).toArray 108)).alloc (C #[I Q op,I Q dn,I Q s,I Q tn,I Q u,I Q a',I O k',I Q pl] 119)) [0,0,0,0,0,0,0,0] 0
 rw[World.size_alloc,World.size_alloc] at q2
 have q0':=q0.below (Below.alloc (o:=C (bQ [0,0,0,0,0,0,0,0] 0).toArray 108) (Zb _ _) (Zc _))
 have q1':=q1.below (Below.alloc (o:=C (bQ [0,0,0,0,0,0,0,0] 0).toArray 108) (Zb _ _) (by rw[World.size_alloc,World.size_alloc];exact Zc _))
 replace b0:=b0.alloc (o:=C (bQ [0,0,0,0,0,0,0,0] 0).toArray 108) b0.size
 clear q0 q1
 unfold pJ cv iv
 simp only[bQ,List.map_cons,List.map_nil,List.cons_append,List.nil_append] at q0' q1' q2 b0 ⊢
 go_enter Tryz.func129,Tryz.ntmps129
 go_upto_region 1 with fail
 generalize ((w.alloc (C #[I O r0,I O r1,I O r2,I O r3,I O r4,I O r5,I O r6,I O r7,I Q pc] 108)).alloc (C #[I Q op,I Q dn,I Q s,I Q tn,I Q u,I Q a',I O k',I Q pl] 119)).alloc (C #[I O 0,I O 0,I O 0,I O 0,I O 0,I O 0,I O 0,I O 0,I Q 0] 108)=x at *
 have cT:=q0'.at_ rfl ht8
 have cD:=q0'.at_ rfl hd8
 obtain⟨e0,e1,e2,e3,e4,e5,e6,e7⟩:=q1'.cells
 simp only at e0 e1 e2 e3 e4 e5 e6 e7
 have zf:=Bk.free q0'
 have q:=q0'.set rfl hd8 v
 rw[HS.out] at q
 have q1:=q1'.off (p:=⟨w.heap.size,dn,Z⟩) (by show w.heap.size+1≠w.heap.size;omega) (I O v)
 have q2':Cb (x.setCell ⟨w.heap.size,dn,Z⟩ (I O v)) _ _ _:=Bk.off q2 (p:=⟨w.heap.size,dn,Z⟩) (by show w.heap.size+1+1≠w.heap.size;omega) (I O v)
 have b:=b0.setCell (p:=⟨w.heap.size,dn,Z⟩) (Zc _) (I O v)
 have hw1:wrap64 (pc+1)=pc+1:=IntWalk.wrap64_in _ (by omega)
 clear q0' q1' q2 b0 hx hi HS h21 hp0 hd ht
 have q2:=q2'
 clear q2'
 generalize aG [r0,r1,r2,r3,r4,r5,r6,r7] dn=V2 at *
 generalize aG [r0,r1,r2,r3,r4,r5,r6,r7] tn=V at *
 by_cases hV:v=V
 ·subst hV
  rcases hk with rfl|rfl
  ·replace HA:Hid (A=(⟨[s0,s1,s2,s3,s4,s5,s6,s7],pc+1⟩,K)):=Za (by rw[HA.out];simp)
   clear hpl
   go_upto_region 5 with fail
   clear cT cD e0 e1 e2 e3 e4 e5 e6 e7 zf
   generalize x.setCell ⟨w.heap.size,dn,Z⟩ (I O v)=y at *
   obtain⟨c0,c1,c2,c3,c4,c5,c6,c7,c8⟩:=q.cells
   obtain⟨e0,e1,e2,e3,e4,e5,e6,e7⟩:=Ib.cells (i:=⟨op,dn,s,tn,u,a',0,pl⟩) q1
   simp only at e0 e1 e2 e3 e4 e5 e6 e7
   have zf:=Bk.free q
   go_upto_region 9 with fail
   have o0:Cb (y.setCell ⟨w.heap.size,8,Z⟩ (I Q (pc+1))) w.heap.size [s0,s1,s2,s3,s4,s5,s6,s7] (pc+1):=Bk.put q 8 (I Q (pc+1))
   have o2:Cb (y.setCell ⟨w.heap.size,8,Z⟩ (I Q (pc+1))) _ _ _:=Bk.off q2 (p:=⟨w.heap.size,8,Z⟩) (by show w.heap.size+1+1≠w.heap.size;omega) (I Q (pc+1))
   have o3:=b.setCell (p:=⟨w.heap.size,8,Z⟩) (Zc _) (I Q (pc+1))
   clear q q2 b c0 c1 c2 c3 c4 c5 c6 c7 c8 zf e0 e1 e2 e3 e4 e5 e6 e7
   generalize y.setCell ⟨w.heap.size,8,Z⟩ (I Q (pc+1))=y at *
   have q:=o0
   have q2:=o2
   have b:=o3
   clear o0 o2 o3
   obtain⟨c0,c1,c2,c3,c4,c5,c6,c7,c8⟩:=q.cells
   have zf:=Bk.free q2
   obtain⟨z0,z1,z2,z3,z4,z5,z6,z7,z8⟩:=q2.cells
   have h9:=bx q2 (I O s0) (I O s1) (I O s2) (I O s3) (I O s4) (I O s5) (I O s6) (I O s7) (I Q (pc+1))
   have b9:=aX b (show w.heap.size<=w.heap.size+1+1 by omega) (I O s0) (I O s1) (I O s2) (I O s3) (I O s4) (I O s5) (I O s6) (I O s7) (I Q (pc+1))
   clear q q2 b
   go_wp
   generalize hv9:(((((((((y.setCell ⟨(w.heap.size+1+1),0,Z⟩ (I O s0)).setCell ⟨(w.heap.size+1+1),1,Z⟩ (I O s1)).setCell ⟨(w.heap.size+1+1),2,Z⟩ (I O s2)).setCell ⟨(w.heap.size+1+1),3,Z⟩ (I O s3)).setCell ⟨(w.heap.size+1+1),4,Z⟩ (I O s4)).setCell ⟨(w.heap.size+1+1),5,Z⟩ (I O s5)).setCell ⟨(w.heap.size+1+1),6,Z⟩ (I O s6)).setCell ⟨(w.heap.size+1+1),7,Z⟩ (I O s7)).setCell ⟨(w.heap.size+1+1),8,Z⟩ (I Q (pc+1)))=v9
   replace hv9:bm y (w.heap.size+1+1) (I O s0) (I O s1) (I O s2) (I O s3) (I O s4) (I O s5) (I O s6) (I O s7) (I Q (pc+1))=v9:=hv9
   rw[hv9] at h9 b9
   obtain⟨y0,y1,y2,y3,y4,y5,y6,y7,y8⟩:=Cb.cells (r0:=s0) (r1:=s1) (r2:=s2) (r3:=s3) (r4:=s4) (r5:=s5) (r6:=s6) (r7:=s7) (pc:=(pc+1)) h9
   exact bodyPost_ret (v:=.tuple #[.agg #[I O s0,I O s1,I O s2,I O s3,I O s4,I O s5,I O s6,I O s7,I Q (pc+1)],.bool K]) (by simp[results,Tryz.results129,go_sem,y0,y1,y2,y3,y4,y5,y6,y7,y8]) rfl ⟨by rw[HA.out];rfl,b9⟩
  ·cases late with
   | false=>
    replace HA:Hid (A=(⟨[s0,s1,s2,s3,s4,s5,s6,s7],pc⟩,J)):=Za (by rw[HA.out];simp)
    clear hpl
    go_upto_region 5 with fail
    clear cT cD e0 e1 e2 e3 e4 e5 e6 e7 zf
    generalize x.setCell ⟨w.heap.size,dn,Z⟩ (I O v)=y at *
    obtain⟨c0,c1,c2,c3,c4,c5,c6,c7,c8⟩:=q.cells
    obtain⟨e0,e1,e2,e3,e4,e5,e6,e7⟩:=Ib.cells (i:=⟨op,dn,s,tn,u,a',1,pl⟩) q1
    simp only at e0 e1 e2 e3 e4 e5 e6 e7
    have zf:=Bk.free q
    go_upto_region 4 with fail
    clear c0 c1 c2 c3 c4 c5 c6 c7 c8 zf e0 e1 e2 e3 e4 e5 e6 e7
    obtain⟨c0,c1,c2,c3,c4,c5,c6,c7,c8⟩:=q.cells
    have zf:=Bk.free q2
    obtain⟨z0,z1,z2,z3,z4,z5,z6,z7,z8⟩:=q2.cells
    have h9:=bx q2 (I O s0) (I O s1) (I O s2) (I O s3) (I O s4) (I O s5) (I O s6) (I O s7) (I Q pc)
    have b9:=aX b (show w.heap.size<=w.heap.size+1+1 by omega) (I O s0) (I O s1) (I O s2) (I O s3) (I O s4) (I O s5) (I O s6) (I O s7) (I Q pc)
    clear q q2 b
    go_wp
    generalize hv9:(((((((((y.setCell ⟨(w.heap.size+1+1),0,Z⟩ (I O s0)).setCell ⟨(w.heap.size+1+1),1,Z⟩ (I O s1)).setCell ⟨(w.heap.size+1+1),2,Z⟩ (I O s2)).setCell ⟨(w.heap.size+1+1),3,Z⟩ (I O s3)).setCell ⟨(w.heap.size+1+1),4,Z⟩ (I O s4)).setCell ⟨(w.heap.size+1+1),5,Z⟩ (I O s5)).setCell ⟨(w.heap.size+1+1),6,Z⟩ (I O s6)).setCell ⟨(w.heap.size+1+1),7,Z⟩ (I O s7)).setCell ⟨(w.heap.size+1+1),8,Z⟩ (I Q pc))=v9
    replace hv9:bm y (w.heap.size+1+1) (I O s0) (I O s1) (I O s2) (I O s3) (I O s4) (I O s5) (I O s6) (I O s7) (I Q pc)=v9:=hv9
    rw[hv9] at h9 b9
    obtain⟨y0,y1,y2,y3,y4,y5,y6,y7,y8⟩:=Cb.cells (r0:=s0) (r1:=s1) (r2:=s2) (r3:=s3) (r4:=s4) (r5:=s5) (r6:=s6) (r7:=s7) (pc:=pc) h9
    exact bodyPost_ret (v:=.tuple #[.agg #[I O s0,I O s1,I O s2,I O s3,I O s4,I O s5,I O s6,I O s7,I Q pc],.bool J]) (by simp[results,Tryz.results129,go_sem,y0,y1,y2,y3,y4,y5,y6,y7,y8]) rfl ⟨by rw[HA.out];rfl,b9⟩
   | true=>
    rcases hpl with rfl | ⟨hpl,_⟩
    ·replace HA:Hid (A=(⟨[s0,s1,s2,s3,s4,s5,s6,s7],pc⟩,J)):=Za (by rw[HA.out];simp)
     go_upto_region 5 with fail
     clear cT cD e0 e1 e2 e3 e4 e5 e6 e7 zf
     generalize x.setCell ⟨w.heap.size,dn,Z⟩ (I O v)=y at *
     obtain⟨c0,c1,c2,c3,c4,c5,c6,c7,c8⟩:=q.cells
     obtain⟨e0,e1,e2,e3,e4,e5,e6,e7⟩:=Ib.cells (i:=⟨op,dn,s,tn,u,a',1,-1⟩) q1
     simp only at e0 e1 e2 e3 e4 e5 e6 e7
     have zf:=Bk.free q
     go_upto_region 4 with fail
     clear c0 c1 c2 c3 c4 c5 c6 c7 c8 zf e0 e1 e2 e3 e4 e5 e6 e7
     obtain⟨c0,c1,c2,c3,c4,c5,c6,c7,c8⟩:=q.cells
     have zf:=Bk.free q2
     obtain⟨z0,z1,z2,z3,z4,z5,z6,z7,z8⟩:=q2.cells
     have h9:=bx q2 (I O s0) (I O s1) (I O s2) (I O s3) (I O s4) (I O s5) (I O s6) (I O s7) (I Q pc)
     have b9:=aX b (show w.heap.size<=w.heap.size+1+1 by omega) (I O s0) (I O s1) (I O s2) (I O s3) (I O s4) (I O s5) (I O s6) (I O s7) (I Q pc)
     clear q q2 b
     go_wp
     generalize hv9:(((((((((y.setCell ⟨(w.heap.size+1+1),0,Z⟩ (I O s0)).setCell ⟨(w.heap.size+1+1),1,Z⟩ (I O s1)).setCell ⟨(w.heap.size+1+1),2,Z⟩ (I O s2)).setCell ⟨(w.heap.size+1+1),3,Z⟩ (I O s3)).setCell ⟨(w.heap.size+1+1),4,Z⟩ (I O s4)).setCell ⟨(w.heap.size+1+1),5,Z⟩ (I O s5)).setCell ⟨(w.heap.size+1+1),6,Z⟩ (I O s6)).setCell ⟨(w.heap.size+1+1),7,Z⟩ (I O s7)).setCell ⟨(w.heap.size+1+1),8,Z⟩ (I Q pc))=v9
     replace hv9:bm y (w.heap.size+1+1) (I O s0) (I O s1) (I O s2) (I O s3) (I O s4) (I O s5) (I O s6) (I O s7) (I Q pc)=v9:=hv9
     rw[hv9] at h9 b9
     obtain⟨y0,y1,y2,y3,y4,y5,y6,y7,y8⟩:=Cb.cells (r0:=s0) (r1:=s1) (r2:=s2) (r3:=s3) (r4:=s4) (r5:=s5) (r6:=s6) (r7:=s7) (pc:=pc) h9
     exact bodyPost_ret (v:=.tuple #[.agg #[I O s0,I O s1,I O s2,I O s3,I O s4,I O s5,I O s6,I O s7,I Q pc],.bool J]) (by simp[results,Tryz.results129,go_sem,y0,y1,y2,y3,y4,y5,y6,y7,y8]) rfl ⟨by rw[HA.out];rfl,b9⟩
    ·have hpn:¬ pl=-1:=by omega
     have hpn2:(pl != -1)=J:=by simp;omega
     replace HA:Hid (A=(⟨[s0,s1,s2,s3,s4,s5,s6,s7],pl⟩,K)):=Za (by rw[HA.out];simp[hpn])
     clear hpn hpl
     go_upto_region 5 with fail
     clear cT cD e0 e1 e2 e3 e4 e5 e6 e7 zf
     generalize x.setCell ⟨w.heap.size,dn,Z⟩ (I O v)=y at *
     obtain⟨c0,c1,c2,c3,c4,c5,c6,c7,c8⟩:=q.cells
     obtain⟨e0,e1,e2,e3,e4,e5,e6,e7⟩:=Ib.cells (i:=⟨op,dn,s,tn,u,a',1,pl⟩) q1
     simp only at e0 e1 e2 e3 e4 e5 e6 e7
     have zf:=Bk.free q
     go_upto_region 9 with fail
     have o0:Cb (y.setCell ⟨w.heap.size,8,Z⟩ (I Q pl)) w.heap.size [s0,s1,s2,s3,s4,s5,s6,s7] pl:=Bk.put q 8 (I Q pl)
     have o2:Cb (y.setCell ⟨w.heap.size,8,Z⟩ (I Q pl)) _ _ _:=Bk.off q2 (p:=⟨w.heap.size,8,Z⟩) (by show w.heap.size+1+1≠w.heap.size;omega) (I Q pl)
     have o3:=b.setCell (p:=⟨w.heap.size,8,Z⟩) (Zc _) (I Q pl)
     clear q q2 b c0 c1 c2 c3 c4 c5 c6 c7 c8 zf e0 e1 e2 e3 e4 e5 e6 e7
     generalize y.setCell ⟨w.heap.size,8,Z⟩ (I Q pl)=y at *
     have q:=o0
     have q2:=o2
     have b:=o3
     clear o0 o2 o3
     obtain⟨c0,c1,c2,c3,c4,c5,c6,c7,c8⟩:=q.cells
     have zf:=Bk.free q2
     obtain⟨z0,z1,z2,z3,z4,z5,z6,z7,z8⟩:=q2.cells
     have h9:=bx q2 (I O s0) (I O s1) (I O s2) (I O s3) (I O s4) (I O s5) (I O s6) (I O s7) (I Q pl)
     have b9:=aX b (show w.heap.size<=w.heap.size+1+1 by omega) (I O s0) (I O s1) (I O s2) (I O s3) (I O s4) (I O s5) (I O s6) (I O s7) (I Q pl)
     clear q q2 b
     go_wp
     generalize hv9:(((((((((y.setCell ⟨(w.heap.size+1+1),0,Z⟩ (I O s0)).setCell ⟨(w.heap.size+1+1),1,Z⟩ (I O s1)).setCell ⟨(w.heap.size+1+1),2,Z⟩ (I O s2)).setCell ⟨(w.heap.size+1+1),3,Z⟩ (I O s3)).setCell ⟨(w.heap.size+1+1),4,Z⟩ (I O s4)).setCell ⟨(w.heap.size+1+1),5,Z⟩ (I O s5)).setCell ⟨(w.heap.size+1+1),6,Z⟩ (I O s6)).setCell ⟨(w.heap.size+1+1),7,Z⟩ (I O s7)).setCell ⟨(w.heap.size+1+1),8,Z⟩ (I Q pl))=v9
     replace hv9:bm y (w.heap.size+1+1) (I O s0) (I O s1) (I O s2) (I O s3) (I O s4) (I O s5) (I O s6) (I O s7) (I Q pl)=v9:=hv9
     rw[hv9] at h9 b9
     obtain⟨y0,y1,y2,y3,y4,y5,y6,y7,y8⟩:=Cb.cells (r0:=s0) (r1:=s1) (r2:=s2) (r3:=s3) (r4:=s4) (r5:=s5) (r6:=s6) (r7:=s7) (pc:=pl) h9
     exact bodyPost_ret (v:=.tuple #[.agg #[I O s0,I O s1,I O s2,I O s3,I O s4,I O s5,I O s6,I O s7,I Q pl],.bool K]) (by simp[results,Tryz.results129,go_sem,y0,y1,y2,y3,y4,y5,y6,y7,y8]) rfl ⟨by rw[HA.out];rfl,b9⟩
 ·have hne:(v==V)=K:=by simpa using hV
  replace HA:=And.intro HA (Za hV)
  clear hV
  obtain⟨HA,HV⟩:=HA
  rcases hk with rfl|rfl
  ·cases late with
   | false=>
    replace HA:Hid (A=(⟨[s0,s1,s2,s3,s4,s5,s6,s7],pc⟩,J)):=Za (by rw[HA.out];simp[HV.out])
    clear hpl
    go_upto_region 5 with fail
    clear cT cD e0 e1 e2 e3 e4 e5 e6 e7 zf
    generalize x.setCell ⟨w.heap.size,dn,Z⟩ (I O v)=y at *
    obtain⟨c0,c1,c2,c3,c4,c5,c6,c7,c8⟩:=q.cells
    obtain⟨e0,e1,e2,e3,e4,e5,e6,e7⟩:=Ib.cells (i:=⟨op,dn,s,tn,u,a',0,pl⟩) q1
    simp only at e0 e1 e2 e3 e4 e5 e6 e7
    have zf:=Bk.free q
    go_upto_region 4 with fail
    clear c0 c1 c2 c3 c4 c5 c6 c7 c8 zf e0 e1 e2 e3 e4 e5 e6 e7
    obtain⟨c0,c1,c2,c3,c4,c5,c6,c7,c8⟩:=q.cells
    have zf:=Bk.free q2
    obtain⟨z0,z1,z2,z3,z4,z5,z6,z7,z8⟩:=q2.cells
    have h9:=bx q2 (I O s0) (I O s1) (I O s2) (I O s3) (I O s4) (I O s5) (I O s6) (I O s7) (I Q pc)
    have b9:=aX b (show w.heap.size<=w.heap.size+1+1 by omega) (I O s0) (I O s1) (I O s2) (I O s3) (I O s4) (I O s5) (I O s6) (I O s7) (I Q pc)
    clear q q2 b
    go_wp
    generalize hv9:(((((((((y.setCell ⟨(w.heap.size+1+1),0,Z⟩ (I O s0)).setCell ⟨(w.heap.size+1+1),1,Z⟩ (I O s1)).setCell ⟨(w.heap.size+1+1),2,Z⟩ (I O s2)).setCell ⟨(w.heap.size+1+1),3,Z⟩ (I O s3)).setCell ⟨(w.heap.size+1+1),4,Z⟩ (I O s4)).setCell ⟨(w.heap.size+1+1),5,Z⟩ (I O s5)).setCell ⟨(w.heap.size+1+1),6,Z⟩ (I O s6)).setCell ⟨(w.heap.size+1+1),7,Z⟩ (I O s7)).setCell ⟨(w.heap.size+1+1),8,Z⟩ (I Q pc))=v9
    replace hv9:bm y (w.heap.size+1+1) (I O s0) (I O s1) (I O s2) (I O s3) (I O s4) (I O s5) (I O s6) (I O s7) (I Q pc)=v9:=hv9
    rw[hv9] at h9 b9
    obtain⟨y0,y1,y2,y3,y4,y5,y6,y7,y8⟩:=Cb.cells (r0:=s0) (r1:=s1) (r2:=s2) (r3:=s3) (r4:=s4) (r5:=s5) (r6:=s6) (r7:=s7) (pc:=pc) h9
    exact bodyPost_ret (v:=.tuple #[.agg #[I O s0,I O s1,I O s2,I O s3,I O s4,I O s5,I O s6,I O s7,I Q pc],.bool J]) (by simp[results,Tryz.results129,go_sem,y0,y1,y2,y3,y4,y5,y6,y7,y8]) rfl ⟨by rw[HA.out];rfl,b9⟩
   | true=>
    rcases hpl with rfl | ⟨hpl,_⟩
    ·replace HA:Hid (A=(⟨[s0,s1,s2,s3,s4,s5,s6,s7],pc⟩,J)):=Za (by rw[HA.out];simp[HV.out])
     go_upto_region 5 with fail
     clear cT cD e0 e1 e2 e3 e4 e5 e6 e7 zf
     generalize x.setCell ⟨w.heap.size,dn,Z⟩ (I O v)=y at *
     obtain⟨c0,c1,c2,c3,c4,c5,c6,c7,c8⟩:=q.cells
     obtain⟨e0,e1,e2,e3,e4,e5,e6,e7⟩:=Ib.cells (i:=⟨op,dn,s,tn,u,a',0,-1⟩) q1
     simp only at e0 e1 e2 e3 e4 e5 e6 e7
     have zf:=Bk.free q
     go_upto_region 4 with fail
     clear c0 c1 c2 c3 c4 c5 c6 c7 c8 zf e0 e1 e2 e3 e4 e5 e6 e7
     obtain⟨c0,c1,c2,c3,c4,c5,c6,c7,c8⟩:=q.cells
     have zf:=Bk.free q2
     obtain⟨z0,z1,z2,z3,z4,z5,z6,z7,z8⟩:=q2.cells
     have h9:=bx q2 (I O s0) (I O s1) (I O s2) (I O s3) (I O s4) (I O s5) (I O s6) (I O s7) (I Q pc)
     have b9:=aX b (show w.heap.size<=w.heap.size+1+1 by omega) (I O s0) (I O s1) (I O s2) (I O s3) (I O s4) (I O s5) (I O s6) (I O s7) (I Q pc)
     clear q q2 b
     go_wp
     generalize hv9:(((((((((y.setCell ⟨(w.heap.size+1+1),0,Z⟩ (I O s0)).setCell ⟨(w.heap.size+1+1),1,Z⟩ (I O s1)).setCell ⟨(w.heap.size+1+1),2,Z⟩ (I O s2)).setCell ⟨(w.heap.size+1+1),3,Z⟩ (I O s3)).setCell ⟨(w.heap.size+1+1),4,Z⟩ (I O s4)).setCell ⟨(w.heap.size+1+1),5,Z⟩ (I O s5)).setCell ⟨(w.heap.size+1+1),6,Z⟩ (I O s6)).setCell ⟨(w.heap.size+1+1),7,Z⟩ (I O s7)).setCell ⟨(w.heap.size+1+1),8,Z⟩ (I Q pc))=v9
     replace hv9:bm y (w.heap.size+1+1) (I O s0) (I O s1) (I O s2) (I O s3) (I O s4) (I O s5) (I O s6) (I O s7) (I Q pc)=v9:=hv9
     rw[hv9] at h9 b9
     obtain⟨y0,y1,y2,y3,y4,y5,y6,y7,y8⟩:=Cb.cells (r0:=s0) (r1:=s1) (r2:=s2) (r3:=s3) (r4:=s4) (r5:=s5) (r6:=s6) (r7:=s7) (pc:=pc) h9
     exact bodyPost_ret (v:=.tuple #[.agg #[I O s0,I O s1,I O s2,I O s3,I O s4,I O s5,I O s6,I O s7,I Q pc],.bool J]) (by simp[results,Tryz.results129,go_sem,y0,y1,y2,y3,y4,y5,y6,y7,y8]) rfl ⟨by rw[HA.out];rfl,b9⟩
    ·have hpn:¬ pl=-1:=by omega
     have hpn2:(pl != -1)=J:=by simp;omega
     replace HA:Hid (A=(⟨[s0,s1,s2,s3,s4,s5,s6,s7],pl⟩,K)):=Za (by rw[HA.out];simp[hpn,HV.out])
     clear hpn hpl
     go_upto_region 5 with fail
     clear cT cD e0 e1 e2 e3 e4 e5 e6 e7 zf
     generalize x.setCell ⟨w.heap.size,dn,Z⟩ (I O v)=y at *
     obtain⟨c0,c1,c2,c3,c4,c5,c6,c7,c8⟩:=q.cells
     obtain⟨e0,e1,e2,e3,e4,e5,e6,e7⟩:=Ib.cells (i:=⟨op,dn,s,tn,u,a',0,pl⟩) q1
     simp only at e0 e1 e2 e3 e4 e5 e6 e7
     have zf:=Bk.free q
     go_upto_region 9 with fail
     have o0:Cb (y.setCell ⟨w.heap.size,8,Z⟩ (I Q pl)) w.heap.size [s0,s1,s2,s3,s4,s5,s6,s7] pl:=Bk.put q 8 (I Q pl)
     have o2:Cb (y.setCell ⟨w.heap.size,8,Z⟩ (I Q pl)) _ _ _:=Bk.off q2 (p:=⟨w.heap.size,8,Z⟩) (by show w.heap.size+1+1≠w.heap.size;omega) (I Q pl)
     have o3:=b.setCell (p:=⟨w.heap.size,8,Z⟩) (Zc _) (I Q pl)
     clear q q2 b c0 c1 c2 c3 c4 c5 c6 c7 c8 zf e0 e1 e2 e3 e4 e5 e6 e7
     generalize y.setCell ⟨w.heap.size,8,Z⟩ (I Q pl)=y at *
     have q:=o0
     have q2:=o2
     have b:=o3
     clear o0 o2 o3
     obtain⟨c0,c1,c2,c3,c4,c5,c6,c7,c8⟩:=q.cells
     have zf:=Bk.free q2
     obtain⟨z0,z1,z2,z3,z4,z5,z6,z7,z8⟩:=q2.cells
     have h9:=bx q2 (I O s0) (I O s1) (I O s2) (I O s3) (I O s4) (I O s5) (I O s6) (I O s7) (I Q pl)
     have b9:=aX b (show w.heap.size<=w.heap.size+1+1 by omega) (I O s0) (I O s1) (I O s2) (I O s3) (I O s4) (I O s5) (I O s6) (I O s7) (I Q pl)
     clear q q2 b
     go_wp
     generalize hv9:(((((((((y.setCell ⟨(w.heap.size+1+1),0,Z⟩ (I O s0)).setCell ⟨(w.heap.size+1+1),1,Z⟩ (I O s1)).setCell ⟨(w.heap.size+1+1),2,Z⟩ (I O s2)).setCell ⟨(w.heap.size+1+1),3,Z⟩ (I O s3)).setCell ⟨(w.heap.size+1+1),4,Z⟩ (I O s4)).setCell ⟨(w.heap.size+1+1),5,Z⟩ (I O s5)).setCell ⟨(w.heap.size+1+1),6,Z⟩ (I O s6)).setCell ⟨(w.heap.size+1+1),7,Z⟩ (I O s7)).setCell ⟨(w.heap.size+1+1),8,Z⟩ (I Q pl))=v9
     replace hv9:bm y (w.heap.size+1+1) (I O s0) (I O s1) (I O s2) (I O s3) (I O s4) (I O s5) (I O s6) (I O s7) (I Q pl)=v9:=hv9
     rw[hv9] at h9 b9
     obtain⟨y0,y1,y2,y3,y4,y5,y6,y7,y8⟩:=Cb.cells (r0:=s0) (r1:=s1) (r2:=s2) (r3:=s3) (r4:=s4) (r5:=s5) (r6:=s6) (r7:=s7) (pc:=pl) h9
     exact bodyPost_ret (v:=.tuple #[.agg #[I O s0,I O s1,I O s2,I O s3,I O s4,I O s5,I O s6,I O s7,I Q pl],.bool K]) (by simp[results,Tryz.results129,go_sem,y0,y1,y2,y3,y4,y5,y6,y7,y8]) rfl ⟨by rw[HA.out];rfl,b9⟩
  ·replace HA:Hid (A=(⟨[s0,s1,s2,s3,s4,s5,s6,s7],pc+1⟩,K)):=Za (by rw[HA.out];simp[HV.out])
   clear hpl
   go_upto_region 5 with fail
   clear cT cD e0 e1 e2 e3 e4 e5 e6 e7 zf
   generalize x.setCell ⟨w.heap.size,dn,Z⟩ (I O v)=y at *
   obtain⟨c0,c1,c2,c3,c4,c5,c6,c7,c8⟩:=q.cells
   obtain⟨e0,e1,e2,e3,e4,e5,e6,e7⟩:=Ib.cells (i:=⟨op,dn,s,tn,u,a',1,pl⟩) q1
   simp only at e0 e1 e2 e3 e4 e5 e6 e7
   have zf:=Bk.free q
   go_upto_region 9 with fail
   have o0:Cb (y.setCell ⟨w.heap.size,8,Z⟩ (I Q (pc+1))) w.heap.size [s0,s1,s2,s3,s4,s5,s6,s7] (pc+1):=Bk.put q 8 (I Q (pc+1))
   have o2:Cb (y.setCell ⟨w.heap.size,8,Z⟩ (I Q (pc+1))) _ _ _:=Bk.off q2 (p:=⟨w.heap.size,8,Z⟩) (by show w.heap.size+1+1≠w.heap.size;omega) (I Q (pc+1))
   have o3:=b.setCell (p:=⟨w.heap.size,8,Z⟩) (Zc _) (I Q (pc+1))
   clear q q2 b c0 c1 c2 c3 c4 c5 c6 c7 c8 zf e0 e1 e2 e3 e4 e5 e6 e7
   generalize y.setCell ⟨w.heap.size,8,Z⟩ (I Q (pc+1))=y at *
   have q:=o0
   have q2:=o2
   have b:=o3
   clear o0 o2 o3
   obtain⟨c0,c1,c2,c3,c4,c5,c6,c7,c8⟩:=q.cells
   have zf:=Bk.free q2
   obtain⟨z0,z1,z2,z3,z4,z5,z6,z7,z8⟩:=q2.cells
   have h9:=bx q2 (I O s0) (I O s1) (I O s2) (I O s3) (I O s4) (I O s5) (I O s6) (I O s7) (I Q (pc+1))
   have b9:=aX b (show w.heap.size<=w.heap.size+1+1 by omega) (I O s0) (I O s1) (I O s2) (I O s3) (I O s4) (I O s5) (I O s6) (I O s7) (I Q (pc+1))
   clear q q2 b
   go_wp
   generalize hv9:(((((((((y.setCell ⟨(w.heap.size+1+1),0,Z⟩ (I O s0)).setCell ⟨(w.heap.size+1+1),1,Z⟩ (I O s1)).setCell ⟨(w.heap.size+1+1),2,Z⟩ (I O s2)).setCell ⟨(w.heap.size+1+1),3,Z⟩ (I O s3)).setCell ⟨(w.heap.size+1+1),4,Z⟩ (I O s4)).setCell ⟨(w.heap.size+1+1),5,Z⟩ (I O s5)).setCell ⟨(w.heap.size+1+1),6,Z⟩ (I O s6)).setCell ⟨(w.heap.size+1+1),7,Z⟩ (I O s7)).setCell ⟨(w.heap.size+1+1),8,Z⟩ (I Q (pc+1)))=v9
   replace hv9:bm y (w.heap.size+1+1) (I O s0) (I O s1) (I O s2) (I O s3) (I O s4) (I O s5) (I O s6) (I O s7) (I Q (pc+1))=v9:=hv9
   rw[hv9] at h9 b9
   obtain⟨y0,y1,y2,y3,y4,y5,y6,y7,y8⟩:=Cb.cells (r0:=s0) (r1:=s1) (r2:=s2) (r3:=s3) (r4:=s4) (r5:=s5) (r6:=s6) (r7:=s7) (pc:=(pc+1)) h9
   exact bodyPost_ret (v:=.tuple #[.agg #[I O s0,I O s1,I O s2,I O s3,I O s4,I O s5,I O s6,I O s7,I Q (pc+1)],.bool K]) (by simp[results,Tryz.results129,go_sem,y0,y1,y2,y3,y4,y5,y6,y7,y8]) rfl ⟨by rw[HA.out];rfl,b9⟩
end
section
variable {w w':World}{X:XP}{k:Lk}{m:Mc}
theorem ux (h:Ex w X k m)(t:Nat)(ht:t<k.n){i:aJ}(hn:gV k (m.cs t).pc=T i):
 Calls Tryz.prog 48 #[F (T ⟨X.x,0,Z⟩),I Q t] w (pI w i):=by
 have hf:=h.lk.n64
 have hl:=h.lk.parts
 obtain⟨r0,r1,r2,r3,r4,r5,r6,r7,pc,ec⟩:=h.bB ht
 rw[ec] at hn
 simp only at hn
 have h2:=h.below ((Zb _ w).alloc (Zc _) (C #[I Q 0,I Q 0,I Q 0,I Q 0,I Q 0,I Q 0,I O 0,I Q 0] 119))
 have q0:=Ib.made w 0 0 0 0 0 0 0 0
 have b0:Below w.heap.size w (w.alloc (C #[I Q 0,I Q 0,I Q 0,I Q 0,I Q 0,I Q 0,I O 0,I Q 0] 119)):=(Zb _ _).alloc (Zc _) _
 obtain⟨hp0,hp1,hj,hmj⟩:=fg hn
 obtain⟨n,rfl⟩:=Int.eq_ofNat_of_zero_le hp0
 rw[Int.toNat_natCast] at hj
 have HG:Hid (∀ y:World,Ib y w.heap.size aJ.zero->Below w.heap.size w y->Ib (eu y w.heap.size i) w.heap.size i/\Below w.heap.size w (eu y w.heap.size i)):=Za fun y hy hb=>⟨dG hy,aU hb (Zc _)⟩
 have HM:=Za (fun W=>jM i W)
 rw[hmj] at HM
 obtain⟨op,d,s,t',u,a',k',pl⟩:=i
 unfold pI iv
 unfold iv at HM
 simp only at HM ⊢
 go_enter Tryz.func48,Tryz.ntmps48
 go_upto_region 1 with fail
 generalize w.alloc (C #[I Q 0,I Q 0,I Q 0,I Q 0,I Q 0,I Q 0,I O 0,I Q 0] 119)=x at *
 go_wp2_with fail
 refine(lC h2 t ht).mono ?_
 rintro e w' ⟨rfl,rfl⟩
 have c5:=h2.c5
 obtain⟨c0,c1,c2,c3,c4,c5',c6,c7,c8⟩:=h2.core ht ec
 have k0:=h2.c0
 obtain⟨hpv,a,cap,ecv⟩:=h2.pv
 rw[ecv] at k0
 obtain⟨a2,ca2,e2,_,_,_,hsl⟩:=hpv
 simp only[Value.agg.injEq,Array.mk.injEq,List.cons.injEq,ecv,Value.slice.injEq,and_true,true_and] at e2
 obtain⟨rfl,rfl⟩:=e2
 have HSL:=Za hsl
 obtain⟨g,off,rfl,hgl,e0,e1,e2,e3,e4,e5,e6,e7⟩:=hsl.at_ hj
 have hp':decide ((n:Int)<0)=K:=by simp
 have hp2:decide ((n:Int)>=(k.l.length:Int))=K:=by simp;omega
 have hp3:(n:Int)<k.l.length:=hp1
 have hl2:=hl.2.1
 have HQ:=Za q0
 have HB:=Za b0
 have HX:=Za h2
 have HJ:=Za hj
 clear hn hl q0 b0 hmj hsl h hj
 simp only at e0 e1 e2 e3 e4 e5 e6 e7
 go_wp2_with fail
 refine(HM.out _).mono ?_
 rintro e y ⟨rfl,hy⟩
 have q0:=HQ.out.below hy
 obtain⟨g1,g2⟩:=HG.out y q0 (HB.out.trans (hy.mono HB.out.size))
 have zf:=Bk.free q0
 obtain⟨z0,z1,z2,z3,z4,z5,z6,z7⟩:=q0.cells
 simp only at z0 z1 z2 z3 z4 z5 z6 z7
 clear e0 e1 e2 e3 e4 e5 e6 e7 c0 c1 c2 c3 c4 c5 c5' c6 c7 c8 k0
 have h3:=HX.out.below hy
 have k0:=h3.c0
 rw[ecv] at k0
 obtain⟨g',off',ee,hgl',e0,e1,e2,e3,e4,e5,e6,e7⟩:=(HSL.out.below hy).at_ HJ.out
 simp only[Option.some.injEq,Addr.mk.injEq,and_true] at ee
 obtain⟨rfl,rfl⟩:=ee
 simp only at e0 e1 e2 e3 e4 e5 e6 e7
 clear q0 HQ HB HG h2 h3 HM HX HSL HJ hgl'
 have hp4:decide (k.l.length<=n)=K:=by simp;omega
 rw[hp4]
 go_upto_region 6 with fail
 go_wp
 generalize hv9:(((((((y.setCell ⟨w.heap.size,0,Z⟩ (I Q op)).setCell ⟨w.heap.size,1,Z⟩ (I Q d)).setCell ⟨w.heap.size,2,Z⟩ (I Q s)).setCell ⟨w.heap.size,3,Z⟩ (I Q t')).setCell ⟨w.heap.size,4,Z⟩ (I Q u)).setCell ⟨w.heap.size,5,Z⟩ (I Q a')).setCell ⟨w.heap.size,6,Z⟩ (I O k')).setCell ⟨w.heap.size,7,Z⟩ (I Q pl)=v9
 replace hv9:eu y w.heap.size ⟨op,d,s,t',u,a',k',pl⟩=v9:=hv9
 rw[hv9] at g1 g2
 obtain⟨y0,y1,y2,y3,y4,y5,y6,y7⟩:=g1.cells
 simp only at y0 y1 y2 y3 y4 y5 y6 y7
 exact bodyPost_ret (v:=.tuple #[.agg #[I Q op,I Q d,I Q s,I Q t',I Q u,I Q a',I O k',I Q pl],.bool J]) (by simp[results,Tryz.results48,go_sem,y0,y1,y2,y3,y4,y5,y6,y7]) rfl ⟨rfl,g2⟩
end
end
