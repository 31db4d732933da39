import Derived.Test.YtieiifdhdjhnoaaGreatDoorWCell
import Derived.Test.YtieiifdhdjhnoaaGreatDoorWWdB
import Derived.Test.YtieiifdhdjhnoaaGreatDoorWAsmB
import Derived.Test.YtieiifdhdjhnoaaGreatDoorWAsmC
import Derived.Test.YtieiifdhdjhnoaaGreatDoorWCoreU
import Derived.Test.YtieiifdhdjhnoaaGreatDoorWCoreV
import Derived.Test.YtieiifdhdjhnoaaGreatDoorWMem
import Derived.Test.YtieiifdhdjhnoaaGreatDoorWPool
import Derived.ProofKit
import Derived.OpenShut
import Derived.Deep.Fields
import Derived.Lib.SmallJoins
import Derived.Deep.Slices
import Derived.ChangeSame
import Derived.ChangeArms
import Derived.DataReads
import Derived.ArgAppend
import Derived.RegionTactic
import Derived.Deep.RegionLawGrows
import Derived.Deep.RegionHeld3
import Derived.Deep.Onto
set_option linter.unusedVariables false
set_option maxHeartbeats 4000000
set_option maxRecDepth 100000
open Go.Value renaming int->I,slice->K,pointer->J
open Go.IntKind renaming i64->Q,u32->O
open Option renaming none->Z,some->P
open Bool renaming false->T,true->U
open Go.Obj renaming cells->G
open Go.Lib renaming hid->F
open Go.RowKit.Below renaming refl->C
open Nat renaming le_refl->Y
namespace Go.Proofs.YtieiifdhdjhnoaaGreatDoor
section
open Go.ChangeShapes Go.WideShapes Go.ChangeAt Go.RowKit Go.Shelf
theorem AU (t:List UInt8):qg (t++[58])=cz t:=by
 unfold qg
 simp
theorem C2 {s:List UInt8}(h:∀ t,s≠t++[58]):qg s=T:=by
 rw[Bool.eq_false_iff]
 intro e
 unfold qg at e
 simp only[Bool.and_eq_true,decide_eq_true_eq,Bool.not_eq_true',List.isEmpty_eq_false_iff] at e
 obtain⟨h1,h2,_⟩:=e
 refine h s.dropLast ?_
 have:=List.dropLast_concat_getLast h1
 have h3:(s.dropLast++[s.getLast h1]).getLastD 0=58:=by rw[this];exact h2
 simp at h3
 rw[h3] at this
 exact this.symm
def ie (s:List UInt8)(n:Int)(ls:List (List UInt8×Int))(rs:List Rw):Int×List (List UInt8×Int)×List Rw:=
 if qg s=U then (if fB ls s.dropLast=U then (2,ls,rs) else (0,ls++[(s.dropLast,(rs.length:Int))],rs))
 else match d9 s with
  | none=>(8,ls,rs)
  | some (i,nm)=>if 64<=rs.length then (9,ls,rs) else (0,ls,rs++[(i,nm,n)])
section
variable {w:World}{p m lo:Nat}{ls:List (List UInt8×Int)}{rs:List Rw}
theorem BC (h:Dr w p m lo ls rs)(s:List UInt8)(hs:∀ t,s≠t++[10])(hl:s.length<100000)(n:Int):
 Calls Tryz.prog 61 #[J (P ⟨p,0,Z⟩),I Q n,bs s] w fun e w'=>e=.returned (I Q 8)/\w=w':=by
 have HC:=F (fun W=>DM s [10] (by omega) W)
 rw[(p5 hs).1,(p5 hs).2] at HC
 unfold bs
 go_enter Tryz.func61,Tryz.ntmps61
 go_wp2_with fail
 refine(HC.out _).mono ?_
 rintro e w' ⟨rfl,rfl⟩
 unfold bs
 go_wp2
 go_ret
 exact⟨rfl,rfl⟩
def pX (w:World)(p m lo:Nat)(q:Int×List (List UInt8×Int)×List Rw)(e:Ending)(w':World):Prop:=e=.returned (I Q q.1)/\Dr w' p m lo q.2.1 q.2.2/\ab w w' (xb p m lo)
theorem ET (h:Dr w p m lo ls rs)(hlo:lo<=w.heap.size)(L:Lb w)(s:List UInt8)(hl:s.length<90000)(n:Int)(hls:ls.length<1000000)(hrs:rs.length<=64):
 Calls Tryz.prog 61 #[J (P ⟨p,0,Z⟩),I Q n,bs (s++[10])] w (pX w p m lo (ie s n ls rs)):=by
 have HC:=F (fun W=>DM (s++[10]) [10] (by simp;omega) W)
 rw[(lQ s 10).1,(lQ s 10).2] at HC
 have HK:=F (fun W=>DM s [58] (by omega) W)
 have HI:=F (fun W LW=>Bw s (by omega) W LW)
 have HB:Hid (∀ W,Below w.heap.size w W->Dr W p m lo ls rs/\ab w W (xb p m lo)):=F fun W hW=>⟨h.within (ay hW) (by simp) (by simp) (by simp),(ay hW).wide (by simp)⟩
 have HLB:=F (fun W (hW:Below w.heap.size w W)=>L.below hW)
 rcases CE s 58 with ⟨nm,hnm⟩ | hno
 case' inl=>
  have e1:=(lQ nm 58).1
  have e2:=(lQ nm 58).2
  rw[<-hnm] at e1 e2
  rw[e1,e2] at HK
  have HN:=F (fun W=>ux nm W)
  have hlb:qg s=cz nm:=by rw[hnm];exact AU nm
  have kt:s.dropLast=nm:=by rw[hnm];simp
  have HD:=F kt
  have hnl:nm.length<=1000000:=by rw[hnm] at hl;simp at hl;omega
  clear e1 e2 kt
  clear hnm
  unfold bs
  go_enter Tryz.func61,Tryz.ntmps61
  go_wp2_with fail
  refine(HC.out _).mono ?_
  rintro e w' ⟨rfl,rfl⟩
  unfold bs
  go_wp2_with fail
  refine(HK.out _).mono ?_
  rintro e w' ⟨rfl,rfl⟩
  unfold bs
  go_wp2_with fail
  refine(HN.out _).mono ?_
  rintro e x ⟨rfl,bb⟩
  rcases hq:cz nm
  case' true=>
   rw[hq] at hlb
   have HLBL:=F hlb
   clear HI HC HK HN hq hlb
   obtain⟨hD,hW⟩:=HB.out x bb
   rcases hk:fB ls nm
   ·have HA:=F (wh hD nm hnl hls hrs hk)
    go_wp2_with fail
    refine HA.out.mono ?_
    rintro e y ⟨rfl,hD2,hW2⟩
    go_wp2
    go_ret
    have:ie s n ls rs=(0,ls++[(nm,(rs.length:Int))],rs):=by
     unfold ie
     rw[if_pos HLBL.out,HD.out,if_neg (by rw[hk];simp)]
    unfold pX
    rw[this]
    exact⟨rfl,hD2,hW.bp hW2 fun i hi=>.inl hi⟩
   ·have HA:=F (qB hD nm hnl hk)
    go_wp2_with fail
    refine HA.out.mono ?_
    rintro e y ⟨rfl,rfl⟩
    go_wp2
    go_ret
    have:ie s n ls rs=(2,ls,rs):=by
     unfold ie
     rw[if_pos HLBL.out,HD.out,if_pos hk]
    unfold pX
    rw[this]
    exact⟨rfl,hD,hW⟩
  case' false=>
   rw[hq] at hlb
   have HLBL:=F hlb
   clear HC HK HN hq hlb HD
   go_wp2_with fail
 case' inr=>
  rw[(p5 hno).1,(p5 hno).2] at HK
  have HLBL:=F (C2 hno)
  clear hno
  unfold bs
  go_enter Tryz.func61,Tryz.ntmps61
  go_wp2_with fail
  refine(HC.out _).mono ?_
  rintro e w' ⟨rfl,rfl⟩
  unfold bs
  go_wp2_with fail
  refine(HK.out _).mono ?_
  rintro e w' ⟨rfl,rfl⟩
  unfold bs
  have bb:=C w.heap.size w
  clear HC HK
  go_wp2_with fail
 all_goals (
  refine(HI.out _ (HLB.out _ bb)).mono ?_
  rintro e y ⟨rfl,hby⟩
  replace bb:=bb.trans (hby.mono bb.size)
  clear hby HI
  rcases hq:d9 s with _ | ⟨⟨op,d,s',t,u,a,k,pl⟩,nm2⟩
  ·have e:gH s=.tuple #[.agg #[I Q 0,I Q 0,I Q 0,I Q 0,I Q 0,I Q 0,I O 0,I Q 0],.string ⟨#[]⟩,.bool T]:=by unfold gH;rw[hq];rfl
   have ea:ie s n ls rs=(8,ls,rs):=by unfold ie;rw[if_neg (by rw[HLBL.out];simp),hq]
   have EA:=F ea
   rw[e]
   clear e hq HLBL ea
   go_wp2
   go_ret
   unfold pX
   rw[EA.out]
   exact⟨rfl,HB.out _ (bb.alloc bb.size _)⟩
  ·have e:gH s=.tuple #[.agg #[I Q op,I Q d,I Q s',I Q t,I Q u,I Q a,I O k,I Q pl],.string ⟨nm2.toArray⟩,.bool U]:=by unfold gH;rw[hq];rfl
   have ea:ie s n ls rs=if 64<=rs.length then (9,ls,rs) else (0,ls,rs++[(⟨op,d,s',t,u,a,k,pl⟩,nm2,n)]):=by unfold ie;rw[if_neg (by rw[HLBL.out];simp),hq]
   have EA:=F ea
   rw[e]
   clear e hq HLBL ea
   go_upto_region 8 with fail
   have m2:=Ib.made y op d s' t u a k pl
   replace bb:=bb.alloc (o:=G #[I Q op,I Q d,I Q s',I Q t,I Q u,I Q a,I O k,I Q pl] 117) bb.size
   generalize y.heap.size=g at *
   generalize y.alloc (G #[I Q op,I Q d,I Q s',I Q t,I Q u,I Q a,I O k,I Q pl] 117)=x3 at *
   obtain⟨c0,c1,c2,c3,c4,c5,c6,c7⟩:=m2.cells
   simp only at c0 c1 c2 c3 c4 c5 c6 c7
   obtain⟨hD,hW⟩:=HB.out x3 bb
   go_wp2_with fail
   by_cases h64:rs.length<64
   ·refine(BA hD h64 (Nat.le_trans hlo bb.size) (⟨op,d,s',t,u,a,k,pl⟩,nm2,n)).mono ?_
    rintro e z ⟨rfl,hD2,hW2⟩
    go_wp2
    go_ret
    unfold pX
    rw[EA.out,if_neg (by omega)]
    exact⟨rfl,hD2,hW.bp hW2 fun i hi=>.inl hi⟩
   ·refine(wg hD (by omega) (⟨op,d,s',t,u,a,k,pl⟩,nm2,n)).mono ?_
    rintro e z ⟨rfl,hz⟩
    go_wp2
    go_ret
    unfold pX
    rw[EA.out,if_pos (by omega)]
    exact⟨rfl,HB.out _ (bb.trans (hz.mono bb.size))⟩)
end
end
section
open Go.Joins Go.ChangeShapes Go.WideShapes Go.ChangeAt Go.RowKit Go.Deep
theorem own:ownKnob Tryz.prog.godebug=Z:=by kernel_rfl
theorem uo:laidOutB Tryz.prog=U:=by kernel_rfl
theorem uO (a:Int)(d:Nat)(w:World):(Op.equalIn (d+1) 3 (I Q a) (I Q a)).run Tryz.prog w=.ok U w:=by
 simp[Op.equalIn,run_underlying Tryz.underlying3]
theorem xR:(Tryz.prog.info? 3).isSome=U:=by kernel_rfl
theorem uN (x0 x1 x2 x3 x4 x5 x6 x7:Int)(d:Nat)(w:World):(Op.equalIn (d+1+1) 109 (.agg #[I Q x0,I Q x1,I Q x2,I Q x3,I Q x4,I Q x5,I Q x6,I Q x7]) (.agg #[I Q x0,I Q x1,I Q x2,I Q x3,I Q x4,I Q x5,I Q x6,I Q x7])).run Tryz.prog w=.ok U w:=by
 obtain⟨i,hi⟩:=Option.isSome_iff_exists.1 xR
 have hc:Tryz.prog.cellsOf 3=1:=by kernel_rfl
 rw[run_equalIn_array w (d+1) _ _ Tryz.underlying109 hi,hc,show List.range 8=[0,1,2,3,4,5,6,7] from rfl]
 simp[Op.eqItems,part,uO]
theorem Bz (c:im)(v:Value)(xs:List Int)(pc:Int)(self:Int)(unl:Bool)(w:World)(hv:Pv w v c)(hl:c.l.length<=64)(hi:∀ i∈c.l,BM i)(hx:bh xs)(h0:0<=self)(h1:self<4294967296):
 Calls Tryz.prog 47 #[cv xs pc,v,I Q self,.bool unl] w (zU w (fM self c.l 256 xs (if unl then c.un else c.lo) [])):=by
 have HE:=F (fV hi h0 h1 256 xs (if unl then c.un else c.lo) [] hx)
 obtain⟨RR,hRR⟩:∃ R,R=fM self c.l 256 xs (if unl then c.un else c.lo) []:=⟨_,rfl⟩
 have HRun:Hid (∀ W v,Pv W v c->Calls Tryz.prog 51 #[cv xs (if unl then c.un else c.lo),v,I Q self] W (zU W RR)):=F fun W v h=>by rw[hRR];exact Ce c v xs _ self W h hl hi hx h0 h1
 rw[<-hRR] at HE ⊢
 clear hRR
 obtain⟨a,ca,rfl,hc1,hc2,hcn,ha⟩:=hv
 obtain⟨r0,r1,r2,r3,r4,r5,r6,r7,rfl⟩:=aC hx.1
 have q0:Cb (((w.alloc (G #[I O r0,I O r1,I O r2,I O r3,I O r4,I O r5,I O r6,I O r7,I Q pc] 107)).alloc (G #[K a c.l.length ca,I Q c.lo,I Q c.un] 24)).alloc (G #[I O 0,I O 0,I O 0,I O 0,I O 0,I O 0,I O 0,I O 0,I Q 0] 107)) w.heap.size [r0,r1,r2,r3,r4,r5,r6,r7] pc:=((Cb.made w [r0,r1,r2,r3,r4,r5,r6,r7] pc).alloc (G #[K a c.l.length ca,I Q c.lo,I Q c.un] 24)).alloc (G #[I O 0,I O 0,I O 0,I O 0,I O 0,I O 0,I O 0,I O 0,I Q 0] 107)
 have q1:Bk (((w.alloc (G #[I O r0,I O r1,I O r2,I O r3,I O r4,I O r5,I O r6,I O r7,I Q pc] 107)).alloc (G #[K a c.l.length ca,I Q c.lo,I Q c.un] 24)).alloc (G #[I O 0,I O 0,I O 0,I O 0,I O 0,I O 0,I O 0,I O 0,I Q 0] 107)) (w.heap.size+1) 24 #[K a c.l.length ca,I Q c.lo,I Q c.un]:=by
  have:=Bk.alloc (Bk.made (w.alloc (G #[I O r0,I O r1,I O r2,I O r3,I O r4,I O r5,I O r6,I O r7,I Q pc] 107)) 24 #[K a c.l.length ca,I Q c.lo,I Q c.un]) (G #[I O 0,I O 0,I O 0,I O 0,I O 0,I O 0,I O 0,I O 0,I Q 0] 107)
  rw[World.size_alloc] at this
  exact this
 have q2:Cb (((w.alloc (G #[I O r0,I O r1,I O r2,I O r3,I O r4,I O r5,I O r6,I O r7,I Q pc] 107)).alloc (G #[K a c.l.length ca,I Q c.lo,I Q c.un] 24)).alloc (G #[I O 0,I O 0,I O 0,I O 0,I O 0,I O 0,I O 0,I O 0,I Q 0] 107)) (w.heap.size+1+1) [0,0,0,0,0,0,0,0] 0:=by
  have:=Cb.made ((w.alloc (G #[I O r0,I O r1,I O r2,I O r3,I O r4,I O r5,I O r6,I O r7,I Q pc] 107)).alloc (G #[K a c.l.length ca,I Q c.lo,I Q c.un] 24)) [0,0,0,0,0,0,0,0] 0
  rw[World.size_alloc,World.size_alloc] at this
  exact this
 have b0:Below w.heap.size w (((w.alloc (G #[I O r0,I O r1,I O r2,I O r3,I O r4,I O r5,I O r6,I O r7,I Q pc] 107)).alloc (G #[K a c.l.length ca,I Q c.lo,I Q c.un] 24)).alloc (G #[I O 0,I O 0,I O 0,I O 0,I O 0,I O 0,I O 0,I O 0,I Q 0] 107)):=(((C _ _).alloc (Y _) _).alloc (by simp) _).alloc (by simp;omega) _
 unfold zU dH cv at *
 simp only[bP,List.map_cons,List.map_nil,List.cons_append,List.nil_append] at HRun ⊢
 go_enter Tryz.func47,Tryz.ntmps47
 go_upto_region 1 with fail
 generalize ((w.alloc (G #[I O r0,I O r1,I O r2,I O r3,I O r4,I O r5,I O r6,I O r7,I Q pc] 107)).alloc (G #[K a c.l.length ca,I Q c.lo,I Q c.un] 24)).alloc (G #[I O 0,I O 0,I O 0,I O 0,I O 0,I O 0,I O 0,I O 0,I Q 0] 107)=x at *
 obtain⟨c0,c1,c2,c3,c4,c5,c6,c7,c8⟩:=q0.cells
 obtain⟨k0,k1,k2⟩:=q1.lz
 have zf:=Bk.free q0
 go_upto_region 2 with fail
 have p0:Cb (x.setCell ⟨w.heap.size,8,Z⟩ (I Q c.lo)) w.heap.size [r0,r1,r2,r3,r4,r5,r6,r7] c.lo:=Bk.put q0 8 (I Q c.lo)
 have p1:=Bk.off q1 (p:=⟨w.heap.size,8,Z⟩) (by show w.heap.size+1≠w.heap.size;omega) (I Q c.lo)
 have p2:Cb (x.setCell ⟨w.heap.size,8,Z⟩ (I Q c.lo)) _ _ _:=Bk.off q2 (p:=⟨w.heap.size,8,Z⟩) (by show w.heap.size+1+1≠w.heap.size;omega) (I Q c.lo)
 have b1:=b0.setCell (p:=⟨w.heap.size,8,Z⟩) (Y _) (I Q c.lo)
 clear q0 q1 q2 b0 c0 c1 c2 c3 c4 c5 c6 c7 c8 k0 k1 k2 zf
 generalize x.setCell ⟨w.heap.size,8,Z⟩ (I Q c.lo)=y at *
 obtain⟨c0,c1,c2,c3,c4,c5,c6,c7,c8⟩:=p0.cells
 obtain⟨k0,k1,k2⟩:=p1.lz
 cases unl
 ·simp only[Bool.false_eq_true,if_false] at HRun
  go_upto_region 4 with fail
  have hPv:Pv y (.agg #[K a c.l.length ca,I Q c.lo,I Q c.un]) c:=⟨a,ca,rfl,hc1,hc2,hcn,ha.below b1⟩
  replace HRun:=F (HRun.out y _ hPv)
  clear hPv
  go_wp2_with fail
  refine HRun.out.mono ?_
  rintro e z ⟨m,rfl,hml,hz⟩
  clear c0 c1 c2 c3 c4 c5 c6 c7 c8 k0 k1 k2 HRun
  have hR:km w a c.l.length ca c.lo c.un m [r0,r1,r2,r3,r4,r5,r6,r7] c.lo RR.ms z:=⟨b1.trans (hz.mono b1.size),p0.below hz,(hz.block _ p1.lt).trans p1,p2.below hz,hml.1,fun g e=>Nat.le_trans b1.size (hml.2 g e)⟩
  clear p0 p1 p2 b1 hz hml
  obtain⟨s0,s1,s2,s3,s4,s5,s6,s7,hs⟩:=aC HE.out.1
  have HX:=F hs
  rw[hs]
  clear hs
  simp only[List.map_cons,List.map_nil,List.cons_append,List.nil_append]
  obtain⟨n0,n1,n2,n3,n4,n5,n6,n7,n8⟩:=hR.r.cells
  have zf:=Bk.free hR.r
  have hf9:=hR.f
  obtain⟨l9,b9,k9⟩:=hR.ret (r0:=s0) (r1:=s1) (r2:=s2) (r3:=s3) (r4:=s4) (r5:=s5) (r6:=s6) (r7:=s7) (pc':=RR.pc)
  go_wp
  generalize hv9:(((((((((z.setCell ⟨w.heap.size+1+1,0,Z⟩ (I O s0)).setCell ⟨w.heap.size+1+1,1,Z⟩ (I O s1)).setCell ⟨w.heap.size+1+1,2,Z⟩ (I O s2)).setCell ⟨w.heap.size+1+1,3,Z⟩ (I O s3)).setCell ⟨w.heap.size+1+1,4,Z⟩ (I O s4)).setCell ⟨w.heap.size+1+1,5,Z⟩ (I O s5)).setCell ⟨w.heap.size+1+1,6,Z⟩ (I O s6)).setCell ⟨w.heap.size+1+1,7,Z⟩ (I O s7)).setCell ⟨w.heap.size+1+1,8,Z⟩ (I Q RR.pc))=v9
  replace hv9:bn z (w.heap.size+1+1) (I O s0) (I O s1) (I O s2) (I O s3) (I O s4) (I O s5) (I O s6) (I O s7) (I Q RR.pc)=v9:=hv9
  rw[hv9] at l9 b9 k9
  obtain⟨y0,y1,y2,y3,y4,y5,y6,y7,y8⟩:=k9.cells
  exact bodyPost_ret (v:=.tuple #[.agg #[I O s0,I O s1,I O s2,I O s3,I O s4,I O s5,I O s6,I O s7,I Q RR.pc],m,I Q RR.done,I Q RR.e]) (by simp[results,Tryz.results47,go_sem,y0,y1,y2,y3,y4,y5,y6,y7,y8]) rfl ⟨m,by rw[HX.out];rfl,⟨l9,hf9⟩,b9⟩
 ·simp only[if_true] at HRun
  have zf:=Bk.free p0
  go_upto_region 4 with fail
  have o0:Cb (y.setCell ⟨w.heap.size,8,Z⟩ (I Q c.un)) w.heap.size [r0,r1,r2,r3,r4,r5,r6,r7] c.un:=Bk.put p0 8 (I Q c.un)
  have o1:=Bk.off p1 (p:=⟨w.heap.size,8,Z⟩) (by show w.heap.size+1≠w.heap.size;omega) (I Q c.un)
  have o2:Cb (y.setCell ⟨w.heap.size,8,Z⟩ (I Q c.un)) _ _ _:=Bk.off p2 (p:=⟨w.heap.size,8,Z⟩) (by show w.heap.size+1+1≠w.heap.size;omega) (I Q c.un)
  have o3:=b1.setCell (p:=⟨w.heap.size,8,Z⟩) (Y _) (I Q c.un)
  clear p0 p1 p2 b1 c0 c1 c2 c3 c4 c5 c6 c7 c8 k0 k1 k2 zf
  have p0:=o0
  have p1:=o1
  have p2:=o2
  have b1:=o3
  clear o0 o1 o2 o3
  generalize y.setCell ⟨w.heap.size,8,Z⟩ (I Q c.un)=y at *
  obtain⟨c0,c1,c2,c3,c4,c5,c6,c7,c8⟩:=p0.cells
  obtain⟨k0,k1,k2⟩:=p1.lz
  have hPv:Pv y (.agg #[K a c.l.length ca,I Q c.lo,I Q c.un]) c:=⟨a,ca,rfl,hc1,hc2,hcn,ha.below b1⟩
  replace HRun:=F (HRun.out y _ hPv)
  clear hPv
  go_wp2_with fail
  refine HRun.out.mono ?_
  rintro e z ⟨m,rfl,hml,hz⟩
  clear c0 c1 c2 c3 c4 c5 c6 c7 c8 k0 k1 k2 HRun
  have hR:km w a c.l.length ca c.lo c.un m [r0,r1,r2,r3,r4,r5,r6,r7] c.un RR.ms z:=⟨b1.trans (hz.mono b1.size),p0.below hz,(hz.block _ p1.lt).trans p1,p2.below hz,hml.1,fun g e=>Nat.le_trans b1.size (hml.2 g e)⟩
  clear p0 p1 p2 b1 hz hml
  obtain⟨s0,s1,s2,s3,s4,s5,s6,s7,hs⟩:=aC HE.out.1
  have HX:=F hs
  rw[hs]
  clear hs
  simp only[List.map_cons,List.map_nil,List.cons_append,List.nil_append]
  obtain⟨n0,n1,n2,n3,n4,n5,n6,n7,n8⟩:=hR.r.cells
  have zf:=Bk.free hR.r
  have hf9:=hR.f
  obtain⟨l9,b9,k9⟩:=hR.ret (r0:=s0) (r1:=s1) (r2:=s2) (r3:=s3) (r4:=s4) (r5:=s5) (r6:=s6) (r7:=s7) (pc':=RR.pc)
  go_wp
  generalize hv9:(((((((((z.setCell ⟨w.heap.size+1+1,0,Z⟩ (I O s0)).setCell ⟨w.heap.size+1+1,1,Z⟩ (I O s1)).setCell ⟨w.heap.size+1+1,2,Z⟩ (I O s2)).setCell ⟨w.heap.size+1+1,3,Z⟩ (I O s3)).setCell ⟨w.heap.size+1+1,4,Z⟩ (I O s4)).setCell ⟨w.heap.size+1+1,5,Z⟩ (I O s5)).setCell ⟨w.heap.size+1+1,6,Z⟩ (I O s6)).setCell ⟨w.heap.size+1+1,7,Z⟩ (I O s7)).setCell ⟨w.heap.size+1+1,8,Z⟩ (I Q RR.pc))=v9
  replace hv9:bn z (w.heap.size+1+1) (I O s0) (I O s1) (I O s2) (I O s3) (I O s4) (I O s5) (I O s6) (I O s7) (I Q RR.pc)=v9:=hv9
  rw[hv9] at l9 b9 k9
  obtain⟨y0,y1,y2,y3,y4,y5,y6,y7,y8⟩:=k9.cells
  exact bodyPost_ret (v:=.tuple #[.agg #[I O s0,I O s1,I O s2,I O s3,I O s4,I O s5,I O s6,I O s7,I Q RR.pc],m,I Q RR.done,I Q RR.e]) (by simp[results,Tryz.results47,go_sem,y0,y1,y2,y3,y4,y5,y6,y7,y8]) rfl ⟨m,by rw[HX.out];rfl,⟨l9,hf9⟩,b9⟩
theorem iK {W:World}{m:Value}{ms:List Int}{g:Nat}{ty:TypeId}{cs:Array Value}(hl:eH .i64 3 W m ms)(hk:Bk W g ty cs)(ht:ty≠3)(a b c d e f h i j:Value):eH .i64 3 (bn W g a b c d e f h i j) m ms:=by
 have hW:ab W (bn W g a b c d e f h i j) (fun x=>x=g):=by
  unfold bn
  exact(((((((((ab.refl W (fun b=>b=g)).put _ 0 _ (.inl rfl)).put _ 1 _ (.inl rfl)).put _ 2 _ (.inl rfl)).put _ 3 _ (.inl rfl)).put _ 4 _ (.inl rfl)).put _ 5 _ (.inl rfl)).put _ 6 _ (.inl rfl)).put _ 7 _ (.inl rfl)).put _ 8 _ (.inl rfl)
 refine hl.within hW fun x ex e2=>?_
 obtain⟨FZ,hcs⟩:=hl.bk ex
 exact Bk.aj hcs hk (fun e=>ht e.symm) e2
def lF (v0:Value)(ms:List Int)(D E:Int)(v:Value)(W:World):Prop:=∃ m,v=.tuple #[v0,m,I Q D,I Q E]/\eH .i64 3 W m ms
theorem lF.below {v0:Value}{ms:List Int}{D E:Int}{v:Value}{W W':World}(h:lF v0 ms D E v W)(hb:Below W.heap.size W W'):lF v0 ms D E v W':=by
 obtain⟨m,e,h⟩:=h
 exact⟨m,e,fQ h hb⟩
theorem eC {B:Nat}{W W':World}{m:Value}{ms:List Int}(h:dH B W m ms)(hb:Below W.heap.size W W'):dH B W' m ms:=⟨fQ h.1 hb,h.2⟩
theorem iS {B:Nat}{W:World}{m:Value}{ms:List Int}{g:Nat}{ty:TypeId}{cs:Array Value}(hl:dH B W m ms)(hk:Bk W g ty cs)(ht:ty≠3)(a b c d e f h i j:Value):dH B (bn W g a b c d e f h i j) m ms:=⟨iK hl.1 hk ht a b c d e f h i j,hl.2⟩
def gD (B:Nat)(v0:Value)(ms:List Int)(D E:Int)(v:Value)(W:World):Prop:=∃ m,v=.tuple #[v0,m,I Q D,I Q E]/\dH B W m ms
theorem gD.below {B:Nat}{v0:Value}{ms:List Int}{D E:Int}{v:Value}{W W':World}(h:gD B v0 ms D E v W)(hb:Below W.heap.size W W'):gD B v0 ms D E v W':=by
 obtain⟨m,e,h⟩:=h
 exact⟨m,e,eC h hb⟩
end
section
open Go.ChangeShapes Go.WideShapes Go.ChangeAt Go.RowKit
structure RM where
 fv:Value
 gv:Value
 ov:Value
 vs:Nat->Value
def RM.Has (R:RM)(n i:Nat):Prop:=R.fv.ownBlock=P i\/R.gv.ownBlock=P i\/R.ov.ownBlock=P i\/∃ t,t<n/\(R.vs t).ownBlock=P i
def mA (l:List Nat):List Int:=l.map fun(q:Nat)=>((q:Nat):Int)+1
structure Rf (w:World)(x n each:Nat)(R:RM)(free:Nat->List Nat)(gen out:List Int):Prop where
 ptr:Bk w x 158 #[I Q each,R.fv,R.gv,R.ov]
 row:pY 25 w R.fv ((List.range n).map R.vs)
 gens:eH .i64 3 w R.gv gen
 outs:eH .i64 3 w R.ov out
 frees:∀ t,t<n->Fs w (R.vs t) (mA (free t))
 go:∀ g,R.gv.ownBlock=P g->R.ov.ownBlock≠P g
 vg:∀ t g,t<n->(R.vs t).ownBlock=P g->R.gv.ownBlock≠P g
 vo:∀ t g,t<n->(R.vs t).ownBlock=P g->R.ov.ownBlock≠P g
 vv:∀ s t g,s<n->t<n->s≠t->(R.vs s).ownBlock=P g->(R.vs t).ownBlock≠P g
section
variable {w w':World}{x n each:Nat}{R:RM}{free:Nat->List Nat}{gen out:List Int}
theorem Rf.lt (h:Rf w x n each R free gen out){i:Nat}(k:R.Has n i):i<w.heap.size:=by
 rcases k with e | e | e | ⟨t,ht,e⟩
 ·exact h.row.lt e
 ·exact h.gens.lt e
 ·exact h.outs.lt e
 ·exact(h.frees t ht).lt e
theorem Rf.kept {S:Nat->Prop}(h:Rf w x n each R free gen out)(k:ab w w' S)(h1:¬ S x)(h2:∀ i,R.Has n i->¬ S i):Rf w' x n each R free gen out:=
 ⟨h.ptr.within k h1,h.row.within k (fun g e=>h2 g (.inl e)),h.gens.within k (fun g e=>h2 g (.inr (.inl e))),h.outs.within k (fun g e=>h2 g (.inr (.inr (.inl e)))),
  fun t ht=>(h.frees t ht).within k (fun g e=>h2 g (.inr (.inr (.inr ⟨t,ht,e⟩)))),h.go,h.vg,h.vo,h.vv⟩
theorem Rf.grown (h:Rf w x n each R free gen out)(k:w.grownBy w' Z):Rf w' x n each R free gen out:=h.kept (S:=fun _=>False) (.az k (by simp)) (by simp) (by simp)
theorem Rf.drewN (h:Rf w x n each R free gen out)(m:Nat):Rf (w.drewN m) x n each R free gen out:=h.kept (S:=fun _=>False) ((ab.refl _ _).dg m) (by simp) (by simp)
theorem Rf.c0 (h:Rf w x n each R free gen out):w.cell? ⟨x,0,Z⟩=P (I Q each):=by rw[h.ptr.cell];rfl
theorem Rf.c1 (h:Rf w x n each R free gen out):w.cell? ⟨x,1,Z⟩=P R.fv:=by rw[h.ptr.cell];rfl
theorem Rf.c2 (h:Rf w x n each R free gen out):w.cell? ⟨x,2,Z⟩=P R.gv:=by rw[h.ptr.cell];rfl
theorem Rf.c3 (h:Rf w x n each R free gen out):w.cell? ⟨x,3,Z⟩=P R.ov:=by rw[h.ptr.cell];rfl
theorem Rf.FG (h:Rf w x n each R free gen out)(hn:1<=n):∃ g cap,R.fv=K (P ⟨g,0,Z⟩) n cap/\n<=cap/\cap<=maxLen/\(∀ i,w.frozen? ⟨g,i,Z⟩=T)/\∀ t,t<n->w.cell? ⟨g,t,Z⟩=P (R.vs t):=by
 obtain⟨a,cap,e,h1,h2,h3⟩:=h.row.is
 simp only[List.length_map,List.length_range] at e h1 h3
 obtain⟨g,rfl,_,hf,hc⟩:=h3 hn
 refine⟨g,cap,e,h1,h2,hf,fun t ht=>?_⟩
 rcases hc t with hc | hc
 ·rw[hc];simp[ht]
 ·omega
end
def tG:List Value->Nat->List Value->List Value
 | xs,_,[]=>xs
 | xs,o,v :: vs=>tG (xs.set o v) (o+1) vs
def ic (y:World)(g:Nat):Nat->List Value->World
 | _,[]=>y
 | o,v :: vs=>ic (y.setCell ⟨g,o,Z⟩ v) g (o+1) vs
theorem pD:∀ (vs xs:List Value) (o i:Nat),o+vs.length<=xs.length->(tG xs o vs)[i]?=if o<=i/\i<o+vs.length then vs[i-o]? else xs[i]?
 | [],xs,o,i,_=>by rw[tG,if_neg (by simp)]
 | v :: vs,xs,o,i,h=>by
  simp only[List.length_cons] at h
  rw[tG,pD vs _ _ _ (by rw[List.length_set];omega),List.length_cons]
  by_cases e:i=o
  ·subst e
   rw[if_neg (by omega),if_pos (by omega),List.getElem?_set_self (by omega),Nat.sub_self]
   rfl
  ·rw[List.getElem?_set_ne (fun e'=>e e'.symm)]
   by_cases hi:o<=i/\i<o+(vs.length+1)
   ·rw[if_pos (by omega),if_pos hi,show i-o=(i-(o+1))+1 by omega]
    rfl
   ·rw[if_neg (by omega),if_neg hi]
theorem tY {g:Nat}{t:TypeId}:∀ (vs cs:List Value) (o:Nat) (y:World),Bk y g t cs.toArray->Bk (ic y g o vs) g t (tG cs o vs).toArray
 | [],cs,o,y,h=>h
 | v :: vs,cs,o,y,h=>by
  have h2:=h.put o v
  rw[List.setIfInBounds_toArray] at h2
  exact tY vs _ (o+1) _ h2
theorem eF {g:Nat}:∀ (vs:List Value) (o:Nat) (y:World),fD y (ic y g o vs) g
 | [],o,y=>cP y _
 | v :: vs,o,y=>aU (cY y g o v) (eF vs (o+1) _) (.inl rfl)
theorem nt {xs:List Int}{pc:Int}(h:xs.length=8):(bP xs pc).length=9:=by simp[bP,h]
def eU (cs:Nat->kX)(n:Nat):List Value:=(List.range n).flatMap fun t=>bP (cs t).xs (cs t).pc
theorem nl {α:Type}(f:α->List Value)(n:Nat):∀ (l:List α),(∀ x∈l,(f x).length=n)->(l.flatMap f).length=l.length*n
 | [],_=>by simp
 | x :: l,h=>by
  rw[List.flatMap_cons,List.length_append,h x (by simp),nl f n l (fun y hy=>h y (by simp[hy])),List.length_cons,Nat.add_mul]
  omega
theorem nn {α:Type}(f:α->List Value)(n:Nat):∀ (l:List α),(∀ x∈l,(f x).length=n)->∀ (k j:Nat) (x:α),l[k]?=P x->j<n->(l.flatMap f)[k*n+j]?=(f x)[j]?
 | [],_,k,j,x,h,_=>by simp at h
 | y :: l,hf,0,j,x,h,hj=>by
  simp at h
  subst h
  simp[List.getElem?_append,hf,hj]
 | y :: l,hf,k+1,j,x,h,hj=>by
  have ih:=nn f n l (fun z hz=>hf z (by simp[hz])) k j x (by simpa using h) hj
  rw[<-ih,List.flatMap_cons,show (k+1)*n+j=n+(k*n+j) by rw[Nat.add_mul];omega,List.getElem?_append_right (by rw[hf y (by simp)];omega),hf y (by simp)]
  congr 1
  omega
section
variable {cs:Nat->kX}{n:Nat}
theorem fX (h:∀ t,t<n->bh (cs t).xs):(eU cs n).length=n*9:=by
 unfold eU
 rw[nl _ 9 _ (fun t ht=>nt (h t (List.mem_range.1 ht)).1),List.length_range]
theorem fR (h:∀ t,t<n->bh (cs t).xs){t j:Nat}(ht:t<n)(hj:j<9):(eU cs n)[t*9+j]?=(bP (cs t).xs (cs t).pc)[j]?:=
 nn _ 9 _ (fun t ht=>nt (h t (List.mem_range.1 ht)).1) t j t (by simp[ht]) hj
theorem tt (h:∀ t,t<n->bh (cs t).xs){t:Nat}(ht:t<n){c:kX}(hc:bh c.xs):tG (eU cs n) (t*9) (bP c.xs c.pc)=eU (fA cs t c) n:=by
 have h2:=eW (n:=n) h hc t
 apply List.ext_getElem?
 intro i
 have hl:=fX h
 have hl2:=fX h2
 have hcl:=nt (pc:=c.pc) hc.1
 have hle:t*9+9<=n*9:=by omega
 rw[pD _ _ _ _ (by rw[hcl,hl];exact hle),hcl]
 by_cases hi:i<n*9
 ·obtain⟨s,j,hs,hj,rfl⟩:∃ s j,s<n/\j<9/\i=s*9+j:=⟨i / 9,i % 9,by omega,by omega,by omega⟩
  rw[fR h2 hs hj,fR h hs hj]
  by_cases e:s=t
  ·subst e
   rw[if_pos (by omega),kw,show s*9+j-s*9=j by omega]
  ·rw[if_neg (by omega),jg e]
 ·rw[if_neg (by omega),List.getElem?_eq_none (by omega),List.getElem?_eq_none (by omega)]
end
theorem Mm.within {w w':World}{p q g s:Nat}{zs xs:List Int}{S:Nat->Prop}(h:Mm w p q g s zs xs)(k:ab w w' S)(h1:¬ S p)(h2:¬ S q)(h3:¬ S g)(h4:¬ S s):Mm w' p q g s zs xs:=
 ⟨h.ptr.within k h1,⟨h.cel.ptr.within k h2,h.cel.row.within k h3,h.cel.rng,h.cel.few⟩,h.row.within k h4,h.right,h.len⟩
def zD (w:World)(p n each:Nat)(M:PM)(pn:Pn):Prop:=∃ fr os c,Pl w p n each M fr os c/\jx n each pn.free pn.gen pn.out fr os c
structure XP where
 x:Nat
 cv:Value
 kb:Nat
 p:Nat
 q:Nat
 g:Nat
 s:Nat
 pp:Nat
 M:PM
def XP.Own (X:XP)(n i:Nat):Prop:=i=X.x\/X.cv.ownBlock=P i\/i=X.kb\/i=X.p\/i=X.q\/i=X.g\/i=X.s\/i=X.pp\/i=X.M.g\/X.M.Has n i
def XP.Has (X:XP)(n i:Nat):Prop:=i=X.kb\/i=X.g\/X.M.Has n i
theorem XP.i4 {X:XP}{n i:Nat}(h:X.Has n i):X.Own n i:=by
 rcases h with h | h | h
 ·exact .inr (.inr (.inl h))
 ·exact .inr (.inr (.inr (.inr (.inr (.inl h)))))
 ·exact .inr (.inr (.inr (.inr (.inr (.inr (.inr (.inr (.inr h))))))))
structure Ex (w:World)(X:XP)(k:Lk)(m:Mc):Prop where
 ptr:Bk w X.x 104 #[X.cv,I Q k.lo,I Q k.un,J (P ⟨X.p,0,Z⟩),J (P ⟨X.pp,0,Z⟩),K (P ⟨X.kb,0,Z⟩) k.n k.n]
 code:w.ownsRow 0 117 8 X.cv k.l.length (bE k.l)
 cores:Bk w X.kb 107 (eU m.cs k.n).toArray
 mem:Mm w X.p X.q X.g X.s k.zs m.ws
 dV:zD w X.pp k.n k.each X.M m.pn
 lk:mE k
 mc:Fl k m
section
variable {w w':World}{X:XP}{k:Lk}{m:Mc}
theorem Ex.kept {S:Nat->Prop}(h:Ex w X k m)(hw:ab w w' S)(hn:∀ i,X.Own k.n i->¬ S i):Ex w' X k m:=by
 obtain⟨fr,os,c,hp,hs⟩:=h.dV
 unfold XP.Own at hn
 exact⟨h.ptr.within hw (hn _ (.inl rfl)),aq h.code hw (fun g e=>hn g (.inr (.inl e))),h.cores.within hw (hn _ (.inr (.inr (.inl rfl)))),
  h.mem.within hw (hn _ (.inr (.inr (.inr (.inl rfl))))) (hn _ (.inr (.inr (.inr (.inr (.inl rfl)))))) (hn _ (.inr (.inr (.inr (.inr (.inr (.inl rfl))))))) (hn _ (.inr (.inr (.inr (.inr (.inr (.inr (.inl rfl)))))))),
  ⟨fr,os,c,hp.kept hw (hn _ (.inr (.inr (.inr (.inr (.inr (.inr (.inr (.inl rfl))))))))) (hn _ (.inr (.inr (.inr (.inr (.inr (.inr (.inr (.inr (.inl rfl)))))))))) (fun i hi=>hn i (.inr (.inr (.inr (.inr (.inr (.inr (.inr (.inr (.inr hi)))))))))),hs⟩,h.lk,h.mc⟩
theorem Ex.below (h:Ex w X k m)(hb:Below w.heap.size w w'):Ex w' X k m:=h.kept (ay hb) (by simp)
theorem Ex.lt (h:Ex w X k m){i:Nat}(hi:X.Own k.n i):i<w.heap.size:=by
 obtain⟨fr,os,c,hp,hs⟩:=h.dV
 rcases hi with rfl | e | rfl|rfl|rfl|rfl|rfl|rfl|rfl | e
 ·exact h.ptr.lt
 ·exact(World.ownsRow.lt h.code i e).2
 ·exact h.cores.lt
 ·exact h.mem.ptr.lt
 ·exact h.mem.cel.ptr.lt
 ·exact h.mem.cel.row.lt
 ·exact h.mem.row.lt
 ·exact hp.BP
 ·exact hp.wY
 ·exact hp.lt e
theorem Ex.c0 (h:Ex w X k m):w.cell? ⟨X.x,0,Z⟩=P X.cv:=by rw[h.ptr.cell];rfl
theorem Ex.c1 (h:Ex w X k m):w.cell? ⟨X.x,1,Z⟩=P (I Q k.lo):=by rw[h.ptr.cell];rfl
theorem Ex.c2 (h:Ex w X k m):w.cell? ⟨X.x,2,Z⟩=P (I Q k.un):=by rw[h.ptr.cell];rfl
theorem Ex.c3 (h:Ex w X k m):w.cell? ⟨X.x,3,Z⟩=P (J (P ⟨X.p,0,Z⟩)):=by rw[h.ptr.cell];rfl
theorem Ex.c4 (h:Ex w X k m):w.cell? ⟨X.x,4,Z⟩=P (J (P ⟨X.pp,0,Z⟩)):=by rw[h.ptr.cell];rfl
theorem Ex.c5 (h:Ex w X k m):w.cell? ⟨X.x,5,Z⟩=P (K (P ⟨X.kb,0,Z⟩) k.n k.n):=by rw[h.ptr.cell];rfl
theorem Ex.pv (h:Ex w X k m):Pv w (.agg #[X.cv,I Q k.lo,I Q k.un]) ⟨k.l,k.lo,k.un⟩/\∃ a cap,X.cv=K a k.l.length cap:=by
 obtain⟨a,cap,e,h1,h2,_⟩:=bt h.code
 have ho:=h.code
 rw[e] at ho ⊢
 exact⟨⟨a,cap,rfl,h1,h2,pG ho,pC ho⟩,a,cap,rfl⟩
theorem Ex.uw (h:Ex w X k m){t:Nat}(ht:t<k.n){j:Nat}(hj:j<9):w.cell? ⟨X.kb,t*9+j,Z⟩=(bP (m.cs t).xs (m.cs t).pc)[j]?:=by
 rw[h.cores.cell,List.getElem?_toArray,fR h.mc.cs ht hj]
theorem Ex.core (h:Ex w X k m){t:Nat}(ht:t<k.n){r0 r1 r2 r3 r4 r5 r6 r7 pc:Int}(e:m.cs t=⟨[r0,r1,r2,r3,r4,r5,r6,r7],pc⟩):
 w.cell? ⟨X.kb,t*9,Z⟩=P (I O r0)/\w.cell? ⟨X.kb,t*9+1,Z⟩=P (I O r1)/\w.cell? ⟨X.kb,t*9+2,Z⟩=P (I O r2)/\w.cell? ⟨X.kb,t*9+3,Z⟩=P (I O r3)/\
 w.cell? ⟨X.kb,t*9+4,Z⟩=P (I O r4)/\w.cell? ⟨X.kb,t*9+5,Z⟩=P (I O r5)/\w.cell? ⟨X.kb,t*9+6,Z⟩=P (I O r6)/\w.cell? ⟨X.kb,t*9+7,Z⟩=P (I O r7)/\w.cell? ⟨X.kb,t*9+8,Z⟩=P (I Q pc):=by
 have H:=fun j (hj:j<9)=>h.uw ht hj
 rw[e] at H
 exact⟨H 0 (by omega),H 1 (by omega),H 2 (by omega),H 3 (by omega),H 4 (by omega),H 5 (by omega),H 6 (by omega),H 7 (by omega),H 8 (by omega)⟩
theorem Ex.bA (h:Ex w X k m){t:Nat}(ht:t<k.n):∃ r0 r1 r2 r3 r4 r5 r6 r7 pc,m.cs t=⟨[r0,r1,r2,r3,r4,r5,r6,r7],pc⟩:=by
 obtain⟨r0,r1,r2,r3,r4,r5,r6,r7,e⟩:=aC (h.mc.cs t ht).1
 exact⟨r0,r1,r2,r3,r4,r5,r6,r7,(m.cs t).pc,by rw[<-e]⟩
theorem Ex.free (h:Ex w X k m)(i:Nat):w.frozen? ⟨X.kb,i,Z⟩=T:=h.cores.free i
theorem Ex.put (h:Ex w X k m){t:Nat}(ht:t<k.n){c:kX}(hc:bh c.xs):Ex (ic w X.kb (t*9) (bP c.xs c.pc)) X k { m with cs:=fA m.cs t c }:=by
 have hW:ab w (ic w X.kb (t*9) (bP c.xs c.pc)) (fun i=>i=X.kb):=.az (eF _ _ _) (by rintro i e;injection e with e;exact .inl e.symm)
 obtain⟨fr,os,cn,hp,hs⟩:=h.dV
 have hb:=tY (bP c.xs c.pc) _ (t*9) _ h.cores
 rw[tt h.mc.cs ht hc] at hb
 refine⟨h.ptr.within hW (Bk.aj h.ptr h.cores (by decide)),aq h.code hW (fun g e e2=>?_),hb,h.mem.within hW (Bk.aj h.mem.ptr h.cores (by decide)) (Bk.aj h.mem.cel.ptr h.cores (by decide)) (Bk.aj h.mem.cel.row h.cores (by decide)) (Bk.aj h.mem.row h.cores (by decide)),
  ⟨fr,os,cn,hp.kept hW (Bk.aj hp.ptr h.cores (by decide)) (Bk.aj hp.row h.cores (by decide)) (fun i hi e=>hp.dz h.cores (by decide) (by decide) (e ▸ hi)),hs⟩,h.lk,⟨h.mc.ws,h.mc.len,eW h.mc.cs hc t⟩⟩
 obtain⟨cs',hcs⟩:=bf h.code e
 exact Bk.aj hcs h.cores (by decide) e2
theorem Ex.words (h:Ex w X k m){ys:List Int}(hm:Mm w' X.p X.q X.g X.s k.zs ys)(ho:fD w w' X.g)(hu:fC ys)(hl:ys.length=m.ws.length):Ex w' X k { m with ws:=ys }:=by
 have hW:ab w w' (fun i=>i=X.g):=.az ho (by rintro i e;injection e with e;exact .inl e.symm)
 obtain⟨fr,os,cn,hp,hs⟩:=h.dV
 have hr:=h.mem.cel.row
 refine⟨h.ptr.within hW (Bk.aj h.ptr hr (by decide)),aq h.code hW (fun g e e2=>?_),h.cores.within hW (Bk.aj h.cores hr (by decide)),hm,
  ⟨fr,os,cn,hp.kept hW (Bk.aj hp.ptr hr (by decide)) (Bk.aj hp.row hr (by decide)) (fun i hi e=>hp.dz hr (by decide) (by decide) (e ▸ hi)),hs⟩,h.lk,⟨hu,hl.trans h.mc.len,h.mc.cs⟩⟩
 obtain⟨cs',hcs⟩:=bf h.code e
 exact Bk.aj hcs hr (by decide) e2
theorem Ex.nodes (h:Ex w X k m){fr fr':Nat->List Int}{os os':Int->Bool}{c c':Nat}{M':PM}{pn':Pn}(hp:Pl w X.pp k.n k.each X.M fr os c)(hp':Pl w' X.pp k.n k.each M' fr' os' c')(hs:jx k.n k.each pn'.free pn'.gen pn'.out fr' os' c')(hst:eu w k.n X.M w' M'):Ex w' { X with M:=M' } k { m with pn:=pn' }:=by
 have hW:=hst.2.1
 have nh:∀ {q:Nat} {t:TypeId} {cs:Array Value},Bk w q t cs->t≠253->t≠70->¬ X.M.Has k.n q:=fun hb h1 h2=>hp.dz hb h1 h2
 refine⟨h.ptr.within hW (nh h.ptr (by decide) (by decide)),aq h.code hW (fun g e e2=>?_),h.cores.within hW (nh h.cores (by decide) (by decide)),h.mem.within hW (nh h.mem.ptr (by decide) (by decide)) (nh h.mem.cel.ptr (by decide) (by decide)) (nh h.mem.cel.row (by decide) (by decide)) (nh h.mem.row (by decide) (by decide)),
  ⟨fr',os',c',hp',hs⟩,h.lk,⟨h.mc.ws,h.mc.len,h.mc.cs⟩⟩
 obtain⟨cs',hcs⟩:=bf h.code e
 exact nh hcs (by decide) (by decide) e2
def bc (w:World)(n:Nat)(X:XP)(w':World)(X':XP):Prop:=ab w w' (X.Has n)/\(∀ i,X'.Own n i->X.Own n i\/w.heap.size<=i)/\(∀ i,X'.Has n i->X.Has n i\/w.heap.size<=i)
theorem bc.refl (w:World)(n:Nat)(X:XP):bc w n X w X:=⟨ab.refl _ _,fun _ h=>.inl h,fun _ h=>.inl h⟩
theorem bc.bp {n:Nat}{w'':World}{X' X'':XP}(h:bc w n X w' X')(k:bc w' n X' w'' X''):bc w n X w'' X'':=
 ⟨h.1.bp k.1 h.2.2,fun i hi=>by
  rcases k.2.1 i hi with e | e
  ·exact h.2.1 i e
  ·exact .inr (Nat.le_trans h.1.size e),fun i hi=>by
  rcases k.2.2 i hi with e | e
  ·exact h.2.2 i e
  ·exact .inr (Nat.le_trans h.1.size e)⟩
theorem bc.grown {n:Nat}{X':XP}{w'':World}(h:bc w n X w' X')(k:Below w'.heap.size w' w''):bc w n X w'' X':=
 h.bp ⟨(ay k).wide (by simp),fun _ h=>.inl h,fun _ h=>.inl h⟩
theorem bc.az {n:Nat}(k:Below w.heap.size w w'):bc w n X w' X:=(bc.refl w n X).grown k
theorem bc.put {n t:Nat}{vs:List Value}:bc w n X (ic w X.kb t vs) X:=⟨.az (eF _ _ _) (by rintro i e;injection e with e;exact .inl (.inl e.symm)),fun _ h=>.inl h,fun _ h=>.inl h⟩
theorem bc.words {n:Nat}(ho:fD w w' X.g):bc w n X w' X:=⟨.az ho (by rintro i e;injection e with e;exact .inl (.inr (.inl e.symm))),fun _ h=>.inl h,fun _ h=>.inl h⟩
theorem bc.nodes {n:Nat}{M':PM}(hs:eu w n X.M w' M'):bc w n X w' { X with M:=M' }:=by
 refine⟨hs.2.1.wide (fun i e _=>.inr (.inr e)),fun i hi=>?_,fun i hi=>?_⟩
 ·rcases hi with e | e | e | e | e | e | e | e | e | e
  ·exact .inl (.inl e)
  ·exact .inl (.inr (.inl e))
  ·exact .inl (.inr (.inr (.inl e)))
  ·exact .inl (.inr (.inr (.inr (.inl e))))
  ·exact .inl (.inr (.inr (.inr (.inr (.inl e)))))
  ·exact .inl (.inr (.inr (.inr (.inr (.inr (.inl e))))))
  ·exact .inl (.inr (.inr (.inr (.inr (.inr (.inr (.inl e)))))))
  ·exact .inl (.inr (.inr (.inr (.inr (.inr (.inr (.inr (.inl e))))))))
  ·exact .inl (.inr (.inr (.inr (.inr (.inr (.inr (.inr (.inr (.inl (e.trans hs.1))))))))))
  ·rcases hs.2.2 i e with e | e
   ·exact .inl (.inr (.inr (.inr (.inr (.inr (.inr (.inr (.inr (.inr e)))))))))
   ·exact .inr e
 ·rcases hi with e | e | e
  ·exact .inl (.inl e)
  ·exact .inl (.inr (.inl e))
  ·rcases hs.2.2 i e with e | e
   ·exact .inl (.inr (.inr e))
   ·exact .inr e
def zP (v:Value)(o:Ot):Value:=.agg #[v,I Q o.done,I Q o.addr,.bool o.wrote,.bool o.stay,I Q o.e]
theorem lP (h:Ex w X k m)(t:Nat)(ht:t<k.n):
 Calls Tryz.prog 45 #[J (P ⟨X.x,0,Z⟩),I Q t] w fun e w'=>e=.returned (.bool U)/\w=w':=by
 have c5:=h.c5
 have hf:=h.lk.n64
 go_enter Tryz.func45,Tryz.ntmps45
 go_wp2
 go_ret
 exact⟨rfl,rfl⟩
theorem zE (w:World):
 Calls Tryz.prog 46 #[] w fun e w'=>e=.returned (zP (K Z 0 0) eL)/\Below w.heap.size w w':=by
 unfold zP eL
 go_enter Tryz.func46,Tryz.ntmps46
 go_wp2
 refine bodyPost_ret (v:=.agg #[K Z 0 0,I Q (-1),I Q (-1),.bool T,.bool T,I Q 11]) (by simp[results,Tryz.results46,go_sem]) rfl ⟨rfl,(C _ _).alloc (Y _) _⟩
theorem xe (h:Ex w X k m):
 Calls Tryz.prog 56 #[J (P ⟨X.x,0,Z⟩)] w fun e w'=>e=.returned (I Q k.n)/\w=w':=by
 have c5:=h.c5
 have hf:=h.lk.n64
 go_enter Tryz.func56,Tryz.ntmps56
 go_wp2
 go_ret
 exact⟨rfl,rfl⟩
theorem Fx (h:Ex w X k m)(t:Nat)(ht:t<k.n):
 Calls Tryz.prog 59 #[J (P ⟨X.x,0,Z⟩),I Q t] w fun e w'=>e=.returned (I Q (nM k.each m.pn t))/\∃ j,w'=w.drewN j:=by
 obtain⟨fr,os,c,hp,hs⟩:=h.dV
 have c4:=h.c4
 have hfr:=hs.frs t ht
 have hle:(m.pn.free t).length<=k.each:=by
  have h1:=hs.own t ht
  exact iQ k.each (t*k.each) _ (hs.dup t ht) (fun q hq=>⟨(h1 q hq).1,(h1 q hq).2.1⟩)
 have E:Hid (((k.each-(fr t).length:Nat):Int)=nM k.each m.pn t):=F (by rw[hfr,List.length_map];unfold nM;omega)
 clear hfr hle hs
 go_enter Tryz.func59,Tryz.ntmps59
 go_wp2_with fail
 refine(Et hp t ht).mono ?_
 rintro e w' ⟨rfl,j,rfl⟩
 rw[E.out]
 go_wp2
 go_ret
 exact⟨rfl,_,rfl⟩
theorem Cp (h:Ex w X k m):
 Calls Tryz.prog 55 #[J (P ⟨X.x,0,Z⟩)] w (Fh w X.q X.g m.ws):=by
 have c3:=h.c3
 have d0:=h.mem.c0
 have hc:=h.mem.cel
 go_enter Tryz.func55,Tryz.ntmps55
 go_wp2_with fail
 refine(Ds hc).mono ?_
 rintro e w' ⟨q,rfl,h1,h2,h3,h4⟩
 go_wp2
 go_ret
 exact⟨q,rfl,h1,h2,h3,h4⟩
end
section
variable {w w':World}{x n each N:Nat}{R:RM}{free:Nat->List Nat}{gen out:List Int}
theorem CK (h:Rf w x n each R free gen out)(h64:n<=64)(h8:each<=8)(t:Nat)(ht:t<n)(hl:(free t).length<=each):
 Calls Tryz.prog 39 #[J (P ⟨x,0,Z⟩),I Q t] w fun e w'=>e=.returned (I Q ((each-(free t).length:Nat):Int))/\∃ m,w'=w.drewN m:=by
 have c0:=h.c0
 have c1:=h.c1
 obtain⟨g,cap,e,h1,h2,hf,hc⟩:=h.FG (by omega)
 rw[e] at c1
 have hct:=hc t ht
 clear hc e
 have hlen:(mA (free t)).length=(free t).length:=by simp[mA]
 obtain⟨A,B,hv⟩:∃ A B,R.vs t=.slice A (free t).length B:=by
  rcases h.frees t ht with ⟨e1,e2⟩ | ⟨g',off,cap',cs,e1,_⟩
  ·have:(free t).length=0:=by rw[<-hlen,e2];rfl
   rw[this];exact⟨_,_,e1⟩
  ·rw[hlen] at e1;exact⟨_,_,e1⟩
 rw[hv] at hct
 clear hlen hv
 go_enter Tryz.func39,Tryz.ntmps39
 go_wp2
 go_quiet (fail)
 go_wp2
 go_ret
 exact⟨bu (by omega),_,rfl⟩
end
section
variable {w w':World}{x n each N:Nat}{R:RM}{free:Nat->List Nat}{gen out:List Int}
def fL (w:World)(n:Nat)(R:RM)(w':World)(R':RM):Prop:=ab w w' (R.Has n)/\∀ i,R'.Has n i->R.Has n i\/w.heap.size<=i
theorem fL.refl (w:World)(n:Nat)(R:RM):fL w n R w R:=⟨ab.refl _ _,fun _ h=>.inl h⟩
theorem fL.dg {R':RM}(h:fL w n R w' R')(m:Nat):fL w n R (w'.drewN m) R':=⟨h.1.dg m,h.2⟩
theorem fL.bp {w'':World}{R' R'':RM}(h:fL w n R w' R')(k:fL w' n R' w'' R''):fL w n R w'' R'':=
 ⟨h.1.bp k.1 h.2,fun i hi=>by
  rcases k.2 i hi with e | e
  ·exact h.2 i e
  ·exact .inr (Nat.le_trans h.1.size e)⟩
theorem fL.put {g i:Nat}{u:Value}(h:R.Has n g):fL w n R (w.setCell ⟨g,i,Z⟩ u) R:=⟨(ab.refl w _).put g _ _ (.inl h),fun _ h=>.inl h⟩
end
section
variable {w w':World}{X:XP}{k:Lk}{m:Mc}
theorem D4 (h:Ex w X k m)(t:Nat)(ht:t<k.n):
 Calls Tryz.prog 58 #[J (P ⟨X.x,0,Z⟩),I Q t] w fun e w'=>e=.returned (cv (m.cs t).xs (m.cs t).pc)/\Below w.heap.size w w':=by
 have hf:=h.lk.n64
 obtain⟨r0,r1,r2,r3,r4,r5,r6,r7,pc,ec⟩:=h.bA ht
 have h2:=h.below ((C _ w).alloc (Y _) (G #[I O 0,I O 0,I O 0,I O 0,I O 0,I O 0,I O 0,I O 0,I Q 0] 107))
 have q0:=Cb.made w [0,0,0,0,0,0,0,0] 0
 have b0:Below w.heap.size w (w.alloc (G #[I O 0,I O 0,I O 0,I O 0,I O 0,I O 0,I O 0,I O 0,I Q 0] 107)):=(C _ _).alloc (Y _) _
 simp only[bP,List.map_cons,List.map_nil,List.cons_append,List.nil_append] at q0
 rw[ec]
 unfold cv
 simp only[bP,List.map_cons,List.map_nil,List.cons_append,List.nil_append]
 go_enter Tryz.func58,Tryz.ntmps58
 go_upto_region 1 with fail
 generalize w.alloc (G #[I O 0,I O 0,I O 0,I O 0,I O 0,I O 0,I O 0,I O 0,I Q 0] 107)=x at *
 go_wp2_with fail
 refine(lP h2 t ht).mono ?_
 rintro e w' ⟨rfl,rfl⟩
 have c5:=h2.c5
 obtain⟨c0,c1,c2,c3,c4,c5',c6,c7,c8⟩:=h2.core ht ec
 have zf:=Bk.free q0
 obtain⟨z0,z1,z2,z3,z4,z5,z6,z7,z8⟩:=q0.cells
 go_upto_region 3 with fail
 have h9:=bz q0 (I O r0) (I O r1) (I O r2) (I O r3) (I O r4) (I O r5) (I O r6) (I O r7) (I Q pc)
 have b9:=ba b0 (Y _) (I O r0) (I O r1) (I O r2) (I O r3) (I O r4) (I O r5) (I O r6) (I O r7) (I Q pc)
 go_wp
 generalize hv9:(((((((((x.setCell ⟨w.heap.size,0,Z⟩ (I O r0)).setCell ⟨w.heap.size,1,Z⟩ (I O r1)).setCell ⟨w.heap.size,2,Z⟩ (I O r2)).setCell ⟨w.heap.size,3,Z⟩ (I O r3)).setCell ⟨w.heap.size,4,Z⟩ (I O r4)).setCell ⟨w.heap.size,5,Z⟩ (I O r5)).setCell ⟨w.heap.size,6,Z⟩ (I O r6)).setCell ⟨w.heap.size,7,Z⟩ (I O r7)).setCell ⟨w.heap.size,8,Z⟩ (I Q pc))=v9
 replace hv9:bn x w.heap.size (I O r0) (I O r1) (I O r2) (I O r3) (I O r4) (I O r5) (I O r6) (I O r7) (I Q pc)=v9:=hv9
 rw[hv9] at h9 b9
 obtain⟨y0,y1,y2,y3,y4,y5,y6,y7,y8⟩:=Cb.cells (r0:=r0) (r1:=r1) (r2:=r2) (r3:=r3) (r4:=r4) (r5:=r5) (r6:=r6) (r7:=r7) (pc:=pc) h9
 exact bodyPost_ret (v:=.agg #[I O r0,I O r1,I O r2,I O r3,I O r4,I O r5,I O r6,I O r7,I Q pc]) (by simp[results,Tryz.results58,go_sem,y0,y1,y2,y3,y4,y5,y6,y7,y8]) rfl ⟨rfl,b9⟩
def tS (w:World)(e:Ending)(w':World):Prop:=e=.returned (.tuple #[iv aN.zero,.bool T])/\Below w.heap.size w w'
def pM (w:World)(i:aN)(e:Ending)(w':World):Prop:=e=.returned (.tuple #[iv i,.bool U])/\Below w.heap.size w w'
theorem rP (h:Ex w X k m)(t:Nat)(ht:t<k.n)(hn:iq k (m.cs t).pc=Z):
 Calls Tryz.prog 49 #[J (P ⟨X.x,0,Z⟩),I Q t] w (tS w):=by
 have hf:=h.lk.n64
 have hl:=h.lk.parts
 obtain⟨r0,r1,r2,r3,r4,r5,r6,r7,pc,ec⟩:=h.bA ht
 rw[ec] at hn
 simp only at hn
 have h2:=h.below ((C _ w).alloc (Y _) (G #[I Q 0,I Q 0,I Q 0,I Q 0,I Q 0,I Q 0,I O 0,I Q 0] 117))
 have q0:=Ib.made w 0 0 0 0 0 0 0 0
 have b0:Below w.heap.size w (w.alloc (G #[I Q 0,I Q 0,I Q 0,I Q 0,I Q 0,I Q 0,I O 0,I Q 0] 117)):=(C _ _).alloc (Y _) _
 unfold tS iv aN.zero
 go_enter Tryz.func49,Tryz.ntmps49
 go_upto_region 1 with fail
 generalize w.alloc (G #[I Q 0,I Q 0,I Q 0,I Q 0,I Q 0,I Q 0,I O 0,I Q 0] 117)=x at *
 go_wp2_with fail
 refine(lP h2 t ht).mono ?_
 rintro e w' ⟨rfl,rfl⟩
 have c5:=h2.c5
 obtain⟨c0,c1,c2,c3,c4,c5',c6,c7,c8⟩:=h2.core ht ec
 have k0:=h2.c0
 obtain⟨hpv,a,cap,ecv⟩:=h2.pv
 rw[ecv] at k0
 have zf:=Bk.free q0
 obtain⟨z0,z1,z2,z3,z4,z5,z6,z7⟩:=q0.cells
 simp only at z0 z1 z2 z3 z4 z5 z6 z7
 have hg:∀ y:World,Ib y w.heap.size aN.zero->Below w.heap.size w y->Ib (eA y w.heap.size aN.zero) w.heap.size aN.zero/\Below w.heap.size w (eA y w.heap.size aN.zero):=fun y hy hb=>⟨dJ hy,aY hb (Y _)⟩
 have HG:=F hg
 clear hg
 rcases ot hn with hp | hp | ⟨j,hp0,hp1,hj,hmj⟩
 ·clear hn hl
  have hp':decide (pc<0)=U:=by simpa using hp
  obtain⟨g1,g2⟩:=HG.out x q0 b0
  clear q0 b0 HG h h2 hpv
  go_upto_region 5 with fail
  go_wp
  generalize hv9:(((((((x.setCell ⟨w.heap.size,0,Z⟩ (I Q 0)).setCell ⟨w.heap.size,1,Z⟩ (I Q 0)).setCell ⟨w.heap.size,2,Z⟩ (I Q 0)).setCell ⟨w.heap.size,3,Z⟩ (I Q 0)).setCell ⟨w.heap.size,4,Z⟩ (I Q 0)).setCell ⟨w.heap.size,5,Z⟩ (I Q 0)).setCell ⟨w.heap.size,6,Z⟩ (I O 0)).setCell ⟨w.heap.size,7,Z⟩ (I Q 0)=v9
  replace hv9:eA x w.heap.size aN.zero=v9:=hv9
  rw[hv9] at g1 g2
  obtain⟨y0,y1,y2,y3,y4,y5,y6,y7⟩:=g1.cells
  simp only[aN.zero] at y0 y1 y2 y3 y4 y5 y6 y7
  exact bodyPost_ret (v:=.tuple #[.agg #[I Q 0,I Q 0,I Q 0,I Q 0,I Q 0,I Q 0,I O 0,I Q 0],.bool T]) (by simp[results,Tryz.results49,go_sem,y0,y1,y2,y3,y4,y5,y6,y7]) rfl ⟨rfl,g2⟩
 ·have hp':decide (pc<0)=T:=by simp;omega
  have hp2:decide (pc>=(k.l.length:Int))=U:=by simp;omega
  have hp3:(k.l.length:Int)<=pc:=hp
  have hl2:=hl.2.1
  clear hn hl
  obtain⟨g1,g2⟩:=HG.out x q0 b0
  clear q0 b0 HG h h2 hpv
  go_upto_region 5 with fail
  go_wp
  generalize hv9:(((((((x.setCell ⟨w.heap.size,0,Z⟩ (I Q 0)).setCell ⟨w.heap.size,1,Z⟩ (I Q 0)).setCell ⟨w.heap.size,2,Z⟩ (I Q 0)).setCell ⟨w.heap.size,3,Z⟩ (I Q 0)).setCell ⟨w.heap.size,4,Z⟩ (I Q 0)).setCell ⟨w.heap.size,5,Z⟩ (I Q 0)).setCell ⟨w.heap.size,6,Z⟩ (I O 0)).setCell ⟨w.heap.size,7,Z⟩ (I Q 0)=v9
  replace hv9:eA x w.heap.size aN.zero=v9:=hv9
  rw[hv9] at g1 g2
  obtain⟨y0,y1,y2,y3,y4,y5,y6,y7⟩:=g1.cells
  simp only[aN.zero] at y0 y1 y2 y3 y4 y5 y6 y7
  exact bodyPost_ret (v:=.tuple #[.agg #[I Q 0,I Q 0,I Q 0,I Q 0,I Q 0,I Q 0,I O 0,I Q 0],.bool T]) (by simp[results,Tryz.results49,go_sem,y0,y1,y2,y3,y4,y5,y6,y7]) rfl ⟨rfl,g2⟩
 ·obtain⟨a2,ca2,e2,_,_,_,hsl⟩:=hpv
  simp only[Value.agg.injEq,Array.mk.injEq,List.cons.injEq,ecv,Value.slice.injEq,and_true,true_and] at e2
  obtain⟨rfl,rfl⟩:=e2
  obtain⟨n,rfl⟩:=Int.eq_ofNat_of_zero_le hp0
  rw[Int.toNat_natCast] at hj
  obtain⟨g,off,rfl,hgl,e0,e1,e2,e3,e4,e5,e6,e7⟩:=hsl.at_ hj
  have hp':decide ((n:Int)<0)=T:=by simp
  have hp2:decide ((n:Int)>=(k.l.length:Int))=T:=by simp;omega
  have hp3:(n:Int)<k.l.length:=hp1
  have hl2:=hl.2.1
  have HM:=F (fun W=>kg j W)
  rw[hmj] at HM
  have HQ:=F q0
  have HB:=F b0
  clear hn hl q0 b0 zf z0 z1 z2 z3 z4 z5 z6 z7 hmj
  obtain⟨op,d,s,t',u,a',k',pl⟩:=j
  unfold iv at HM
  simp only at e0 e1 e2 e3 e4 e5 e6 e7 HM
  go_wp2_with fail
  refine(HM.out _).mono ?_
  rintro e y ⟨rfl,hy⟩
  have q0:=HQ.out.below hy
  obtain⟨g1,g2⟩:=HG.out y q0 (HB.out.trans (hy.mono HB.out.size))
  have zf:=Bk.free q0
  obtain⟨z0,z1,z2,z3,z4,z5,z6,z7⟩:=q0.cells
  simp only at z0 z1 z2 z3 z4 z5 z6 z7
  clear q0 HQ HB HG h h2 hsl HM e0 e1 e2 e3 e4 e5 e6 e7 c0 c1 c2 c3 c4 c5 c5' c6 c7 c8 k0
  go_upto_region 5 with fail
  go_wp
  generalize hv9:(((((((y.setCell ⟨w.heap.size,0,Z⟩ (I Q 0)).setCell ⟨w.heap.size,1,Z⟩ (I Q 0)).setCell ⟨w.heap.size,2,Z⟩ (I Q 0)).setCell ⟨w.heap.size,3,Z⟩ (I Q 0)).setCell ⟨w.heap.size,4,Z⟩ (I Q 0)).setCell ⟨w.heap.size,5,Z⟩ (I Q 0)).setCell ⟨w.heap.size,6,Z⟩ (I O 0)).setCell ⟨w.heap.size,7,Z⟩ (I Q 0)=v9
  replace hv9:eA y w.heap.size aN.zero=v9:=hv9
  rw[hv9] at g1 g2
  obtain⟨y0,y1,y2,y3,y4,y5,y6,y7⟩:=g1.cells
  simp only[aN.zero] at y0 y1 y2 y3 y4 y5 y6 y7
  exact bodyPost_ret (v:=.tuple #[.agg #[I Q 0,I Q 0,I Q 0,I Q 0,I Q 0,I Q 0,I O 0,I Q 0],.bool T]) (by simp[results,Tryz.results49,go_sem,y0,y1,y2,y3,y4,y5,y6,y7]) rfl ⟨rfl,g2⟩
end
section
variable {w w':World}{x n each N:Nat}{R:RM}{free:Nat->List Nat}{gen out:List Int}
theorem ir {W W3:World}{o:Obj}{r:Option Nat}{b:Nat}{t:TypeId}{cs:Array Value}(h:(W.drew.alloc o).grownBy W3 r)(hb:Bk W b t cs)(hne:P b≠r):Bk W3 b t cs:=Bk.grown (Bk.alloc (w:=W.drew) hb o) h hne
end
section
variable {w w':World}{X:XP}{k:Lk}{m:Mc}
def pN (w:World)(c:kX)(s:Bool)(e:Ending)(w':World):Prop:=e=.returned (.tuple #[cv c.xs c.pc,.bool s])/\Below w.heap.size w w'
theorem Cq (c:kX)(i:aN)(n:Nat)(v:Int)(late:Bool)(w:World)(hx:bh c.xs)(hi:Fm i n)(h21:i.op=21)(hv:0<=v/\v<4294967296)(hp0:0<=c.pc)(hp1:c.pc<1000):
 Calls Tryz.prog 130 #[cv c.xs c.pc,iv i,I O v,.bool late] w (pN w (fK c i v late).1 (fK c i v late).2):=by
 obtain⟨hk,hpl⟩:=hi.aw h21
 have hd:=hi.d
 have ht:=hi.t
 obtain⟨xs,pc⟩:=c
 obtain⟨op,d,s,t,u,a',k',pl⟩:=i
 simp only at hk hpl hd ht hx hp0 hp1
 obtain⟨dn,rfl⟩:∃ n:Nat,d=n:=⟨d.toNat,by omega⟩
 obtain⟨tn,rfl⟩:∃ n:Nat,t=n:=⟨t.toNat,by omega⟩
 have hd8:dn<8:=by omega
 have ht8:tn<8:=by omega
 have hV:=hx.2.at_ tn
 obtain⟨r0,r1,r2,r3,r4,r5,r6,r7,rfl⟩:=aC hx.1
 obtain⟨s0,s1,s2,s3,s4,s5,s6,s7,hs⟩:=aC (xs:=[r0,r1,r2,r3,r4,r5,r6,r7].set dn v) (by simp)
 have HS:=F hs
 generalize hA:fK ⟨[r0,r1,r2,r3,r4,r5,r6,r7],pc⟩ ⟨op,dn,s,tn,u,a',k',pl⟩ v late=A
 have HA:Hid (A=if decide (v=aF [r0,r1,r2,r3,r4,r5,r6,r7] tn)==decide (k'=0) then (⟨[s0,s1,s2,s3,s4,s5,s6,s7],pc+1⟩,T) else if late=U/\pl≠-1 then (⟨[s0,s1,s2,s3,s4,s5,s6,s7],pl⟩,T) else (⟨[s0,s1,s2,s3,s4,s5,s6,s7],pc⟩,U)):=F (by
  rw[<-hA];unfold fK;simp only[Int.toNat_natCast,hs])
 clear hA hs
 have q0:=((Cb.made w [r0,r1,r2,r3,r4,r5,r6,r7] pc).below (Below.alloc (o:=G #[I Q op,I Q dn,I Q s,I Q tn,I Q u,I Q a',I O k',I Q pl] 117) (C _ _) (Y _)))
 have q1:=Ib.made (w.alloc (G (bP [r0,r1,r2,r3,r4,r5,r6,r7] pc).toArray 107)) op dn s tn u a' k' pl
 have b0:Below w.heap.size w ((w.alloc (G (bP [r0,r1,r2,r3,r4,r5,r6,r7] pc).toArray 107)).alloc (G #[I Q op,I Q dn,I Q s,I Q tn,I Q u,I Q a',I O k',I Q pl] 117)):=((C _ _).alloc (Y _) _).alloc (by simp) _
 rw[World.size_alloc] at q1
 have q2:=Cb.made ((w.alloc (G (bP [r0,r1,r2,r3,r4,r5,r6,r7] pc).toArray 107)).alloc (G #[I Q op,I Q dn,I Q s,I Q tn,I Q u,I Q a',I O k',I Q pl] 117)) [0,0,0,0,0,0,0,0] 0
 rw[World.size_alloc,World.size_alloc] at q2
 have q0':=q0.below (Below.alloc (o:=G (bP [0,0,0,0,0,0,0,0] 0).toArray 107) (C _ _) (Y _))
 have q1':=q1.below (Below.alloc (o:=G (bP [0,0,0,0,0,0,0,0] 0).toArray 107) (C _ _) (by rw[World.size_alloc,World.size_alloc];exact Y _))
 replace b0:=b0.alloc (o:=G (bP [0,0,0,0,0,0,0,0] 0).toArray 107) b0.size
 clear q0 q1
 unfold pN cv iv
 simp only[bP,List.map_cons,List.map_nil,List.cons_append,List.nil_append] at q0' q1' q2 b0 ⊢
 go_enter Tryz.func130,Tryz.ntmps130
 go_upto_region 1 with fail
 generalize ((w.alloc (G #[I O r0,I O r1,I O r2,I O r3,I O r4,I O r5,I O r6,I O r7,I Q pc] 107)).alloc (G #[I Q op,I Q dn,I Q s,I Q tn,I Q u,I Q a',I O k',I Q pl] 117)).alloc (G #[I O 0,I O 0,I O 0,I O 0,I O 0,I O 0,I O 0,I O 0,I Q 0] 107)=x at *
 have cT:=q0'.at_ rfl ht8
 have cD:=q0'.at_ rfl hd8
 obtain⟨e0,e1,e2,e3,e4,e5,e6,e7⟩:=q1'.cells
 simp only at e0 e1 e2 e3 e4 e5 e6 e7
 have zf:=Bk.free q0'
 have q:=q0'.set rfl hd8 v
 rw[HS.out] at q
 have q1:=q1'.off (p:=⟨w.heap.size,dn,Z⟩) (by show w.heap.size+1≠w.heap.size;omega) (I O v)
 have q2':Cb (x.setCell ⟨w.heap.size,dn,Z⟩ (I O v)) _ _ _:=Bk.off q2 (p:=⟨w.heap.size,dn,Z⟩) (by show w.heap.size+1+1≠w.heap.size;omega) (I O v)
 have b:=b0.setCell (p:=⟨w.heap.size,dn,Z⟩) (Y _) (I O v)
 have hw1:wrap64 (pc+1)=pc+1:=IntWalk.wrap64_in _ (by omega)
 clear q0' q1' q2 b0 hx hi HS h21 hp0 hd ht
 have q2:=q2'
 clear q2'
 generalize aF [r0,r1,r2,r3,r4,r5,r6,r7] dn=V2 at *
 generalize aF [r0,r1,r2,r3,r4,r5,r6,r7] tn=V at *
 by_cases hV:v=V
 ·subst hV
  rcases hk with rfl|rfl
  ·replace HA:Hid (A=(⟨[s0,s1,s2,s3,s4,s5,s6,s7],pc+1⟩,T)):=F (by rw[HA.out];simp)
   clear hpl
   go_upto_region 5 with fail
   clear cT cD e0 e1 e2 e3 e4 e5 e6 e7 zf
   generalize x.setCell ⟨w.heap.size,dn,Z⟩ (I O v)=y at *
   obtain⟨c0,c1,c2,c3,c4,c5,c6,c7,c8⟩:=q.cells
   obtain⟨e0,e1,e2,e3,e4,e5,e6,e7⟩:=Ib.cells (i:=⟨op,dn,s,tn,u,a',0,pl⟩) q1
   simp only at e0 e1 e2 e3 e4 e5 e6 e7
   have zf:=Bk.free q
   go_upto_region 9 with fail
   have o0:Cb (y.setCell ⟨w.heap.size,8,Z⟩ (I Q (pc+1))) w.heap.size [s0,s1,s2,s3,s4,s5,s6,s7] (pc+1):=Bk.put q 8 (I Q (pc+1))
   have o2:Cb (y.setCell ⟨w.heap.size,8,Z⟩ (I Q (pc+1))) _ _ _:=Bk.off q2 (p:=⟨w.heap.size,8,Z⟩) (by show w.heap.size+1+1≠w.heap.size;omega) (I Q (pc+1))
   have o3:=b.setCell (p:=⟨w.heap.size,8,Z⟩) (Y _) (I Q (pc+1))
   clear q q2 b c0 c1 c2 c3 c4 c5 c6 c7 c8 zf e0 e1 e2 e3 e4 e5 e6 e7
   generalize y.setCell ⟨w.heap.size,8,Z⟩ (I Q (pc+1))=y at *
   have q:=o0
   have q2:=o2
   have b:=o3
   clear o0 o2 o3
   obtain⟨c0,c1,c2,c3,c4,c5,c6,c7,c8⟩:=q.cells
   have zf:=Bk.free q2
   obtain⟨z0,z1,z2,z3,z4,z5,z6,z7,z8⟩:=q2.cells
   have h9:=bz q2 (I O s0) (I O s1) (I O s2) (I O s3) (I O s4) (I O s5) (I O s6) (I O s7) (I Q (pc+1))
   have b9:=ba b (show w.heap.size<=w.heap.size+1+1 by omega) (I O s0) (I O s1) (I O s2) (I O s3) (I O s4) (I O s5) (I O s6) (I O s7) (I Q (pc+1))
   clear q q2 b
   go_wp
   generalize hv9:(((((((((y.setCell ⟨(w.heap.size+1+1),0,Z⟩ (I O s0)).setCell ⟨(w.heap.size+1+1),1,Z⟩ (I O s1)).setCell ⟨(w.heap.size+1+1),2,Z⟩ (I O s2)).setCell ⟨(w.heap.size+1+1),3,Z⟩ (I O s3)).setCell ⟨(w.heap.size+1+1),4,Z⟩ (I O s4)).setCell ⟨(w.heap.size+1+1),5,Z⟩ (I O s5)).setCell ⟨(w.heap.size+1+1),6,Z⟩ (I O s6)).setCell ⟨(w.heap.size+1+1),7,Z⟩ (I O s7)).setCell ⟨(w.heap.size+1+1),8,Z⟩ (I Q (pc+1)))=v9
   replace hv9:bn y (w.heap.size+1+1) (I O s0) (I O s1) (I O s2) (I O s3) (I O s4) (I O s5) (I O s6) (I O s7) (I Q (pc+1))=v9:=hv9
   rw[hv9] at h9 b9
   obtain⟨y0,y1,y2,y3,y4,y5,y6,y7,y8⟩:=Cb.cells (r0:=s0) (r1:=s1) (r2:=s2) (r3:=s3) (r4:=s4) (r5:=s5) (r6:=s6) (r7:=s7) (pc:=(pc+1)) h9
   exact bodyPost_ret (v:=.tuple #[.agg #[I O s0,I O s1,I O s2,I O s3,I O s4,I O s5,I O s6,I O s7,I Q (pc+1)],.bool T]) (by simp[results,Tryz.results130,go_sem,y0,y1,y2,y3,y4,y5,y6,y7,y8]) rfl ⟨by rw[HA.out];rfl,b9⟩
  ·cases late with
   | false=>
    replace HA:Hid (A=(⟨[s0,s1,s2,s3,s4,s5,s6,s7],pc⟩,U)):=F (by rw[HA.out];simp)
    clear hpl
    go_upto_region 5 with fail
    clear cT cD e0 e1 e2 e3 e4 e5 e6 e7 zf
    generalize x.setCell ⟨w.heap.size,dn,Z⟩ (I O v)=y at *
    obtain⟨c0,c1,c2,c3,c4,c5,c6,c7,c8⟩:=q.cells
    obtain⟨e0,e1,e2,e3,e4,e5,e6,e7⟩:=Ib.cells (i:=⟨op,dn,s,tn,u,a',1,pl⟩) q1
    simp only at e0 e1 e2 e3 e4 e5 e6 e7
    have zf:=Bk.free q
    go_upto_region 4 with fail
    clear c0 c1 c2 c3 c4 c5 c6 c7 c8 zf e0 e1 e2 e3 e4 e5 e6 e7
    obtain⟨c0,c1,c2,c3,c4,c5,c6,c7,c8⟩:=q.cells
    have zf:=Bk.free q2
    obtain⟨z0,z1,z2,z3,z4,z5,z6,z7,z8⟩:=q2.cells
    have h9:=bz q2 (I O s0) (I O s1) (I O s2) (I O s3) (I O s4) (I O s5) (I O s6) (I O s7) (I Q pc)
    have b9:=ba b (show w.heap.size<=w.heap.size+1+1 by omega) (I O s0) (I O s1) (I O s2) (I O s3) (I O s4) (I O s5) (I O s6) (I O s7) (I Q pc)
    clear q q2 b
    go_wp
    generalize hv9:(((((((((y.setCell ⟨(w.heap.size+1+1),0,Z⟩ (I O s0)).setCell ⟨(w.heap.size+1+1),1,Z⟩ (I O s1)).setCell ⟨(w.heap.size+1+1),2,Z⟩ (I O s2)).setCell ⟨(w.heap.size+1+1),3,Z⟩ (I O s3)).setCell ⟨(w.heap.size+1+1),4,Z⟩ (I O s4)).setCell ⟨(w.heap.size+1+1),5,Z⟩ (I O s5)).setCell ⟨(w.heap.size+1+1),6,Z⟩ (I O s6)).setCell ⟨(w.heap.size+1+1),7,Z⟩ (I O s7)).setCell ⟨(w.heap.size+1+1),8,Z⟩ (I Q pc))=v9
    replace hv9:bn y (w.heap.size+1+1) (I O s0) (I O s1) (I O s2) (I O s3) (I O s4) (I O s5) (I O s6) (I O s7) (I Q pc)=v9:=hv9
    rw[hv9] at h9 b9
    obtain⟨y0,y1,y2,y3,y4,y5,y6,y7,y8⟩:=Cb.cells (r0:=s0) (r1:=s1) (r2:=s2) (r3:=s3) (r4:=s4) (r5:=s5) (r6:=s6) (r7:=s7) (pc:=pc) h9
    exact bodyPost_ret (v:=.tuple #[.agg #[I O s0,I O s1,I O s2,I O s3,I O s4,I O s5,I O s6,I O s7,I Q pc],.bool U]) (by simp[results,Tryz.results130,go_sem,y0,y1,y2,y3,y4,y5,y6,y7,y8]) rfl ⟨by rw[HA.out];rfl,b9⟩
   | true=>
    rcases hpl with rfl | ⟨hpl,_⟩
    ·replace HA:Hid (A=(⟨[s0,s1,s2,s3,s4,s5,s6,s7],pc⟩,U)):=F (by rw[HA.out];simp)
     go_upto_region 5 with fail
     clear cT cD e0 e1 e2 e3 e4 e5 e6 e7 zf
     generalize x.setCell ⟨w.heap.size,dn,Z⟩ (I O v)=y at *
     obtain⟨c0,c1,c2,c3,c4,c5,c6,c7,c8⟩:=q.cells
     obtain⟨e0,e1,e2,e3,e4,e5,e6,e7⟩:=Ib.cells (i:=⟨op,dn,s,tn,u,a',1,-1⟩) q1
     simp only at e0 e1 e2 e3 e4 e5 e6 e7
     have zf:=Bk.free q
     go_upto_region 4 with fail
     clear c0 c1 c2 c3 c4 c5 c6 c7 c8 zf e0 e1 e2 e3 e4 e5 e6 e7
     obtain⟨c0,c1,c2,c3,c4,c5,c6,c7,c8⟩:=q.cells
     have zf:=Bk.free q2
     obtain⟨z0,z1,z2,z3,z4,z5,z6,z7,z8⟩:=q2.cells
     have h9:=bz q2 (I O s0) (I O s1) (I O s2) (I O s3) (I O s4) (I O s5) (I O s6) (I O s7) (I Q pc)
     have b9:=ba b (show w.heap.size<=w.heap.size+1+1 by omega) (I O s0) (I O s1) (I O s2) (I O s3) (I O s4) (I O s5) (I O s6) (I O s7) (I Q pc)
     clear q q2 b
     go_wp
     generalize hv9:(((((((((y.setCell ⟨(w.heap.size+1+1),0,Z⟩ (I O s0)).setCell ⟨(w.heap.size+1+1),1,Z⟩ (I O s1)).setCell ⟨(w.heap.size+1+1),2,Z⟩ (I O s2)).setCell ⟨(w.heap.size+1+1),3,Z⟩ (I O s3)).setCell ⟨(w.heap.size+1+1),4,Z⟩ (I O s4)).setCell ⟨(w.heap.size+1+1),5,Z⟩ (I O s5)).setCell ⟨(w.heap.size+1+1),6,Z⟩ (I O s6)).setCell ⟨(w.heap.size+1+1),7,Z⟩ (I O s7)).setCell ⟨(w.heap.size+1+1),8,Z⟩ (I Q pc))=v9
     replace hv9:bn y (w.heap.size+1+1) (I O s0) (I O s1) (I O s2) (I O s3) (I O s4) (I O s5) (I O s6) (I O s7) (I Q pc)=v9:=hv9
     rw[hv9] at h9 b9
     obtain⟨y0,y1,y2,y3,y4,y5,y6,y7,y8⟩:=Cb.cells (r0:=s0) (r1:=s1) (r2:=s2) (r3:=s3) (r4:=s4) (r5:=s5) (r6:=s6) (r7:=s7) (pc:=pc) h9
     exact bodyPost_ret (v:=.tuple #[.agg #[I O s0,I O s1,I O s2,I O s3,I O s4,I O s5,I O s6,I O s7,I Q pc],.bool U]) (by simp[results,Tryz.results130,go_sem,y0,y1,y2,y3,y4,y5,y6,y7,y8]) rfl ⟨by rw[HA.out];rfl,b9⟩
    ·have hpn:¬ pl=-1:=by omega
     have hpn2:(pl != -1)=U:=by simp;omega
     replace HA:Hid (A=(⟨[s0,s1,s2,s3,s4,s5,s6,s7],pl⟩,T)):=F (by rw[HA.out];simp[hpn])
     clear hpn hpl
     go_upto_region 5 with fail
     clear cT cD e0 e1 e2 e3 e4 e5 e6 e7 zf
     generalize x.setCell ⟨w.heap.size,dn,Z⟩ (I O v)=y at *
     obtain⟨c0,c1,c2,c3,c4,c5,c6,c7,c8⟩:=q.cells
     obtain⟨e0,e1,e2,e3,e4,e5,e6,e7⟩:=Ib.cells (i:=⟨op,dn,s,tn,u,a',1,pl⟩) q1
     simp only at e0 e1 e2 e3 e4 e5 e6 e7
     have zf:=Bk.free q
     go_upto_region 9 with fail
     have o0:Cb (y.setCell ⟨w.heap.size,8,Z⟩ (I Q pl)) w.heap.size [s0,s1,s2,s3,s4,s5,s6,s7] pl:=Bk.put q 8 (I Q pl)
     have o2:Cb (y.setCell ⟨w.heap.size,8,Z⟩ (I Q pl)) _ _ _:=Bk.off q2 (p:=⟨w.heap.size,8,Z⟩) (by show w.heap.size+1+1≠w.heap.size;omega) (I Q pl)
     have o3:=b.setCell (p:=⟨w.heap.size,8,Z⟩) (Y _) (I Q pl)
     clear q q2 b c0 c1 c2 c3 c4 c5 c6 c7 c8 zf e0 e1 e2 e3 e4 e5 e6 e7
     generalize y.setCell ⟨w.heap.size,8,Z⟩ (I Q pl)=y at *
     have q:=o0
     have q2:=o2
     have b:=o3
     clear o0 o2 o3
     obtain⟨c0,c1,c2,c3,c4,c5,c6,c7,c8⟩:=q.cells
     have zf:=Bk.free q2
     obtain⟨z0,z1,z2,z3,z4,z5,z6,z7,z8⟩:=q2.cells
     have h9:=bz q2 (I O s0) (I O s1) (I O s2) (I O s3) (I O s4) (I O s5) (I O s6) (I O s7) (I Q pl)
     have b9:=ba b (show w.heap.size<=w.heap.size+1+1 by omega) (I O s0) (I O s1) (I O s2) (I O s3) (I O s4) (I O s5) (I O s6) (I O s7) (I Q pl)
     clear q q2 b
     go_wp
     generalize hv9:(((((((((y.setCell ⟨(w.heap.size+1+1),0,Z⟩ (I O s0)).setCell ⟨(w.heap.size+1+1),1,Z⟩ (I O s1)).setCell ⟨(w.heap.size+1+1),2,Z⟩ (I O s2)).setCell ⟨(w.heap.size+1+1),3,Z⟩ (I O s3)).setCell ⟨(w.heap.size+1+1),4,Z⟩ (I O s4)).setCell ⟨(w.heap.size+1+1),5,Z⟩ (I O s5)).setCell ⟨(w.heap.size+1+1),6,Z⟩ (I O s6)).setCell ⟨(w.heap.size+1+1),7,Z⟩ (I O s7)).setCell ⟨(w.heap.size+1+1),8,Z⟩ (I Q pl))=v9
     replace hv9:bn y (w.heap.size+1+1) (I O s0) (I O s1) (I O s2) (I O s3) (I O s4) (I O s5) (I O s6) (I O s7) (I Q pl)=v9:=hv9
     rw[hv9] at h9 b9
     obtain⟨y0,y1,y2,y3,y4,y5,y6,y7,y8⟩:=Cb.cells (r0:=s0) (r1:=s1) (r2:=s2) (r3:=s3) (r4:=s4) (r5:=s5) (r6:=s6) (r7:=s7) (pc:=pl) h9
     exact bodyPost_ret (v:=.tuple #[.agg #[I O s0,I O s1,I O s2,I O s3,I O s4,I O s5,I O s6,I O s7,I Q pl],.bool T]) (by simp[results,Tryz.results130,go_sem,y0,y1,y2,y3,y4,y5,y6,y7,y8]) rfl ⟨by rw[HA.out];rfl,b9⟩
 ·have hne:(v==V)=T:=by simpa using hV
  replace HA:=And.intro HA (F hV)
  clear hV
  obtain⟨HA,HV⟩:=HA
  rcases hk with rfl|rfl
  ·cases late with
   | false=>
    replace HA:Hid (A=(⟨[s0,s1,s2,s3,s4,s5,s6,s7],pc⟩,U)):=F (by rw[HA.out];simp[HV.out])
    clear hpl
    go_upto_region 5 with fail
    clear cT cD e0 e1 e2 e3 e4 e5 e6 e7 zf
    generalize x.setCell ⟨w.heap.size,dn,Z⟩ (I O v)=y at *
    obtain⟨c0,c1,c2,c3,c4,c5,c6,c7,c8⟩:=q.cells
    obtain⟨e0,e1,e2,e3,e4,e5,e6,e7⟩:=Ib.cells (i:=⟨op,dn,s,tn,u,a',0,pl⟩) q1
    simp only at e0 e1 e2 e3 e4 e5 e6 e7
    have zf:=Bk.free q
    go_upto_region 4 with fail
    clear c0 c1 c2 c3 c4 c5 c6 c7 c8 zf e0 e1 e2 e3 e4 e5 e6 e7
    obtain⟨c0,c1,c2,c3,c4,c5,c6,c7,c8⟩:=q.cells
    have zf:=Bk.free q2
    obtain⟨z0,z1,z2,z3,z4,z5,z6,z7,z8⟩:=q2.cells
    have h9:=bz q2 (I O s0) (I O s1) (I O s2) (I O s3) (I O s4) (I O s5) (I O s6) (I O s7) (I Q pc)
    have b9:=ba b (show w.heap.size<=w.heap.size+1+1 by omega) (I O s0) (I O s1) (I O s2) (I O s3) (I O s4) (I O s5) (I O s6) (I O s7) (I Q pc)
    clear q q2 b
    go_wp
    generalize hv9:(((((((((y.setCell ⟨(w.heap.size+1+1),0,Z⟩ (I O s0)).setCell ⟨(w.heap.size+1+1),1,Z⟩ (I O s1)).setCell ⟨(w.heap.size+1+1),2,Z⟩ (I O s2)).setCell ⟨(w.heap.size+1+1),3,Z⟩ (I O s3)).setCell ⟨(w.heap.size+1+1),4,Z⟩ (I O s4)).setCell ⟨(w.heap.size+1+1),5,Z⟩ (I O s5)).setCell ⟨(w.heap.size+1+1),6,Z⟩ (I O s6)).setCell ⟨(w.heap.size+1+1),7,Z⟩ (I O s7)).setCell ⟨(w.heap.size+1+1),8,Z⟩ (I Q pc))=v9
    replace hv9:bn y (w.heap.size+1+1) (I O s0) (I O s1) (I O s2) (I O s3) (I O s4) (I O s5) (I O s6) (I O s7) (I Q pc)=v9:=hv9
    rw[hv9] at h9 b9
    obtain⟨y0,y1,y2,y3,y4,y5,y6,y7,y8⟩:=Cb.cells (r0:=s0) (r1:=s1) (r2:=s2) (r3:=s3) (r4:=s4) (r5:=s5) (r6:=s6) (r7:=s7) (pc:=pc) h9
    exact bodyPost_ret (v:=.tuple #[.agg #[I O s0,I O s1,I O s2,I O s3,I O s4,I O s5,I O s6,I O s7,I Q pc],.bool U]) (by simp[results,Tryz.results130,go_sem,y0,y1,y2,y3,y4,y5,y6,y7,y8]) rfl ⟨by rw[HA.out];rfl,b9⟩
   | true=>
    rcases hpl with rfl | ⟨hpl,_⟩
    ·replace HA:Hid (A=(⟨[s0,s1,s2,s3,s4,s5,s6,s7],pc⟩,U)):=F (by rw[HA.out];simp[HV.out])
     go_upto_region 5 with fail
     clear cT cD e0 e1 e2 e3 e4 e5 e6 e7 zf
     generalize x.setCell ⟨w.heap.size,dn,Z⟩ (I O v)=y at *
     obtain⟨c0,c1,c2,c3,c4,c5,c6,c7,c8⟩:=q.cells
     obtain⟨e0,e1,e2,e3,e4,e5,e6,e7⟩:=Ib.cells (i:=⟨op,dn,s,tn,u,a',0,-1⟩) q1
     simp only at e0 e1 e2 e3 e4 e5 e6 e7
     have zf:=Bk.free q
     go_upto_region 4 with fail
     clear c0 c1 c2 c3 c4 c5 c6 c7 c8 zf e0 e1 e2 e3 e4 e5 e6 e7
     obtain⟨c0,c1,c2,c3,c4,c5,c6,c7,c8⟩:=q.cells
     have zf:=Bk.free q2
     obtain⟨z0,z1,z2,z3,z4,z5,z6,z7,z8⟩:=q2.cells
     have h9:=bz q2 (I O s0) (I O s1) (I O s2) (I O s3) (I O s4) (I O s5) (I O s6) (I O s7) (I Q pc)
     have b9:=ba b (show w.heap.size<=w.heap.size+1+1 by omega) (I O s0) (I O s1) (I O s2) (I O s3) (I O s4) (I O s5) (I O s6) (I O s7) (I Q pc)
     clear q q2 b
     go_wp
     generalize hv9:(((((((((y.setCell ⟨(w.heap.size+1+1),0,Z⟩ (I O s0)).setCell ⟨(w.heap.size+1+1),1,Z⟩ (I O s1)).setCell ⟨(w.heap.size+1+1),2,Z⟩ (I O s2)).setCell ⟨(w.heap.size+1+1),3,Z⟩ (I O s3)).setCell ⟨(w.heap.size+1+1),4,Z⟩ (I O s4)).setCell ⟨(w.heap.size+1+1),5,Z⟩ (I O s5)).setCell ⟨(w.heap.size+1+1),6,Z⟩ (I O s6)).setCell ⟨(w.heap.size+1+1),7,Z⟩ (I O s7)).setCell ⟨(w.heap.size+1+1),8,Z⟩ (I Q pc))=v9
     replace hv9:bn y (w.heap.size+1+1) (I O s0) (I O s1) (I O s2) (I O s3) (I O s4) (I O s5) (I O s6) (I O s7) (I Q pc)=v9:=hv9
     rw[hv9] at h9 b9
     obtain⟨y0,y1,y2,y3,y4,y5,y6,y7,y8⟩:=Cb.cells (r0:=s0) (r1:=s1) (r2:=s2) (r3:=s3) (r4:=s4) (r5:=s5) (r6:=s6) (r7:=s7) (pc:=pc) h9
     exact bodyPost_ret (v:=.tuple #[.agg #[I O s0,I O s1,I O s2,I O s3,I O s4,I O s5,I O s6,I O s7,I Q pc],.bool U]) (by simp[results,Tryz.results130,go_sem,y0,y1,y2,y3,y4,y5,y6,y7,y8]) rfl ⟨by rw[HA.out];rfl,b9⟩
    ·have hpn:¬ pl=-1:=by omega
     have hpn2:(pl != -1)=U:=by simp;omega
     replace HA:Hid (A=(⟨[s0,s1,s2,s3,s4,s5,s6,s7],pl⟩,T)):=F (by rw[HA.out];simp[hpn,HV.out])
     clear hpn hpl
     go_upto_region 5 with fail
     clear cT cD e0 e1 e2 e3 e4 e5 e6 e7 zf
     generalize x.setCell ⟨w.heap.size,dn,Z⟩ (I O v)=y at *
     obtain⟨c0,c1,c2,c3,c4,c5,c6,c7,c8⟩:=q.cells
     obtain⟨e0,e1,e2,e3,e4,e5,e6,e7⟩:=Ib.cells (i:=⟨op,dn,s,tn,u,a',0,pl⟩) q1
     simp only at e0 e1 e2 e3 e4 e5 e6 e7
     have zf:=Bk.free q
     go_upto_region 9 with fail
     have o0:Cb (y.setCell ⟨w.heap.size,8,Z⟩ (I Q pl)) w.heap.size [s0,s1,s2,s3,s4,s5,s6,s7] pl:=Bk.put q 8 (I Q pl)
     have o2:Cb (y.setCell ⟨w.heap.size,8,Z⟩ (I Q pl)) _ _ _:=Bk.off q2 (p:=⟨w.heap.size,8,Z⟩) (by show w.heap.size+1+1≠w.heap.size;omega) (I Q pl)
     have o3:=b.setCell (p:=⟨w.heap.size,8,Z⟩) (Y _) (I Q pl)
     clear q q2 b c0 c1 c2 c3 c4 c5 c6 c7 c8 zf e0 e1 e2 e3 e4 e5 e6 e7
     generalize y.setCell ⟨w.heap.size,8,Z⟩ (I Q pl)=y at *
     have q:=o0
     have q2:=o2
     have b:=o3
     clear o0 o2 o3
     obtain⟨c0,c1,c2,c3,c4,c5,c6,c7,c8⟩:=q.cells
     have zf:=Bk.free q2
     obtain⟨z0,z1,z2,z3,z4,z5,z6,z7,z8⟩:=q2.cells
     have h9:=bz q2 (I O s0) (I O s1) (I O s2) (I O s3) (I O s4) (I O s5) (I O s6) (I O s7) (I Q pl)
     have b9:=ba b (show w.heap.size<=w.heap.size+1+1 by omega) (I O s0) (I O s1) (I O s2) (I O s3) (I O s4) (I O s5) (I O s6) (I O s7) (I Q pl)
     clear q q2 b
     go_wp
     generalize hv9:(((((((((y.setCell ⟨(w.heap.size+1+1),0,Z⟩ (I O s0)).setCell ⟨(w.heap.size+1+1),1,Z⟩ (I O s1)).setCell ⟨(w.heap.size+1+1),2,Z⟩ (I O s2)).setCell ⟨(w.heap.size+1+1),3,Z⟩ (I O s3)).setCell ⟨(w.heap.size+1+1),4,Z⟩ (I O s4)).setCell ⟨(w.heap.size+1+1),5,Z⟩ (I O s5)).setCell ⟨(w.heap.size+1+1),6,Z⟩ (I O s6)).setCell ⟨(w.heap.size+1+1),7,Z⟩ (I O s7)).setCell ⟨(w.heap.size+1+1),8,Z⟩ (I Q pl))=v9
     replace hv9:bn y (w.heap.size+1+1) (I O s0) (I O s1) (I O s2) (I O s3) (I O s4) (I O s5) (I O s6) (I O s7) (I Q pl)=v9:=hv9
     rw[hv9] at h9 b9
     obtain⟨y0,y1,y2,y3,y4,y5,y6,y7,y8⟩:=Cb.cells (r0:=s0) (r1:=s1) (r2:=s2) (r3:=s3) (r4:=s4) (r5:=s5) (r6:=s6) (r7:=s7) (pc:=pl) h9
     exact bodyPost_ret (v:=.tuple #[.agg #[I O s0,I O s1,I O s2,I O s3,I O s4,I O s5,I O s6,I O s7,I Q pl],.bool T]) (by simp[results,Tryz.results130,go_sem,y0,y1,y2,y3,y4,y5,y6,y7,y8]) rfl ⟨by rw[HA.out];rfl,b9⟩
  ·replace HA:Hid (A=(⟨[s0,s1,s2,s3,s4,s5,s6,s7],pc+1⟩,T)):=F (by rw[HA.out];simp[HV.out])
   clear hpl
   go_upto_region 5 with fail
   clear cT cD e0 e1 e2 e3 e4 e5 e6 e7 zf
   generalize x.setCell ⟨w.heap.size,dn,Z⟩ (I O v)=y at *
   obtain⟨c0,c1,c2,c3,c4,c5,c6,c7,c8⟩:=q.cells
   obtain⟨e0,e1,e2,e3,e4,e5,e6,e7⟩:=Ib.cells (i:=⟨op,dn,s,tn,u,a',1,pl⟩) q1
   simp only at e0 e1 e2 e3 e4 e5 e6 e7
   have zf:=Bk.free q
   go_upto_region 9 with fail
   have o0:Cb (y.setCell ⟨w.heap.size,8,Z⟩ (I Q (pc+1))) w.heap.size [s0,s1,s2,s3,s4,s5,s6,s7] (pc+1):=Bk.put q 8 (I Q (pc+1))
   have o2:Cb (y.setCell ⟨w.heap.size,8,Z⟩ (I Q (pc+1))) _ _ _:=Bk.off q2 (p:=⟨w.heap.size,8,Z⟩) (by show w.heap.size+1+1≠w.heap.size;omega) (I Q (pc+1))
   have o3:=b.setCell (p:=⟨w.heap.size,8,Z⟩) (Y _) (I Q (pc+1))
   clear q q2 b c0 c1 c2 c3 c4 c5 c6 c7 c8 zf e0 e1 e2 e3 e4 e5 e6 e7
   generalize y.setCell ⟨w.heap.size,8,Z⟩ (I Q (pc+1))=y at *
   have q:=o0
   have q2:=o2
   have b:=o3
   clear o0 o2 o3
   obtain⟨c0,c1,c2,c3,c4,c5,c6,c7,c8⟩:=q.cells
   have zf:=Bk.free q2
   obtain⟨z0,z1,z2,z3,z4,z5,z6,z7,z8⟩:=q2.cells
   have h9:=bz q2 (I O s0) (I O s1) (I O s2) (I O s3) (I O s4) (I O s5) (I O s6) (I O s7) (I Q (pc+1))
   have b9:=ba b (show w.heap.size<=w.heap.size+1+1 by omega) (I O s0) (I O s1) (I O s2) (I O s3) (I O s4) (I O s5) (I O s6) (I O s7) (I Q (pc+1))
   clear q q2 b
   go_wp
   generalize hv9:(((((((((y.setCell ⟨(w.heap.size+1+1),0,Z⟩ (I O s0)).setCell ⟨(w.heap.size+1+1),1,Z⟩ (I O s1)).setCell ⟨(w.heap.size+1+1),2,Z⟩ (I O s2)).setCell ⟨(w.heap.size+1+1),3,Z⟩ (I O s3)).setCell ⟨(w.heap.size+1+1),4,Z⟩ (I O s4)).setCell ⟨(w.heap.size+1+1),5,Z⟩ (I O s5)).setCell ⟨(w.heap.size+1+1),6,Z⟩ (I O s6)).setCell ⟨(w.heap.size+1+1),7,Z⟩ (I O s7)).setCell ⟨(w.heap.size+1+1),8,Z⟩ (I Q (pc+1)))=v9
   replace hv9:bn y (w.heap.size+1+1) (I O s0) (I O s1) (I O s2) (I O s3) (I O s4) (I O s5) (I O s6) (I O s7) (I Q (pc+1))=v9:=hv9
   rw[hv9] at h9 b9
   obtain⟨y0,y1,y2,y3,y4,y5,y6,y7,y8⟩:=Cb.cells (r0:=s0) (r1:=s1) (r2:=s2) (r3:=s3) (r4:=s4) (r5:=s5) (r6:=s6) (r7:=s7) (pc:=(pc+1)) h9
   exact bodyPost_ret (v:=.tuple #[.agg #[I O s0,I O s1,I O s2,I O s3,I O s4,I O s5,I O s6,I O s7,I Q (pc+1)],.bool T]) (by simp[results,Tryz.results130,go_sem,y0,y1,y2,y3,y4,y5,y6,y7,y8]) rfl ⟨by rw[HA.out];rfl,b9⟩
end
section
variable {w w':World}{X:XP}{k:Lk}{m:Mc}
theorem uE (h:Ex w X k m)(t:Nat)(ht:t<k.n){i:aN}(hn:iq k (m.cs t).pc=P i):
 Calls Tryz.prog 49 #[J (P ⟨X.x,0,Z⟩),I Q t] w (pM w i):=by
 have hf:=h.lk.n64
 have hl:=h.lk.parts
 obtain⟨r0,r1,r2,r3,r4,r5,r6,r7,pc,ec⟩:=h.bA ht
 rw[ec] at hn
 simp only at hn
 have h2:=h.below ((C _ w).alloc (Y _) (G #[I Q 0,I Q 0,I Q 0,I Q 0,I Q 0,I Q 0,I O 0,I Q 0] 117))
 have q0:=Ib.made w 0 0 0 0 0 0 0 0
 have b0:Below w.heap.size w (w.alloc (G #[I Q 0,I Q 0,I Q 0,I Q 0,I Q 0,I Q 0,I O 0,I Q 0] 117)):=(C _ _).alloc (Y _) _
 obtain⟨hp0,hp1,hj,hmj⟩:=fg hn
 obtain⟨n,rfl⟩:=Int.eq_ofNat_of_zero_le hp0
 rw[Int.toNat_natCast] at hj
 have HG:Hid (∀ y:World,Ib y w.heap.size aN.zero->Below w.heap.size w y->Ib (eA y w.heap.size i) w.heap.size i/\Below w.heap.size w (eA y w.heap.size i)):=F fun y hy hb=>⟨dJ hy,aY hb (Y _)⟩
 have HM:=F (fun W=>kg i W)
 rw[hmj] at HM
 obtain⟨op,d,s,t',u,a',k',pl⟩:=i
 unfold pM iv
 unfold iv at HM
 simp only at HM ⊢
 go_enter Tryz.func49,Tryz.ntmps49
 go_upto_region 1 with fail
 generalize w.alloc (G #[I Q 0,I Q 0,I Q 0,I Q 0,I Q 0,I Q 0,I O 0,I Q 0] 117)=x at *
 go_wp2_with fail
 refine(lP h2 t ht).mono ?_
 rintro e w' ⟨rfl,rfl⟩
 have c5:=h2.c5
 obtain⟨c0,c1,c2,c3,c4,c5',c6,c7,c8⟩:=h2.core ht ec
 have k0:=h2.c0
 obtain⟨hpv,a,cap,ecv⟩:=h2.pv
 rw[ecv] at k0
 obtain⟨a2,ca2,e2,_,_,_,hsl⟩:=hpv
 simp only[Value.agg.injEq,Array.mk.injEq,List.cons.injEq,ecv,Value.slice.injEq,and_true,true_and] at e2
 obtain⟨rfl,rfl⟩:=e2
 have HSL:=F hsl
 obtain⟨g,off,rfl,hgl,e0,e1,e2,e3,e4,e5,e6,e7⟩:=hsl.at_ hj
 have hp':decide ((n:Int)<0)=T:=by simp
 have hp2:decide ((n:Int)>=(k.l.length:Int))=T:=by simp;omega
 have hp3:(n:Int)<k.l.length:=hp1
 have hl2:=hl.2.1
 have HQ:=F q0
 have HB:=F b0
 have HX:=F h2
 have HJ:=F hj
 clear hn hl q0 b0 hmj hsl h hj
 simp only at e0 e1 e2 e3 e4 e5 e6 e7
 go_wp2_with fail
 refine(HM.out _).mono ?_
 rintro e y ⟨rfl,hy⟩
 have q0:=HQ.out.below hy
 obtain⟨g1,g2⟩:=HG.out y q0 (HB.out.trans (hy.mono HB.out.size))
 have zf:=Bk.free q0
 obtain⟨z0,z1,z2,z3,z4,z5,z6,z7⟩:=q0.cells
 simp only at z0 z1 z2 z3 z4 z5 z6 z7
 clear e0 e1 e2 e3 e4 e5 e6 e7 c0 c1 c2 c3 c4 c5 c5' c6 c7 c8 k0
 have h3:=HX.out.below hy
 have k0:=h3.c0
 rw[ecv] at k0
 obtain⟨g',off',ee,hgl',e0,e1,e2,e3,e4,e5,e6,e7⟩:=(HSL.out.below hy).at_ HJ.out
 simp only[Option.some.injEq,Addr.mk.injEq,and_true] at ee
 obtain⟨rfl,rfl⟩:=ee
 simp only at e0 e1 e2 e3 e4 e5 e6 e7
 clear q0 HQ HB HG h2 h3 HM HX HSL HJ hgl'
 have hp4:decide (k.l.length<=n)=T:=by simp;omega
 rw[hp4]
 go_upto_region 6 with fail
 go_wp
 generalize hv9:(((((((y.setCell ⟨w.heap.size,0,Z⟩ (I Q op)).setCell ⟨w.heap.size,1,Z⟩ (I Q d)).setCell ⟨w.heap.size,2,Z⟩ (I Q s)).setCell ⟨w.heap.size,3,Z⟩ (I Q t')).setCell ⟨w.heap.size,4,Z⟩ (I Q u)).setCell ⟨w.heap.size,5,Z⟩ (I Q a')).setCell ⟨w.heap.size,6,Z⟩ (I O k')).setCell ⟨w.heap.size,7,Z⟩ (I Q pl)=v9
 replace hv9:eA y w.heap.size ⟨op,d,s,t',u,a',k',pl⟩=v9:=hv9
 rw[hv9] at g1 g2
 obtain⟨y0,y1,y2,y3,y4,y5,y6,y7⟩:=g1.cells
 simp only at y0 y1 y2 y3 y4 y5 y6 y7
 exact bodyPost_ret (v:=.tuple #[.agg #[I Q op,I Q d,I Q s,I Q t',I Q u,I Q a',I O k',I Q pl],.bool U]) (by simp[results,Tryz.results49,go_sem,y0,y1,y2,y3,y4,y5,y6,y7]) rfl ⟨rfl,g2⟩
end
end
