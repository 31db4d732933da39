import Derived.Test.YtbgaaclplgghcaaGreatDoorWCell
import Derived.Test.YtbgaaclplgghcaaGreatDoorWFlowK
import Derived.Test.YtbgaaclplgghcaaGreatDoorWAsmB
import Derived.Test.YtbgaaclplgghcaaGreatDoorWAsmC
import Derived.Test.YtbgaaclplgghcaaGreatDoorWCoreU
import Derived.Test.YtbgaaclplgghcaaGreatDoorWCoreV
import Derived.Test.YtbgaaclplgghcaaGreatDoorWMem
import Derived.Test.YtbgaaclplgghcaaGreatDoorWPool
import Derived.ChangeArms
import Derived.DataReads
import Derived.ArgAppend
import Derived.RegionTactic
import Derived.Deep.RegionLawGrows
import Derived.Deep.RegionHeld3
import Derived.Deep.Onto
import Derived.Lib.SmallJoins
set_option linter.unusedVariables false
set_option maxHeartbeats 4000000
set_option maxRecDepth 100000
open Go.Value renaming int->I,slice->K,pointer->J
open Go.IntKind renaming i64->Q,u32->O
open Option renaming none->Z,some->P
open Bool renaming false->T,true->U
open Go.Obj renaming cells->G
open Go.Lib renaming hid->F
open Go.RowKit.Below renaming refl->C
open Nat renaming le_refl->Y
namespace Go.Proofs.YtbgaaclplgghcaaGreatDoor
section
open Go.ChangeShapes Go.WideShapes Go.ChangeAt Go.RowKit Go.Shelf
theorem AE (t:List UInt8):pO (t++[58])=cJ t:=by
 unfold pO
 simp
theorem CK {s:List UInt8}(h:∀ t,s≠t++[58]):pO s=T:=by
 rw[Bool.eq_false_iff]
 intro e
 unfold pO at e
 simp only[Bool.and_eq_true,decide_eq_true_eq,Bool.not_eq_true',List.isEmpty_eq_false_iff] at e
 obtain⟨h1,h2,_⟩:=e
 refine h s.dropLast ?_
 have:=List.dropLast_concat_getLast h1
 have h3:(s.dropLast++[s.getLast h1]).getLastD 0=58:=by rw[this];exact h2
 simp at h3
 rw[h3] at this
 exact this.symm
def gX (s:List UInt8)(n:Int)(ls:List (List UInt8×Int))(rs:List Rw):Int×List (List UInt8×Int)×List Rw:=
 if pO s=U then (if fy ls s.dropLast=U then (2,ls,rs) else (0,ls++[(s.dropLast,(rs.length:Int))],rs))
 else match eC s with
  | none=>(8,ls,rs)
  | some (i,nm)=>if 64<=rs.length then (9,ls,rs) else (0,ls,rs++[(i,nm,n)])
section
variable {w:World}{p m lo:Nat}{ls:List (List UInt8×Int)}{rs:List Rw}
theorem Bc (h:Dr w p m lo ls rs)(s:List UInt8)(hs:∀ t,s≠t++[10])(hl:s.length<100000)(n:Int):
 Calls Tryz.prog 65 #[J (P ⟨p,0,Z⟩),I Q n,bs s] w fun e w'=>e=.returned (I Q 8)/\w=w':=by
 have HC:=F (fun W=>Dt s [10] (by omega) W)
 rw[(pF hs).1,(pF hs).2] at HC
 unfold bs
 go_enter Tryz.func65,Tryz.ntmps65
 go_wp2_with fail
 refine(HC.out _).mono ?_
 rintro e w' ⟨rfl,rfl⟩
 unfold bs
 go_wp2
 go_ret
 exact⟨rfl,rfl⟩
def pC (w:World)(p m lo:Nat)(q:Int×List (List UInt8×Int)×List Rw)(e:Ending)(w':World):Prop:=e=.returned (I Q q.1)/\Dr w' p m lo q.2.1 q.2.2/\ab w w' (wN p m lo)
theorem Ez (h:Dr w p m lo ls rs)(hlo:lo<=w.heap.size)(L:Lb w)(s:List UInt8)(hl:s.length<90000)(n:Int)(hls:ls.length<1000000)(hrs:rs.length<=64):
 Calls Tryz.prog 65 #[J (P ⟨p,0,Z⟩),I Q n,bs (s++[10])] w (pC w p m lo (gX s n ls rs)):=by
 have HC:=F (fun W=>Dt (s++[10]) [10] (by simp;omega) W)
 rw[(lJ s 10).1,(lJ s 10).2] at HC
 have HK:=F (fun W=>Dt s [58] (by omega) W)
 have HI:=F (fun W LW=>A8 s (by omega) W LW)
 have HB:Hid (∀ W,Below w.heap.size w W->Dr W p m lo ls rs/\ab w W (wN p m lo)):=F fun W hW=>⟨h.within (av hW) (by simp) (by simp) (by simp),(av hW).wide (by simp)⟩
 have HLB:=F (fun W (hW:Below w.heap.size w W)=>L.below hW)
 rcases Cj s 58 with ⟨nm,hnm⟩ | hno
 case' inl=>
  have e1:=(lJ nm 58).1
  have e2:=(lJ nm 58).2
  rw[<-hnm] at e1 e2
  rw[e1,e2] at HK
  have HN:=F (fun W=>uc nm W)
  have hlb:pO s=cJ nm:=by rw[hnm];exact AE nm
  have lB:s.dropLast=nm:=by rw[hnm];simp
  have HD:=F lB
  have hnl:nm.length<=1000000:=by rw[hnm] at hl;simp at hl;omega
  clear e1 e2 lB
  clear hnm
  unfold bs
  go_enter Tryz.func65,Tryz.ntmps65
  go_wp2_with fail
  refine(HC.out _).mono ?_
  rintro e w' ⟨rfl,rfl⟩
  unfold bs
  go_wp2_with fail
  refine(HK.out _).mono ?_
  rintro e w' ⟨rfl,rfl⟩
  unfold bs
  go_wp2_with fail
  refine(HN.out _).mono ?_
  rintro e x ⟨rfl,bb⟩
  rcases hq:cJ nm
  case' true=>
   rw[hq] at hlb
   have HLBL:=F hlb
   clear HI HC HK HN hq hlb
   obtain⟨hD,hW⟩:=HB.out x bb
   rcases hk:fy ls nm
   ·have HA:=F (vN hD nm hnl hls hrs hk)
    go_wp2_with fail
    refine HA.out.mono ?_
    rintro e y ⟨rfl,hD2,hW2⟩
    go_wp2
    go_ret
    have:gX s n ls rs=(0,ls++[(nm,(rs.length:Int))],rs):=by
     unfold gX
     rw[if_pos HLBL.out,HD.out,if_neg (by rw[hk];simp)]
    unfold pC
    rw[this]
    exact⟨rfl,hD2,hW.bx hW2 fun i hi=>.inl hi⟩
   ·have HA:=F (qf hD nm hnl hk)
    go_wp2_with fail
    refine HA.out.mono ?_
    rintro e y ⟨rfl,rfl⟩
    go_wp2
    go_ret
    have:gX s n ls rs=(2,ls,rs):=by
     unfold gX
     rw[if_pos HLBL.out,HD.out,if_pos hk]
    unfold pC
    rw[this]
    exact⟨rfl,hD,hW⟩
  case' false=>
   rw[hq] at hlb
   have HLBL:=F hlb
   clear HC HK HN hq hlb HD
   go_wp2_with fail
 case' inr=>
  rw[(pF hno).1,(pF hno).2] at HK
  have HLBL:=F (CK hno)
  clear hno
  unfold bs
  go_enter Tryz.func65,Tryz.ntmps65
  go_wp2_with fail
  refine(HC.out _).mono ?_
  rintro e w' ⟨rfl,rfl⟩
  unfold bs
  go_wp2_with fail
  refine(HK.out _).mono ?_
  rintro e w' ⟨rfl,rfl⟩
  unfold bs
  have bb:=C w.heap.size w
  clear HC HK
  go_wp2_with fail
 all_goals (
  refine(HI.out _ (HLB.out _ bb)).mono ?_
  rintro e y ⟨rfl,hby⟩
  replace bb:=bb.trans (hby.mono bb.size)
  clear hby HI
  rcases hq:eC s with _ | ⟨⟨op,d,s',t,u,a,k,pl⟩,nm2⟩
  ·have e:gD s=.tuple #[.agg #[I Q 0,I Q 0,I Q 0,I Q 0,I Q 0,I Q 0,I O 0,I Q 0],.string ⟨#[]⟩,.bool T]:=by unfold gD;rw[hq];rfl
   have ea:gX s n ls rs=(8,ls,rs):=by unfold gX;rw[if_neg (by rw[HLBL.out];simp),hq]
   have EA:=F ea
   rw[e]
   clear e hq HLBL ea
   go_wp2
   go_ret
   unfold pC
   rw[EA.out]
   exact⟨rfl,HB.out _ (bb.alloc bb.size _)⟩
  ·have e:gD s=.tuple #[.agg #[I Q op,I Q d,I Q s',I Q t,I Q u,I Q a,I O k,I Q pl],.string ⟨nm2.toArray⟩,.bool U]:=by unfold gD;rw[hq];rfl
   have ea:gX s n ls rs=if 64<=rs.length then (9,ls,rs) else (0,ls,rs++[(⟨op,d,s',t,u,a,k,pl⟩,nm2,n)]):=by unfold gX;rw[if_neg (by rw[HLBL.out];simp),hq]
   have EA:=F ea
   rw[e]
   clear e hq HLBL ea
   go_upto_region 8 with fail
   have m2:=Ib.made y op d s' t u a k pl
   replace bb:=bb.alloc (o:=G #[I Q op,I Q d,I Q s',I Q t,I Q u,I Q a,I O k,I Q pl] 121) bb.size
   generalize y.heap.size=g at *
   generalize y.alloc (G #[I Q op,I Q d,I Q s',I Q t,I Q u,I Q a,I O k,I Q pl] 121)=x3 at *
   obtain⟨c0,c1,c2,c3,c4,c5,c6,c7⟩:=m2.cells
   simp only at c0 c1 c2 c3 c4 c5 c6 c7
   obtain⟨hD,hW⟩:=HB.out x3 bb
   go_wp2_with fail
   by_cases h64:rs.length<64
   ·refine(Bb hD h64 (Nat.le_trans hlo bb.size) (⟨op,d,s',t,u,a,k,pl⟩,nm2,n)).mono ?_
    rintro e z ⟨rfl,hD2,hW2⟩
    go_wp2
    go_ret
    unfold pC
    rw[EA.out,if_neg (by omega)]
    exact⟨rfl,hD2,hW.bx hW2 fun i hi=>.inl hi⟩
   ·refine(vM hD (by omega) (⟨op,d,s',t,u,a,k,pl⟩,nm2,n)).mono ?_
    rintro e z ⟨rfl,hz⟩
    go_wp2
    go_ret
    unfold pC
    rw[EA.out,if_pos (by omega)]
    exact⟨rfl,HB.out _ (bb.trans (hz.mono bb.size))⟩)
end
end
section
open Go.Joins Go.ChangeShapes Go.WideShapes Go.ChangeAt Go.RowKit Go.Deep
theorem own:ownKnob Tryz.prog.godebug=Z:=by kernel_rfl
theorem tV:laidOutB Tryz.prog=U:=by kernel_rfl
theorem uy (a:Int)(d:Nat)(w:World):(Op.equalIn (d+1) 3 (I Q a) (I Q a)).run Tryz.prog w=.ok U w:=by
 simp[Op.equalIn,run_underlying Tryz.underlying3]
theorem xH:(Tryz.prog.info? 3).isSome=U:=by kernel_rfl
theorem ux (x0 x1 x2 x3 x4 x5 x6 x7:Int)(d:Nat)(w:World):(Op.equalIn (d+1+1) 113 (.agg #[I Q x0,I Q x1,I Q x2,I Q x3,I Q x4,I Q x5,I Q x6,I Q x7]) (.agg #[I Q x0,I Q x1,I Q x2,I Q x3,I Q x4,I Q x5,I Q x6,I Q x7])).run Tryz.prog w=.ok U w:=by
 obtain⟨i,hi⟩:=Option.isSome_iff_exists.1 xH
 have hc:Tryz.prog.cellsOf 3=1:=by kernel_rfl
 rw[run_equalIn_array w (d+1) _ _ Tryz.underlying113 hi,hc,show List.range 8=[0,1,2,3,4,5,6,7] from rfl]
 simp[Op.eqItems,part,uy]
theorem Ba (c:ie)(v:Value)(xs:List Int)(pc:Int)(self:Int)(unl:Bool)(w:World)(hv:Pv w v c)(hl:c.l.length<=64)(hi:∀ i∈c.l,Bu i)(hx:bg xs)(h0:0<=self)(h1:self<4294967296):
 Calls Tryz.prog 51 #[cv xs pc,v,I Q self,.bool unl] w (zG w (fJ self c.l 256 xs (if unl then c.un else c.lo) [])):=by
 have HE:=F (fS hi h0 h1 256 xs (if unl then c.un else c.lo) [] hx)
 obtain⟨RR,hRR⟩:∃ R,R=fJ self c.l 256 xs (if unl then c.un else c.lo) []:=⟨_,rfl⟩
 have HRun:Hid (∀ W v,Pv W v c->Calls Tryz.prog 55 #[cv xs (if unl then c.un else c.lo),v,I Q self] W (zG W RR)):=F fun W v h=>by rw[hRR];exact BR c v xs _ self W h hl hi hx h0 h1
 rw[<-hRR] at HE ⊢
 clear hRR
 obtain⟨a,ca,rfl,hc1,hc2,hcn,ha⟩:=hv
 obtain⟨r0,r1,r2,r3,r4,r5,r6,r7,rfl⟩:=aD hx.1
 have q0:Cb (((w.alloc (G #[I O r0,I O r1,I O r2,I O r3,I O r4,I O r5,I O r6,I O r7,I Q pc] 111)).alloc (G #[K a c.l.length ca,I Q c.lo,I Q c.un] 25)).alloc (G #[I O 0,I O 0,I O 0,I O 0,I O 0,I O 0,I O 0,I O 0,I Q 0] 111)) w.heap.size [r0,r1,r2,r3,r4,r5,r6,r7] pc:=((Cb.made w [r0,r1,r2,r3,r4,r5,r6,r7] pc).alloc (G #[K a c.l.length ca,I Q c.lo,I Q c.un] 25)).alloc (G #[I O 0,I O 0,I O 0,I O 0,I O 0,I O 0,I O 0,I O 0,I Q 0] 111)
 have q1:Bk (((w.alloc (G #[I O r0,I O r1,I O r2,I O r3,I O r4,I O r5,I O r6,I O r7,I Q pc] 111)).alloc (G #[K a c.l.length ca,I Q c.lo,I Q c.un] 25)).alloc (G #[I O 0,I O 0,I O 0,I O 0,I O 0,I O 0,I O 0,I O 0,I Q 0] 111)) (w.heap.size+1) 25 #[K a c.l.length ca,I Q c.lo,I Q c.un]:=by
  have:=Bk.alloc (Bk.made (w.alloc (G #[I O r0,I O r1,I O r2,I O r3,I O r4,I O r5,I O r6,I O r7,I Q pc] 111)) 25 #[K a c.l.length ca,I Q c.lo,I Q c.un]) (G #[I O 0,I O 0,I O 0,I O 0,I O 0,I O 0,I O 0,I O 0,I Q 0] 111)
  rw[World.size_alloc] at this
  exact this
 have q2:Cb (((w.alloc (G #[I O r0,I O r1,I O r2,I O r3,I O r4,I O r5,I O r6,I O r7,I Q pc] 111)).alloc (G #[K a c.l.length ca,I Q c.lo,I Q c.un] 25)).alloc (G #[I O 0,I O 0,I O 0,I O 0,I O 0,I O 0,I O 0,I O 0,I Q 0] 111)) (w.heap.size+1+1) [0,0,0,0,0,0,0,0] 0:=by
  have:=Cb.made ((w.alloc (G #[I O r0,I O r1,I O r2,I O r3,I O r4,I O r5,I O r6,I O r7,I Q pc] 111)).alloc (G #[K a c.l.length ca,I Q c.lo,I Q c.un] 25)) [0,0,0,0,0,0,0,0] 0
  rw[World.size_alloc,World.size_alloc] at this
  exact this
 have b0:Below w.heap.size w (((w.alloc (G #[I O r0,I O r1,I O r2,I O r3,I O r4,I O r5,I O r6,I O r7,I Q pc] 111)).alloc (G #[K a c.l.length ca,I Q c.lo,I Q c.un] 25)).alloc (G #[I O 0,I O 0,I O 0,I O 0,I O 0,I O 0,I O 0,I O 0,I Q 0] 111)):=(((C _ _).alloc (Y _) _).alloc (by simp) _).alloc (by simp;omega) _
 unfold zG dD cv at *
 simp only[bO,List.map_cons,List.map_nil,List.cons_append,List.nil_append] at HRun ⊢
 go_enter Tryz.func51,Tryz.ntmps51
 go_upto_region 1 with fail
 generalize ((w.alloc (G #[I O r0,I O r1,I O r2,I O r3,I O r4,I O r5,I O r6,I O r7,I Q pc] 111)).alloc (G #[K a c.l.length ca,I Q c.lo,I Q c.un] 25)).alloc (G #[I O 0,I O 0,I O 0,I O 0,I O 0,I O 0,I O 0,I O 0,I Q 0] 111)=x at *
 obtain⟨c0,c1,c2,c3,c4,c5,c6,c7,c8⟩:=q0.cells
 obtain⟨k0,k1,k2⟩:=q1.kY
 have zf:=Bk.free q0
 go_upto_region 2 with fail
 have p0:Cb (x.setCell ⟨w.heap.size,8,Z⟩ (I Q c.lo)) w.heap.size [r0,r1,r2,r3,r4,r5,r6,r7] c.lo:=Bk.put q0 8 (I Q c.lo)
 have p1:=Bk.off q1 (p:=⟨w.heap.size,8,Z⟩) (by show w.heap.size+1≠w.heap.size;omega) (I Q c.lo)
 have p2:Cb (x.setCell ⟨w.heap.size,8,Z⟩ (I Q c.lo)) _ _ _:=Bk.off q2 (p:=⟨w.heap.size,8,Z⟩) (by show w.heap.size+1+1≠w.heap.size;omega) (I Q c.lo)
 have b1:=b0.setCell (p:=⟨w.heap.size,8,Z⟩) (Y _) (I Q c.lo)
 clear q0 q1 q2 b0 c0 c1 c2 c3 c4 c5 c6 c7 c8 k0 k1 k2 zf
 generalize x.setCell ⟨w.heap.size,8,Z⟩ (I Q c.lo)=y at *
 obtain⟨c0,c1,c2,c3,c4,c5,c6,c7,c8⟩:=p0.cells
 obtain⟨k0,k1,k2⟩:=p1.kY
 cases unl
 ·simp only[Bool.false_eq_true,if_false] at HRun
  go_upto_region 4 with fail
  have hPv:Pv y (.agg #[K a c.l.length ca,I Q c.lo,I Q c.un]) c:=⟨a,ca,rfl,hc1,hc2,hcn,ha.below b1⟩
  replace HRun:=F (HRun.out y _ hPv)
  clear hPv
  go_wp2_with fail
  refine HRun.out.mono ?_
  rintro e z ⟨m,rfl,hml,hz⟩
  clear c0 c1 c2 c3 c4 c5 c6 c7 c8 k0 k1 k2 HRun
  have hR:ka w a c.l.length ca c.lo c.un m [r0,r1,r2,r3,r4,r5,r6,r7] c.lo RR.ms z:=⟨b1.trans (hz.mono b1.size),p0.below hz,(hz.block _ p1.lt).trans p1,p2.below hz,hml.1,fun g e=>Nat.le_trans b1.size (hml.2 g e)⟩
  clear p0 p1 p2 b1 hz hml
  obtain⟨s0,s1,s2,s3,s4,s5,s6,s7,hs⟩:=aD HE.out.1
  have HX:=F hs
  rw[hs]
  clear hs
  simp only[List.map_cons,List.map_nil,List.cons_append,List.nil_append]
  obtain⟨n0,n1,n2,n3,n4,n5,n6,n7,n8⟩:=hR.r.cells
  have zf:=Bk.free hR.r
  have hf9:=hR.f
  obtain⟨l9,b9,k9⟩:=hR.ret (r0:=s0) (r1:=s1) (r2:=s2) (r3:=s3) (r4:=s4) (r5:=s5) (r6:=s6) (r7:=s7) (pc':=RR.pc)
  go_wp
  generalize hv9:(((((((((z.setCell ⟨w.heap.size+1+1,0,Z⟩ (I O s0)).setCell ⟨w.heap.size+1+1,1,Z⟩ (I O s1)).setCell ⟨w.heap.size+1+1,2,Z⟩ (I O s2)).setCell ⟨w.heap.size+1+1,3,Z⟩ (I O s3)).setCell ⟨w.heap.size+1+1,4,Z⟩ (I O s4)).setCell ⟨w.heap.size+1+1,5,Z⟩ (I O s5)).setCell ⟨w.heap.size+1+1,6,Z⟩ (I O s6)).setCell ⟨w.heap.size+1+1,7,Z⟩ (I O s7)).setCell ⟨w.heap.size+1+1,8,Z⟩ (I Q RR.pc))=v9
  replace hv9:bm z (w.heap.size+1+1) (I O s0) (I O s1) (I O s2) (I O s3) (I O s4) (I O s5) (I O s6) (I O s7) (I Q RR.pc)=v9:=hv9
  rw[hv9] at l9 b9 k9
  obtain⟨y0,y1,y2,y3,y4,y5,y6,y7,y8⟩:=k9.cells
  exact bodyPost_ret (v:=.tuple #[.agg #[I O s0,I O s1,I O s2,I O s3,I O s4,I O s5,I O s6,I O s7,I Q RR.pc],m,I Q RR.done,I Q RR.e]) (by simp[results,Tryz.results51,go_sem,y0,y1,y2,y3,y4,y5,y6,y7,y8]) rfl ⟨m,by rw[HX.out];rfl,⟨l9,hf9⟩,b9⟩
 ·simp only[if_true] at HRun
  have zf:=Bk.free p0
  go_upto_region 4 with fail
  have o0:Cb (y.setCell ⟨w.heap.size,8,Z⟩ (I Q c.un)) w.heap.size [r0,r1,r2,r3,r4,r5,r6,r7] c.un:=Bk.put p0 8 (I Q c.un)
  have o1:=Bk.off p1 (p:=⟨w.heap.size,8,Z⟩) (by show w.heap.size+1≠w.heap.size;omega) (I Q c.un)
  have o2:Cb (y.setCell ⟨w.heap.size,8,Z⟩ (I Q c.un)) _ _ _:=Bk.off p2 (p:=⟨w.heap.size,8,Z⟩) (by show w.heap.size+1+1≠w.heap.size;omega) (I Q c.un)
  have o3:=b1.setCell (p:=⟨w.heap.size,8,Z⟩) (Y _) (I Q c.un)
  clear p0 p1 p2 b1 c0 c1 c2 c3 c4 c5 c6 c7 c8 k0 k1 k2 zf
  have p0:=o0
  have p1:=o1
  have p2:=o2
  have b1:=o3
  clear o0 o1 o2 o3
  generalize y.setCell ⟨w.heap.size,8,Z⟩ (I Q c.un)=y at *
  obtain⟨c0,c1,c2,c3,c4,c5,c6,c7,c8⟩:=p0.cells
  obtain⟨k0,k1,k2⟩:=p1.kY
  have hPv:Pv y (.agg #[K a c.l.length ca,I Q c.lo,I Q c.un]) c:=⟨a,ca,rfl,hc1,hc2,hcn,ha.below b1⟩
  replace HRun:=F (HRun.out y _ hPv)
  clear hPv
  go_wp2_with fail
  refine HRun.out.mono ?_
  rintro e z ⟨m,rfl,hml,hz⟩
  clear c0 c1 c2 c3 c4 c5 c6 c7 c8 k0 k1 k2 HRun
  have hR:ka w a c.l.length ca c.lo c.un m [r0,r1,r2,r3,r4,r5,r6,r7] c.un RR.ms z:=⟨b1.trans (hz.mono b1.size),p0.below hz,(hz.block _ p1.lt).trans p1,p2.below hz,hml.1,fun g e=>Nat.le_trans b1.size (hml.2 g e)⟩
  clear p0 p1 p2 b1 hz hml
  obtain⟨s0,s1,s2,s3,s4,s5,s6,s7,hs⟩:=aD HE.out.1
  have HX:=F hs
  rw[hs]
  clear hs
  simp only[List.map_cons,List.map_nil,List.cons_append,List.nil_append]
  obtain⟨n0,n1,n2,n3,n4,n5,n6,n7,n8⟩:=hR.r.cells
  have zf:=Bk.free hR.r
  have hf9:=hR.f
  obtain⟨l9,b9,k9⟩:=hR.ret (r0:=s0) (r1:=s1) (r2:=s2) (r3:=s3) (r4:=s4) (r5:=s5) (r6:=s6) (r7:=s7) (pc':=RR.pc)
  go_wp
  generalize hv9:(((((((((z.setCell ⟨w.heap.size+1+1,0,Z⟩ (I O s0)).setCell ⟨w.heap.size+1+1,1,Z⟩ (I O s1)).setCell ⟨w.heap.size+1+1,2,Z⟩ (I O s2)).setCell ⟨w.heap.size+1+1,3,Z⟩ (I O s3)).setCell ⟨w.heap.size+1+1,4,Z⟩ (I O s4)).setCell ⟨w.heap.size+1+1,5,Z⟩ (I O s5)).setCell ⟨w.heap.size+1+1,6,Z⟩ (I O s6)).setCell ⟨w.heap.size+1+1,7,Z⟩ (I O s7)).setCell ⟨w.heap.size+1+1,8,Z⟩ (I Q RR.pc))=v9
  replace hv9:bm z (w.heap.size+1+1) (I O s0) (I O s1) (I O s2) (I O s3) (I O s4) (I O s5) (I O s6) (I O s7) (I Q RR.pc)=v9:=hv9
  rw[hv9] at l9 b9 k9
  obtain⟨y0,y1,y2,y3,y4,y5,y6,y7,y8⟩:=k9.cells
  exact bodyPost_ret (v:=.tuple #[.agg #[I O s0,I O s1,I O s2,I O s3,I O s4,I O s5,I O s6,I O s7,I Q RR.pc],m,I Q RR.done,I Q RR.e]) (by simp[results,Tryz.results51,go_sem,y0,y1,y2,y3,y4,y5,y6,y7,y8]) rfl ⟨m,by rw[HX.out];rfl,⟨l9,hf9⟩,b9⟩
theorem iG {W:World}{m:Value}{ms:List Int}{g:Nat}{ty:TypeId}{cs:Array Value}(hl:eG .i64 3 W m ms)(hk:Bk W g ty cs)(ht:ty≠3)(a b c d e f h i j:Value):eG .i64 3 (bm W g a b c d e f h i j) m ms:=by
 have hW:ab W (bm W g a b c d e f h i j) (fun x=>x=g):=by
  unfold bm
  exact(((((((((ab.refl W (fun b=>b=g)).put _ 0 _ (.inl rfl)).put _ 1 _ (.inl rfl)).put _ 2 _ (.inl rfl)).put _ 3 _ (.inl rfl)).put _ 4 _ (.inl rfl)).put _ 5 _ (.inl rfl)).put _ 6 _ (.inl rfl)).put _ 7 _ (.inl rfl)).put _ 8 _ (.inl rfl)
 refine hl.within hW fun x ex e2=>?_
 obtain⟨FN,hcs⟩:=hl.bk ex
 exact Bk.aj hcs hk (fun e=>ht e.symm) e2
def lr (v0:Value)(ms:List Int)(D E:Int)(v:Value)(W:World):Prop:=∃ m,v=.tuple #[v0,m,I Q D,I Q E]/\eG .i64 3 W m ms
theorem lr.below {v0:Value}{ms:List Int}{D E:Int}{v:Value}{W W':World}(h:lr v0 ms D E v W)(hb:Below W.heap.size W W'):lr v0 ms D E v W':=by
 obtain⟨m,e,h⟩:=h
 exact⟨m,e,fN h hb⟩
theorem ez {B:Nat}{W W':World}{m:Value}{ms:List Int}(h:dD B W m ms)(hb:Below W.heap.size W W'):dD B W' m ms:=⟨fN h.1 hb,h.2⟩
theorem iL {B:Nat}{W:World}{m:Value}{ms:List Int}{g:Nat}{ty:TypeId}{cs:Array Value}(hl:dD B W m ms)(hk:Bk W g ty cs)(ht:ty≠3)(a b c d e f h i j:Value):dD B (bm W g a b c d e f h i j) m ms:=⟨iG hl.1 hk ht a b c d e f h i j,hl.2⟩
def gu (B:Nat)(v0:Value)(ms:List Int)(D E:Int)(v:Value)(W:World):Prop:=∃ m,v=.tuple #[v0,m,I Q D,I Q E]/\dD B W m ms
theorem gu.below {B:Nat}{v0:Value}{ms:List Int}{D E:Int}{v:Value}{W W':World}(h:gu B v0 ms D E v W)(hb:Below W.heap.size W W'):gu B v0 ms D E v W':=by
 obtain⟨m,e,h⟩:=h
 exact⟨m,e,ez h hb⟩
end
section
open Go.ChangeShapes Go.WideShapes Go.ChangeAt Go.RowKit
structure RM where
 fv:Value
 gv:Value
 ov:Value
 vs:Nat->Value
def RM.Has (R:RM)(n i:Nat):Prop:=R.fv.ownBlock=P i\/R.gv.ownBlock=P i\/R.ov.ownBlock=P i\/∃ t,t<n/\(R.vs t).ownBlock=P i
def mq (l:List Nat):List Int:=l.map fun(q:Nat)=>((q:Nat):Int)+1
structure Rf (w:World)(x n each:Nat)(R:RM)(free:Nat->List Nat)(gen out:List Int):Prop where
 ptr:Bk w x 164 #[I Q each,R.fv,R.gv,R.ov]
 row:pD 26 w R.fv ((List.range n).map R.vs)
 gens:eG .i64 3 w R.gv gen
 outs:eG .i64 3 w R.ov out
 frees:∀ t,t<n->Fs w (R.vs t) (mq (free t))
 go:∀ g,R.gv.ownBlock=P g->R.ov.ownBlock≠P g
 vg:∀ t g,t<n->(R.vs t).ownBlock=P g->R.gv.ownBlock≠P g
 vo:∀ t g,t<n->(R.vs t).ownBlock=P g->R.ov.ownBlock≠P g
 vv:∀ s t g,s<n->t<n->s≠t->(R.vs s).ownBlock=P g->(R.vs t).ownBlock≠P g
section
variable {w w':World}{x n each:Nat}{R:RM}{free:Nat->List Nat}{gen out:List Int}
theorem Rf.lt (h:Rf w x n each R free gen out){i:Nat}(k:R.Has n i):i<w.heap.size:=by
 rcases k with e | e | e | ⟨t,ht,e⟩
 ·exact h.row.lt e
 ·exact h.gens.lt e
 ·exact h.outs.lt e
 ·exact(h.frees t ht).lt e
theorem Rf.kept {S:Nat->Prop}(h:Rf w x n each R free gen out)(k:ab w w' S)(h1:¬ S x)(h2:∀ i,R.Has n i->¬ S i):Rf w' x n each R free gen out:=
 ⟨h.ptr.within k h1,h.row.within k (fun g e=>h2 g (.inl e)),h.gens.within k (fun g e=>h2 g (.inr (.inl e))),h.outs.within k (fun g e=>h2 g (.inr (.inr (.inl e)))),
  fun t ht=>(h.frees t ht).within k (fun g e=>h2 g (.inr (.inr (.inr ⟨t,ht,e⟩)))),h.go,h.vg,h.vo,h.vv⟩
theorem Rf.grown (h:Rf w x n each R free gen out)(k:w.grownBy w' Z):Rf w' x n each R free gen out:=h.kept (S:=fun _=>False) (.ay k (by simp)) (by simp) (by simp)
theorem Rf.drewN (h:Rf w x n each R free gen out)(m:Nat):Rf (w.drewN m) x n each R free gen out:=h.kept (S:=fun _=>False) ((ab.refl _ _).ed m) (by simp) (by simp)
theorem Rf.c0 (h:Rf w x n each R free gen out):w.cell? ⟨x,0,Z⟩=P (I Q each):=by rw[h.ptr.cell];rfl
theorem Rf.c1 (h:Rf w x n each R free gen out):w.cell? ⟨x,1,Z⟩=P R.fv:=by rw[h.ptr.cell];rfl
theorem Rf.c2 (h:Rf w x n each R free gen out):w.cell? ⟨x,2,Z⟩=P R.gv:=by rw[h.ptr.cell];rfl
theorem Rf.c3 (h:Rf w x n each R free gen out):w.cell? ⟨x,3,Z⟩=P R.ov:=by rw[h.ptr.cell];rfl
theorem Rf.Fu (h:Rf w x n each R free gen out)(hn:1<=n):∃ g cap,R.fv=K (P ⟨g,0,Z⟩) n cap/\n<=cap/\cap<=maxLen/\(∀ i,w.frozen? ⟨g,i,Z⟩=T)/\∀ t,t<n->w.cell? ⟨g,t,Z⟩=P (R.vs t):=by
 obtain⟨a,cap,e,h1,h2,h3⟩:=h.row.is
 simp only[List.length_map,List.length_range] at e h1 h3
 obtain⟨g,rfl,_,hf,hc⟩:=h3 hn
 refine⟨g,cap,e,h1,h2,hf,fun t ht=>?_⟩
 rcases hc t with hc | hc
 ·rw[hc];simp[ht]
 ·omega
end
def s8:List Value->Nat->List Value->List Value
 | xs,_,[]=>xs
 | xs,o,v :: vs=>s8 (xs.set o v) (o+1) vs
def gV (y:World)(g:Nat):Nat->List Value->World
 | _,[]=>y
 | o,v :: vs=>gV (y.setCell ⟨g,o,Z⟩ v) g (o+1) vs
theorem pg:∀ (vs xs:List Value) (o i:Nat),o+vs.length<=xs.length->(s8 xs o vs)[i]?=if o<=i/\i<o+vs.length then vs[i-o]? else xs[i]?
 | [],xs,o,i,_=>by rw[s8,if_neg (by simp)]
 | v :: vs,xs,o,i,h=>by
  simp only[List.length_cons] at h
  rw[s8,pg vs _ _ _ (by rw[List.length_set];omega),List.length_cons]
  by_cases e:i=o
  ·subst e
   rw[if_neg (by omega),if_pos (by omega),List.getElem?_set_self (by omega),Nat.sub_self]
   rfl
  ·rw[List.getElem?_set_ne (fun e'=>e e'.symm)]
   by_cases hi:o<=i/\i<o+(vs.length+1)
   ·rw[if_pos (by omega),if_pos hi,show i-o=(i-(o+1))+1 by omega]
    rfl
   ·rw[if_neg (by omega),if_neg hi]
theorem tK {g:Nat}{t:TypeId}:∀ (vs cs:List Value) (o:Nat) (y:World),Bk y g t cs.toArray->Bk (gV y g o vs) g t (s8 cs o vs).toArray
 | [],cs,o,y,h=>h
 | v :: vs,cs,o,y,h=>by
  have h2:=h.put o v
  rw[List.setIfInBounds_toArray] at h2
  exact tK vs _ (o+1) _ h2
theorem eE {g:Nat}:∀ (vs:List Value) (o:Nat) (y:World),fD y (gV y g o vs) g
 | [],o,y=>db y _
 | v :: vs,o,y=>aQ (dq y g o v) (eE vs (o+1) _) (.inl rfl)
theorem nd {xs:List Int}{pc:Int}(h:xs.length=8):(bO xs pc).length=9:=by simp[bO,h]
def eQ (cs:Nat->kg)(n:Nat):List Value:=(List.range n).flatMap fun t=>bO (cs t).xs (cs t).pc
theorem m6 {α:Type}(f:α->List Value)(n:Nat):∀ (l:List α),(∀ x∈l,(f x).length=n)->(l.flatMap f).length=l.length*n
 | [],_=>by simp
 | x :: l,h=>by
  rw[List.flatMap_cons,List.length_append,h x (by simp),m6 f n l (fun y hy=>h y (by simp[hy])),List.length_cons,Nat.add_mul]
  omega
theorem m7 {α:Type}(f:α->List Value)(n:Nat):∀ (l:List α),(∀ x∈l,(f x).length=n)->∀ (k j:Nat) (x:α),l[k]?=P x->j<n->(l.flatMap f)[k*n+j]?=(f x)[j]?
 | [],_,k,j,x,h,_=>by simp at h
 | y :: l,hf,0,j,x,h,hj=>by
  simp at h
  subst h
  simp[List.getElem?_append,hf,hj]
 | y :: l,hf,k+1,j,x,h,hj=>by
  have ih:=m7 f n l (fun z hz=>hf z (by simp[hz])) k j x (by simpa using h) hj
  rw[<-ih,List.flatMap_cons,show (k+1)*n+j=n+(k*n+j) by rw[Nat.add_mul];omega,List.getElem?_append_right (by rw[hf y (by simp)];omega),hf y (by simp)]
  congr 1
  omega
section
variable {cs:Nat->kg}{n:Nat}
theorem fU (h:∀ t,t<n->bg (cs t).xs):(eQ cs n).length=n*9:=by
 unfold eQ
 rw[m6 _ 9 _ (fun t ht=>nd (h t (List.mem_range.1 ht)).1),List.length_range]
theorem fO (h:∀ t,t<n->bg (cs t).xs){t j:Nat}(ht:t<n)(hj:j<9):(eQ cs n)[t*9+j]?=(bO (cs t).xs (cs t).pc)[j]?:=
 m7 _ 9 _ (fun t ht=>nd (h t (List.mem_range.1 ht)).1) t j t (by simp[ht]) hj
theorem sL (h:∀ t,t<n->bg (cs t).xs){t:Nat}(ht:t<n){c:kg}(hc:bg c.xs):s8 (eQ cs n) (t*9) (bO c.xs c.pc)=eQ (eL cs t c) n:=by
 have h2:=eR (n:=n) h hc t
 apply List.ext_getElem?
 intro i
 have hl:=fU h
 have hl2:=fU h2
 have hcl:=nd (pc:=c.pc) hc.1
 have hle:t*9+9<=n*9:=by omega
 rw[pg _ _ _ _ (by rw[hcl,hl];exact hle),hcl]
 by_cases hi:i<n*9
 ·obtain⟨s,j,hs,hj,rfl⟩:∃ s j,s<n/\j<9/\i=s*9+j:=⟨i / 9,i % 9,by omega,by omega,by omega⟩
  rw[fO h2 hs hj,fO h hs hj]
  by_cases e:s=t
  ·subst e
   rw[if_pos (by omega),kj,show s*9+j-s*9=j by omega]
  ·rw[if_neg (by omega),i5 e]
 ·rw[if_neg (by omega),List.getElem?_eq_none (by omega),List.getElem?_eq_none (by omega)]
end
theorem Mm.within {w w':World}{p q g s:Nat}{zs xs:List Int}{S:Nat->Prop}(h:Mm w p q g s zs xs)(k:ab w w' S)(h1:¬ S p)(h2:¬ S q)(h3:¬ S g)(h4:¬ S s):Mm w' p q g s zs xs:=
 ⟨h.ptr.within k h1,⟨h.cel.ptr.within k h2,h.cel.row.within k h3,h.cel.rng,h.cel.few⟩,h.row.within k h4,h.right,h.len⟩
def zl (w:World)(p n each:Nat)(M:PM)(pn:Pn):Prop:=∃ fr os c,Pl w p n each M fr os c/\mt n each pn.free pn.gen pn.out fr os c
structure XP where
 x:Nat
 cv:Value
 kb:Nat
 p:Nat
 q:Nat
 g:Nat
 s:Nat
 pp:Nat
 M:PM
def XP.Own (X:XP)(n i:Nat):Prop:=i=X.x\/X.cv.ownBlock=P i\/i=X.kb\/i=X.p\/i=X.q\/i=X.g\/i=X.s\/i=X.pp\/i=X.M.g\/X.M.Has n i
def XP.Has (X:XP)(n i:Nat):Prop:=i=X.kb\/i=X.g\/X.M.Has n i
theorem XP.iU {X:XP}{n i:Nat}(h:X.Has n i):X.Own n i:=by
 rcases h with h | h | h
 ·exact .inr (.inr (.inl h))
 ·exact .inr (.inr (.inr (.inr (.inr (.inl h)))))
 ·exact .inr (.inr (.inr (.inr (.inr (.inr (.inr (.inr (.inr h))))))))
structure Ex (w:World)(X:XP)(k:Lk)(m:Mc):Prop where
 ptr:Bk w X.x 108 #[X.cv,I Q k.lo,I Q k.un,J (P ⟨X.p,0,Z⟩),J (P ⟨X.pp,0,Z⟩),K (P ⟨X.kb,0,Z⟩) k.n k.n]
 code:w.ownsRow 0 121 8 X.cv k.l.length (bD k.l)
 cores:Bk w X.kb 111 (eQ m.cs k.n).toArray
 mem:Mm w X.p X.q X.g X.s k.zs m.ws
 dZ:zl w X.pp k.n k.each X.M m.pn
 lk:lu k
 mc:E7 k m
section
variable {w w':World}{X:XP}{k:Lk}{m:Mc}
theorem Ex.kept {S:Nat->Prop}(h:Ex w X k m)(hw:ab w w' S)(hn:∀ i,X.Own k.n i->¬ S i):Ex w' X k m:=by
 obtain⟨fr,os,c,hp,hs⟩:=h.dZ
 unfold XP.Own at hn
 exact⟨h.ptr.within hw (hn _ (.inl rfl)),aq h.code hw (fun g e=>hn g (.inr (.inl e))),h.cores.within hw (hn _ (.inr (.inr (.inl rfl)))),
  h.mem.within hw (hn _ (.inr (.inr (.inr (.inl rfl))))) (hn _ (.inr (.inr (.inr (.inr (.inl rfl)))))) (hn _ (.inr (.inr (.inr (.inr (.inr (.inl rfl))))))) (hn _ (.inr (.inr (.inr (.inr (.inr (.inr (.inl rfl)))))))),
  ⟨fr,os,c,hp.kept hw (hn _ (.inr (.inr (.inr (.inr (.inr (.inr (.inr (.inl rfl))))))))) (hn _ (.inr (.inr (.inr (.inr (.inr (.inr (.inr (.inr (.inl rfl)))))))))) (fun i hi=>hn i (.inr (.inr (.inr (.inr (.inr (.inr (.inr (.inr (.inr hi)))))))))),hs⟩,h.lk,h.mc⟩
theorem Ex.below (h:Ex w X k m)(hb:Below w.heap.size w w'):Ex w' X k m:=h.kept (av hb) (by simp)
theorem Ex.lt (h:Ex w X k m){i:Nat}(hi:X.Own k.n i):i<w.heap.size:=by
 obtain⟨fr,os,c,hp,hs⟩:=h.dZ
 rcases hi with rfl | e | rfl|rfl|rfl|rfl|rfl|rfl|rfl | e
 ·exact h.ptr.lt
 ·exact(World.ownsRow.lt h.code i e).2
 ·exact h.cores.lt
 ·exact h.mem.ptr.lt
 ·exact h.mem.cel.ptr.lt
 ·exact h.mem.cel.row.lt
 ·exact h.mem.row.lt
 ·exact hp.By
 ·exact hp.BA
 ·exact hp.lt e
theorem Ex.c0 (h:Ex w X k m):w.cell? ⟨X.x,0,Z⟩=P X.cv:=by rw[h.ptr.cell];rfl
theorem Ex.c1 (h:Ex w X k m):w.cell? ⟨X.x,1,Z⟩=P (I Q k.lo):=by rw[h.ptr.cell];rfl
theorem Ex.c2 (h:Ex w X k m):w.cell? ⟨X.x,2,Z⟩=P (I Q k.un):=by rw[h.ptr.cell];rfl
theorem Ex.c3 (h:Ex w X k m):w.cell? ⟨X.x,3,Z⟩=P (J (P ⟨X.p,0,Z⟩)):=by rw[h.ptr.cell];rfl
theorem Ex.c4 (h:Ex w X k m):w.cell? ⟨X.x,4,Z⟩=P (J (P ⟨X.pp,0,Z⟩)):=by rw[h.ptr.cell];rfl
theorem Ex.c5 (h:Ex w X k m):w.cell? ⟨X.x,5,Z⟩=P (K (P ⟨X.kb,0,Z⟩) k.n k.n):=by rw[h.ptr.cell];rfl
theorem Ex.pv (h:Ex w X k m):Pv w (.agg #[X.cv,I Q k.lo,I Q k.un]) ⟨k.l,k.lo,k.un⟩/\∃ a cap,X.cv=K a k.l.length cap:=by
 obtain⟨a,cap,e,h1,h2,_⟩:=bp h.code
 have ho:=h.code
 rw[e] at ho ⊢
 exact⟨⟨a,cap,rfl,h1,h2,pj ho,pd ho⟩,a,cap,rfl⟩
theorem Ex.ub (h:Ex w X k m){t:Nat}(ht:t<k.n){j:Nat}(hj:j<9):w.cell? ⟨X.kb,t*9+j,Z⟩=(bO (m.cs t).xs (m.cs t).pc)[j]?:=by
 rw[h.cores.cell,List.getElem?_toArray,fO h.mc.cs ht hj]
theorem Ex.core (h:Ex w X k m){t:Nat}(ht:t<k.n){r0 r1 r2 r3 r4 r5 r6 r7 pc:Int}(e:m.cs t=⟨[r0,r1,r2,r3,r4,r5,r6,r7],pc⟩):
 w.cell? ⟨X.kb,t*9,Z⟩=P (I O r0)/\w.cell? ⟨X.kb,t*9+1,Z⟩=P (I O r1)/\w.cell? ⟨X.kb,t*9+2,Z⟩=P (I O r2)/\w.cell? ⟨X.kb,t*9+3,Z⟩=P (I O r3)/\
 w.cell? ⟨X.kb,t*9+4,Z⟩=P (I O r4)/\w.cell? ⟨X.kb,t*9+5,Z⟩=P (I O r5)/\w.cell? ⟨X.kb,t*9+6,Z⟩=P (I O r6)/\w.cell? ⟨X.kb,t*9+7,Z⟩=P (I O r7)/\w.cell? ⟨X.kb,t*9+8,Z⟩=P (I Q pc):=by
 have H:=fun j (hj:j<9)=>h.ub ht hj
 rw[e] at H
 exact⟨H 0 (by omega),H 1 (by omega),H 2 (by omega),H 3 (by omega),H 4 (by omega),H 5 (by omega),H 6 (by omega),H 7 (by omega),H 8 (by omega)⟩
theorem Ex.bC (h:Ex w X k m){t:Nat}(ht:t<k.n):∃ r0 r1 r2 r3 r4 r5 r6 r7 pc,m.cs t=⟨[r0,r1,r2,r3,r4,r5,r6,r7],pc⟩:=by
 obtain⟨r0,r1,r2,r3,r4,r5,r6,r7,e⟩:=aD (h.mc.cs t ht).1
 exact⟨r0,r1,r2,r3,r4,r5,r6,r7,(m.cs t).pc,by rw[<-e]⟩
theorem Ex.free (h:Ex w X k m)(i:Nat):w.frozen? ⟨X.kb,i,Z⟩=T:=h.cores.free i
theorem Ex.put (h:Ex w X k m){t:Nat}(ht:t<k.n){c:kg}(hc:bg c.xs):Ex (gV w X.kb (t*9) (bO c.xs c.pc)) X k { m with cs:=eL m.cs t c }:=by
 have hW:ab w (gV w X.kb (t*9) (bO c.xs c.pc)) (fun i=>i=X.kb):=.ay (eE _ _ _) (by rintro i e;injection e with e;exact .inl e.symm)
 obtain⟨fr,os,cn,hp,hs⟩:=h.dZ
 have hb:=tK (bO c.xs c.pc) _ (t*9) _ h.cores
 rw[sL h.mc.cs ht hc] at hb
 refine⟨h.ptr.within hW (Bk.aj h.ptr h.cores (by decide)),aq h.code hW (fun g e e2=>?_),hb,h.mem.within hW (Bk.aj h.mem.ptr h.cores (by decide)) (Bk.aj h.mem.cel.ptr h.cores (by decide)) (Bk.aj h.mem.cel.row h.cores (by decide)) (Bk.aj h.mem.row h.cores (by decide)),
  ⟨fr,os,cn,hp.kept hW (Bk.aj hp.ptr h.cores (by decide)) (Bk.aj hp.row h.cores (by decide)) (fun i hi e=>hp.dF h.cores (by decide) (by decide) (e ▸ hi)),hs⟩,h.lk,⟨h.mc.ws,h.mc.len,eR h.mc.cs hc t⟩⟩
 obtain⟨cs',hcs⟩:=aZ h.code e
 exact Bk.aj hcs h.cores (by decide) e2
theorem Ex.words (h:Ex w X k m){ys:List Int}(hm:Mm w' X.p X.q X.g X.s k.zs ys)(ho:fD w w' X.g)(hu:fz ys)(hl:ys.length=m.ws.length):Ex w' X k { m with ws:=ys }:=by
 have hW:ab w w' (fun i=>i=X.g):=.ay ho (by rintro i e;injection e with e;exact .inl e.symm)
 obtain⟨fr,os,cn,hp,hs⟩:=h.dZ
 have hr:=h.mem.cel.row
 refine⟨h.ptr.within hW (Bk.aj h.ptr hr (by decide)),aq h.code hW (fun g e e2=>?_),h.cores.within hW (Bk.aj h.cores hr (by decide)),hm,
  ⟨fr,os,cn,hp.kept hW (Bk.aj hp.ptr hr (by decide)) (Bk.aj hp.row hr (by decide)) (fun i hi e=>hp.dF hr (by decide) (by decide) (e ▸ hi)),hs⟩,h.lk,⟨hu,hl.trans h.mc.len,h.mc.cs⟩⟩
 obtain⟨cs',hcs⟩:=aZ h.code e
 exact Bk.aj hcs hr (by decide) e2
theorem Ex.nodes (h:Ex w X k m){fr fr':Nat->List Int}{os os':Int->Bool}{c c':Nat}{M':PM}{pn':Pn}(hp:Pl w X.pp k.n k.each X.M fr os c)(hp':Pl w' X.pp k.n k.each M' fr' os' c')(hs:mt k.n k.each pn'.free pn'.gen pn'.out fr' os' c')(hst:gO w k.n X.M w' M'):Ex w' { X with M:=M' } k { m with pn:=pn' }:=by
 have hW:=hst.2.1
 have nh:∀ {q:Nat} {t:TypeId} {cs:Array Value},Bk w q t cs->t≠278->t≠22->¬ X.M.Has k.n q:=fun hb h1 h2=>hp.dF hb h1 h2
 refine⟨h.ptr.within hW (nh h.ptr (by decide) (by decide)),aq h.code hW (fun g e e2=>?_),h.cores.within hW (nh h.cores (by decide) (by decide)),h.mem.within hW (nh h.mem.ptr (by decide) (by decide)) (nh h.mem.cel.ptr (by decide) (by decide)) (nh h.mem.cel.row (by decide) (by decide)) (nh h.mem.row (by decide) (by decide)),
  ⟨fr',os',c',hp',hs⟩,h.lk,⟨h.mc.ws,h.mc.len,h.mc.cs⟩⟩
 obtain⟨cs',hcs⟩:=aZ h.code e
 exact nh hcs (by decide) (by decide) e2
def bh (w:World)(n:Nat)(X:XP)(w':World)(X':XP):Prop:=ab w w' (X.Has n)/\(∀ i,X'.Own n i->X.Own n i\/w.heap.size<=i)/\(∀ i,X'.Has n i->X.Has n i\/w.heap.size<=i)
theorem bh.refl (w:World)(n:Nat)(X:XP):bh w n X w X:=⟨ab.refl _ _,fun _ h=>.inl h,fun _ h=>.inl h⟩
theorem bh.bx {n:Nat}{w'':World}{X' X'':XP}(h:bh w n X w' X')(k:bh w' n X' w'' X''):bh w n X w'' X'':=
 ⟨h.1.bx k.1 h.2.2,fun i hi=>by
  rcases k.2.1 i hi with e | e
  ·exact h.2.1 i e
  ·exact .inr (Nat.le_trans h.1.size e),fun i hi=>by
  rcases k.2.2 i hi with e | e
  ·exact h.2.2 i e
  ·exact .inr (Nat.le_trans h.1.size e)⟩
theorem bh.grown {n:Nat}{X':XP}{w'':World}(h:bh w n X w' X')(k:Below w'.heap.size w' w''):bh w n X w'' X':=
 h.bx ⟨(av k).wide (by simp),fun _ h=>.inl h,fun _ h=>.inl h⟩
theorem bh.ay {n:Nat}(k:Below w.heap.size w w'):bh w n X w' X:=(bh.refl w n X).grown k
theorem bh.put {n t:Nat}{vs:List Value}:bh w n X (gV w X.kb t vs) X:=⟨.ay (eE _ _ _) (by rintro i e;injection e with e;exact .inl (.inl e.symm)),fun _ h=>.inl h,fun _ h=>.inl h⟩
theorem bh.words {n:Nat}(ho:fD w w' X.g):bh w n X w' X:=⟨.ay ho (by rintro i e;injection e with e;exact .inl (.inr (.inl e.symm))),fun _ h=>.inl h,fun _ h=>.inl h⟩
theorem bh.nodes {n:Nat}{M':PM}(hs:gO w n X.M w' M'):bh w n X w' { X with M:=M' }:=by
 refine⟨hs.2.1.wide (fun i e _=>.inr (.inr e)),fun i hi=>?_,fun i hi=>?_⟩
 ·rcases hi with e | e | e | e | e | e | e | e | e | e
  ·exact .inl (.inl e)
  ·exact .inl (.inr (.inl e))
  ·exact .inl (.inr (.inr (.inl e)))
  ·exact .inl (.inr (.inr (.inr (.inl e))))
  ·exact .inl (.inr (.inr (.inr (.inr (.inl e)))))
  ·exact .inl (.inr (.inr (.inr (.inr (.inr (.inl e))))))
  ·exact .inl (.inr (.inr (.inr (.inr (.inr (.inr (.inl e)))))))
  ·exact .inl (.inr (.inr (.inr (.inr (.inr (.inr (.inr (.inl e))))))))
  ·exact .inl (.inr (.inr (.inr (.inr (.inr (.inr (.inr (.inr (.inl (e.trans hs.1))))))))))
  ·rcases hs.2.2 i e with e | e
   ·exact .inl (.inr (.inr (.inr (.inr (.inr (.inr (.inr (.inr (.inr e)))))))))
   ·exact .inr e
 ·rcases hi with e | e | e
  ·exact .inl (.inl e)
  ·exact .inl (.inr (.inl e))
  ·rcases hs.2.2 i e with e | e
   ·exact .inl (.inr (.inr e))
   ·exact .inr e
def zE (v:Value)(o:Ot):Value:=.agg #[v,I Q o.done,I Q o.addr,.bool o.wrote,.bool o.stay,I Q o.e]
theorem lI (h:Ex w X k m)(t:Nat)(ht:t<k.n):
 Calls Tryz.prog 49 #[J (P ⟨X.x,0,Z⟩),I Q t] w fun e w'=>e=.returned (.bool U)/\w=w':=by
 have c5:=h.c5
 have hf:=h.lk.n64
 go_enter Tryz.func49,Tryz.ntmps49
 go_wp2
 go_ret
 exact⟨rfl,rfl⟩
theorem BF (w:World):
 Calls Tryz.prog 50 #[] w fun e w'=>e=.returned (zE (K Z 0 0) eX)/\Below w.heap.size w w':=by
 unfold zE eX
 go_enter Tryz.func50,Tryz.ntmps50
 go_wp2
 refine bodyPost_ret (v:=.agg #[K Z 0 0,I Q (-1),I Q (-1),.bool T,.bool T,I Q 11]) (by simp[results,Tryz.results50,go_sem]) rfl ⟨rfl,(C _ _).alloc (Y _) _⟩
theorem wQ (h:Ex w X k m):
 Calls Tryz.prog 60 #[J (P ⟨X.x,0,Z⟩)] w fun e w'=>e=.returned (I Q k.n)/\w=w':=by
 have c5:=h.c5
 have hf:=h.lk.n64
 go_enter Tryz.func60,Tryz.ntmps60
 go_wp2
 go_ret
 exact⟨rfl,rfl⟩
theorem Fj (h:Ex w X k m)(t:Nat)(ht:t<k.n):
 Calls Tryz.prog 63 #[J (P ⟨X.x,0,Z⟩),I Q t] w fun e w'=>e=.returned (I Q (ny k.each m.pn t))/\∃ j,w'=w.drewN j:=by
 obtain⟨fr,os,c,hp,hs⟩:=h.dZ
 have c4:=h.c4
 have hfr:=hs.frs t ht
 have hle:(m.pn.free t).length<=k.each:=by
  have h1:=hs.own t ht
  exact ky k.each (t*k.each) _ (hs.dup t ht) (fun q hq=>⟨(h1 q hq).1,(h1 q hq).2.1⟩)
 have E:Hid (((k.each-(fr t).length:Nat):Int)=ny k.each m.pn t):=F (by rw[hfr,List.length_map];unfold ny;omega)
 clear hfr hle hs
 go_enter Tryz.func63,Tryz.ntmps63
 go_wp2_with fail
 refine(Eb hp t ht).mono ?_
 rintro e w' ⟨rfl,j,rfl⟩
 rw[E.out]
 go_wp2
 go_ret
 exact⟨rfl,_,rfl⟩
theorem B1 (h:Ex w X k m):
 Calls Tryz.prog 59 #[J (P ⟨X.x,0,Z⟩)] w (EZ w X.q X.g m.ws):=by
 have c3:=h.c3
 have d0:=h.mem.c0
 have hc:=h.mem.cel
 go_enter Tryz.func59,Tryz.ntmps59
 go_wp2_with fail
 refine(C4 hc).mono ?_
 rintro e w' ⟨q,rfl,h1,h2,h3,h4⟩
 go_wp2
 go_ret
 exact⟨q,rfl,h1,h2,h3,h4⟩
end
section
variable {w w':World}{x n each N:Nat}{R:RM}{free:Nat->List Nat}{gen out:List Int}
theorem Cq (h:Rf w x n each R free gen out)(h64:n<=64)(h8:each<=8)(t:Nat)(ht:t<n)(hl:(free t).length<=each):
 Calls Tryz.prog 43 #[J (P ⟨x,0,Z⟩),I Q t] w fun e w'=>e=.returned (I Q ((each-(free t).length:Nat):Int))/\∃ m,w'=w.drewN m:=by
 have c0:=h.c0
 have c1:=h.c1
 obtain⟨g,cap,e,h1,h2,hf,hc⟩:=h.Fu (by omega)
 rw[e] at c1
 have hct:=hc t ht
 clear hc e
 have hlen:(mq (free t)).length=(free t).length:=by simp[mq]
 obtain⟨A,B,hv⟩:∃ A B,R.vs t=.slice A (free t).length B:=by
  rcases h.frees t ht with ⟨e1,e2⟩ | ⟨g',off,cap',cs,e1,_⟩
  ·have:(free t).length=0:=by rw[<-hlen,e2];rfl
   rw[this];exact⟨_,_,e1⟩
  ·rw[hlen] at e1;exact⟨_,_,e1⟩
 rw[hv] at hct
 clear hlen hv
 go_enter Tryz.func43,Tryz.ntmps43
 go_wp2
 go_quiet (fail)
 go_wp2
 go_ret
 exact⟨br (by omega),_,rfl⟩
end
section
variable {w w':World}{x n each N:Nat}{R:RM}{free:Nat->List Nat}{gen out:List Int}
def fI (w:World)(n:Nat)(R:RM)(w':World)(R':RM):Prop:=ab w w' (R.Has n)/\∀ i,R'.Has n i->R.Has n i\/w.heap.size<=i
theorem fI.refl (w:World)(n:Nat)(R:RM):fI w n R w R:=⟨ab.refl _ _,fun _ h=>.inl h⟩
theorem fI.ed {R':RM}(h:fI w n R w' R')(m:Nat):fI w n R (w'.drewN m) R':=⟨h.1.ed m,h.2⟩
theorem fI.bx {w'':World}{R' R'':RM}(h:fI w n R w' R')(k:fI w' n R' w'' R''):fI w n R w'' R'':=
 ⟨h.1.bx k.1 h.2,fun i hi=>by
  rcases k.2 i hi with e | e
  ·exact h.2 i e
  ·exact .inr (Nat.le_trans h.1.size e)⟩
theorem fI.put {g i:Nat}{u:Value}(h:R.Has n g):fI w n R (w.setCell ⟨g,i,Z⟩ u) R:=⟨(ab.refl w _).put g _ _ (.inl h),fun _ h=>.inl h⟩
end
section
variable {w w':World}{X:XP}{k:Lk}{m:Mc}
theorem DN (h:Ex w X k m)(t:Nat)(ht:t<k.n):
 Calls Tryz.prog 62 #[J (P ⟨X.x,0,Z⟩),I Q t] w fun e w'=>e=.returned (cv (m.cs t).xs (m.cs t).pc)/\Below w.heap.size w w':=by
 have hf:=h.lk.n64
 obtain⟨r0,r1,r2,r3,r4,r5,r6,r7,pc,ec⟩:=h.bC ht
 have h2:=h.below ((C _ w).alloc (Y _) (G #[I O 0,I O 0,I O 0,I O 0,I O 0,I O 0,I O 0,I O 0,I Q 0] 111))
 have q0:=Cb.made w [0,0,0,0,0,0,0,0] 0
 have b0:Below w.heap.size w (w.alloc (G #[I O 0,I O 0,I O 0,I O 0,I O 0,I O 0,I O 0,I O 0,I Q 0] 111)):=(C _ _).alloc (Y _) _
 simp only[bO,List.map_cons,List.map_nil,List.cons_append,List.nil_append] at q0
 rw[ec]
 unfold cv
 simp only[bO,List.map_cons,List.map_nil,List.cons_append,List.nil_append]
 go_enter Tryz.func62,Tryz.ntmps62
 go_upto_region 1 with fail
 generalize w.alloc (G #[I O 0,I O 0,I O 0,I O 0,I O 0,I O 0,I O 0,I O 0,I Q 0] 111)=x at *
 go_wp2_with fail
 refine(lI h2 t ht).mono ?_
 rintro e w' ⟨rfl,rfl⟩
 have c5:=h2.c5
 obtain⟨c0,c1,c2,c3,c4,c5',c6,c7,c8⟩:=h2.core ht ec
 have zf:=Bk.free q0
 obtain⟨z0,z1,z2,z3,z4,z5,z6,z7,z8⟩:=q0.cells
 go_upto_region 3 with fail
 have h9:=bu q0 (I O r0) (I O r1) (I O r2) (I O r3) (I O r4) (I O r5) (I O r6) (I O r7) (I Q pc)
 have b9:=aX b0 (Y _) (I O r0) (I O r1) (I O r2) (I O r3) (I O r4) (I O r5) (I O r6) (I O r7) (I Q pc)
 go_wp
 generalize hv9:(((((((((x.setCell ⟨w.heap.size,0,Z⟩ (I O r0)).setCell ⟨w.heap.size,1,Z⟩ (I O r1)).setCell ⟨w.heap.size,2,Z⟩ (I O r2)).setCell ⟨w.heap.size,3,Z⟩ (I O r3)).setCell ⟨w.heap.size,4,Z⟩ (I O r4)).setCell ⟨w.heap.size,5,Z⟩ (I O r5)).setCell ⟨w.heap.size,6,Z⟩ (I O r6)).setCell ⟨w.heap.size,7,Z⟩ (I O r7)).setCell ⟨w.heap.size,8,Z⟩ (I Q pc))=v9
 replace hv9:bm x w.heap.size (I O r0) (I O r1) (I O r2) (I O r3) (I O r4) (I O r5) (I O r6) (I O r7) (I Q pc)=v9:=hv9
 rw[hv9] at h9 b9
 obtain⟨y0,y1,y2,y3,y4,y5,y6,y7,y8⟩:=Cb.cells (r0:=r0) (r1:=r1) (r2:=r2) (r3:=r3) (r4:=r4) (r5:=r5) (r6:=r6) (r7:=r7) (pc:=pc) h9
 exact bodyPost_ret (v:=.agg #[I O r0,I O r1,I O r2,I O r3,I O r4,I O r5,I O r6,I O r7,I Q pc]) (by simp[results,Tryz.results62,go_sem,y0,y1,y2,y3,y4,y5,y6,y7,y8]) rfl ⟨rfl,b9⟩
def tF (w:World)(e:Ending)(w':World):Prop:=e=.returned (.tuple #[iv aM.zero,.bool T])/\Below w.heap.size w w'
def pt (w:World)(i:aM)(e:Ending)(w':World):Prop:=e=.returned (.tuple #[iv i,.bool U])/\Below w.heap.size w w'
theorem rn (h:Ex w X k m)(t:Nat)(ht:t<k.n)(hn:gW k (m.cs t).pc=Z):
 Calls Tryz.prog 53 #[J (P ⟨X.x,0,Z⟩),I Q t] w (tF w):=by
 have hf:=h.lk.n64
 have hl:=h.lk.parts
 obtain⟨r0,r1,r2,r3,r4,r5,r6,r7,pc,ec⟩:=h.bC ht
 rw[ec] at hn
 simp only at hn
 have h2:=h.below ((C _ w).alloc (Y _) (G #[I Q 0,I Q 0,I Q 0,I Q 0,I Q 0,I Q 0,I O 0,I Q 0] 121))
 have q0:=Ib.made w 0 0 0 0 0 0 0 0
 have b0:Below w.heap.size w (w.alloc (G #[I Q 0,I Q 0,I Q 0,I Q 0,I Q 0,I Q 0,I O 0,I Q 0] 121)):=(C _ _).alloc (Y _) _
 unfold tF iv aM.zero
 go_enter Tryz.func53,Tryz.ntmps53
 go_upto_region 1 with fail
 generalize w.alloc (G #[I Q 0,I Q 0,I Q 0,I Q 0,I Q 0,I Q 0,I O 0,I Q 0] 121)=x at *
 go_wp2_with fail
 refine(lI h2 t ht).mono ?_
 rintro e w' ⟨rfl,rfl⟩
 have c5:=h2.c5
 obtain⟨c0,c1,c2,c3,c4,c5',c6,c7,c8⟩:=h2.core ht ec
 have k0:=h2.c0
 obtain⟨hpv,a,cap,ecv⟩:=h2.pv
 rw[ecv] at k0
 have zf:=Bk.free q0
 obtain⟨z0,z1,z2,z3,z4,z5,z6,z7⟩:=q0.cells
 simp only at z0 z1 z2 z3 z4 z5 z6 z7
 have hg:∀ y:World,Ib y w.heap.size aM.zero->Below w.heap.size w y->Ib (em y w.heap.size aM.zero) w.heap.size aM.zero/\Below w.heap.size w (em y w.heap.size aM.zero):=fun y hy hb=>⟨dE hy,aU hb (Y _)⟩
 have HG:=F hg
 clear hg
 rcases nQ hn with hp | hp | ⟨j,hp0,hp1,hj,hmj⟩
 ·clear hn hl
  have hp':decide (pc<0)=U:=by simpa using hp
  obtain⟨g1,g2⟩:=HG.out x q0 b0
  clear q0 b0 HG h h2 hpv
  go_upto_region 5 with fail
  go_wp
  generalize hv9:(((((((x.setCell ⟨w.heap.size,0,Z⟩ (I Q 0)).setCell ⟨w.heap.size,1,Z⟩ (I Q 0)).setCell ⟨w.heap.size,2,Z⟩ (I Q 0)).setCell ⟨w.heap.size,3,Z⟩ (I Q 0)).setCell ⟨w.heap.size,4,Z⟩ (I Q 0)).setCell ⟨w.heap.size,5,Z⟩ (I Q 0)).setCell ⟨w.heap.size,6,Z⟩ (I O 0)).setCell ⟨w.heap.size,7,Z⟩ (I Q 0)=v9
  replace hv9:em x w.heap.size aM.zero=v9:=hv9
  rw[hv9] at g1 g2
  obtain⟨y0,y1,y2,y3,y4,y5,y6,y7⟩:=g1.cells
  simp only[aM.zero] at y0 y1 y2 y3 y4 y5 y6 y7
  exact bodyPost_ret (v:=.tuple #[.agg #[I Q 0,I Q 0,I Q 0,I Q 0,I Q 0,I Q 0,I O 0,I Q 0],.bool T]) (by simp[results,Tryz.results53,go_sem,y0,y1,y2,y3,y4,y5,y6,y7]) rfl ⟨rfl,g2⟩
 ·have hp':decide (pc<0)=T:=by simp;omega
  have hp2:decide (pc>=(k.l.length:Int))=U:=by simp;omega
  have hp3:(k.l.length:Int)<=pc:=hp
  have hl2:=hl.2.1
  clear hn hl
  obtain⟨g1,g2⟩:=HG.out x q0 b0
  clear q0 b0 HG h h2 hpv
  go_upto_region 5 with fail
  go_wp
  generalize hv9:(((((((x.setCell ⟨w.heap.size,0,Z⟩ (I Q 0)).setCell ⟨w.heap.size,1,Z⟩ (I Q 0)).setCell ⟨w.heap.size,2,Z⟩ (I Q 0)).setCell ⟨w.heap.size,3,Z⟩ (I Q 0)).setCell ⟨w.heap.size,4,Z⟩ (I Q 0)).setCell ⟨w.heap.size,5,Z⟩ (I Q 0)).setCell ⟨w.heap.size,6,Z⟩ (I O 0)).setCell ⟨w.heap.size,7,Z⟩ (I Q 0)=v9
  replace hv9:em x w.heap.size aM.zero=v9:=hv9
  rw[hv9] at g1 g2
  obtain⟨y0,y1,y2,y3,y4,y5,y6,y7⟩:=g1.cells
  simp only[aM.zero] at y0 y1 y2 y3 y4 y5 y6 y7
  exact bodyPost_ret (v:=.tuple #[.agg #[I Q 0,I Q 0,I Q 0,I Q 0,I Q 0,I Q 0,I O 0,I Q 0],.bool T]) (by simp[results,Tryz.results53,go_sem,y0,y1,y2,y3,y4,y5,y6,y7]) rfl ⟨rfl,g2⟩
 ·obtain⟨a2,ca2,e2,_,_,_,hsl⟩:=hpv
  simp only[Value.agg.injEq,Array.mk.injEq,List.cons.injEq,ecv,Value.slice.injEq,and_true,true_and] at e2
  obtain⟨rfl,rfl⟩:=e2
  obtain⟨n,rfl⟩:=Int.eq_ofNat_of_zero_le hp0
  rw[Int.toNat_natCast] at hj
  obtain⟨g,off,rfl,hgl,e0,e1,e2,e3,e4,e5,e6,e7⟩:=hsl.at_ hj
  have hp':decide ((n:Int)<0)=T:=by simp
  have hp2:decide ((n:Int)>=(k.l.length:Int))=T:=by simp;omega
  have hp3:(n:Int)<k.l.length:=hp1
  have hl2:=hl.2.1
  have HM:=F (fun W=>jY j W)
  rw[hmj] at HM
  have HQ:=F q0
  have HB:=F b0
  clear hn hl q0 b0 zf z0 z1 z2 z3 z4 z5 z6 z7 hmj
  obtain⟨op,d,s,t',u,a',k',pl⟩:=j
  unfold iv at HM
  simp only at e0 e1 e2 e3 e4 e5 e6 e7 HM
  go_wp2_with fail
  refine(HM.out _).mono ?_
  rintro e y ⟨rfl,hy⟩
  have q0:=HQ.out.below hy
  obtain⟨g1,g2⟩:=HG.out y q0 (HB.out.trans (hy.mono HB.out.size))
  have zf:=Bk.free q0
  obtain⟨z0,z1,z2,z3,z4,z5,z6,z7⟩:=q0.cells
  simp only at z0 z1 z2 z3 z4 z5 z6 z7
  clear q0 HQ HB HG h h2 hsl HM e0 e1 e2 e3 e4 e5 e6 e7 c0 c1 c2 c3 c4 c5 c5' c6 c7 c8 k0
  go_upto_region 5 with fail
  go_wp
  generalize hv9:(((((((y.setCell ⟨w.heap.size,0,Z⟩ (I Q 0)).setCell ⟨w.heap.size,1,Z⟩ (I Q 0)).setCell ⟨w.heap.size,2,Z⟩ (I Q 0)).setCell ⟨w.heap.size,3,Z⟩ (I Q 0)).setCell ⟨w.heap.size,4,Z⟩ (I Q 0)).setCell ⟨w.heap.size,5,Z⟩ (I Q 0)).setCell ⟨w.heap.size,6,Z⟩ (I O 0)).setCell ⟨w.heap.size,7,Z⟩ (I Q 0)=v9
  replace hv9:em y w.heap.size aM.zero=v9:=hv9
  rw[hv9] at g1 g2
  obtain⟨y0,y1,y2,y3,y4,y5,y6,y7⟩:=g1.cells
  simp only[aM.zero] at y0 y1 y2 y3 y4 y5 y6 y7
  exact bodyPost_ret (v:=.tuple #[.agg #[I Q 0,I Q 0,I Q 0,I Q 0,I Q 0,I Q 0,I O 0,I Q 0],.bool T]) (by simp[results,Tryz.results53,go_sem,y0,y1,y2,y3,y4,y5,y6,y7]) rfl ⟨rfl,g2⟩
end
section
variable {w w':World}{x n each N:Nat}{R:RM}{free:Nat->List Nat}{gen out:List Int}
theorem iP {W W3:World}{o:Obj}{r:Option Nat}{b:Nat}{t:TypeId}{cs:Array Value}(h:(W.drew.alloc o).grownBy W3 r)(hb:Bk W b t cs)(hne:P b≠r):Bk W3 b t cs:=Bk.grown (Bk.alloc (w:=W.drew) hb o) h hne
end
section
variable {w w':World}{X:XP}{k:Lk}{m:Mc}
def pu (w:World)(c:kg)(s:Bool)(e:Ending)(w':World):Prop:=e=.returned (.tuple #[cv c.xs c.pc,.bool s])/\Below w.heap.size w w'
theorem B3 (c:kg)(i:aM)(n:Nat)(v:Int)(late:Bool)(w:World)(hx:bg c.xs)(hi:E8 i n)(h21:i.op=21)(hv:0<=v/\v<4294967296)(hp0:0<=c.pc)(hp1:c.pc<1000):
 Calls Tryz.prog 143 #[cv c.xs c.pc,iv i,I O v,.bool late] w (pu w (fH c i v late).1 (fH c i v late).2):=by
 obtain⟨hk,hpl⟩:=hi.aw h21
 have hd:=hi.d
 have ht:=hi.t
 obtain⟨xs,pc⟩:=c
 obtain⟨op,d,s,t,u,a',k',pl⟩:=i
 simp only at hk hpl hd ht hx hp0 hp1
 obtain⟨dn,rfl⟩:∃ n:Nat,d=n:=⟨d.toNat,by omega⟩
 obtain⟨tn,rfl⟩:∃ n:Nat,t=n:=⟨t.toNat,by omega⟩
 have hd8:dn<8:=by omega
 have ht8:tn<8:=by omega
 have hV:=hx.2.at_ tn
 obtain⟨r0,r1,r2,r3,r4,r5,r6,r7,rfl⟩:=aD hx.1
 obtain⟨s0,s1,s2,s3,s4,s5,s6,s7,hs⟩:=aD (xs:=[r0,r1,r2,r3,r4,r5,r6,r7].set dn v) (by simp)
 have HS:=F hs
 generalize hA:fH ⟨[r0,r1,r2,r3,r4,r5,r6,r7],pc⟩ ⟨op,dn,s,tn,u,a',k',pl⟩ v late=A
 have HA:Hid (A=if decide (v=aG [r0,r1,r2,r3,r4,r5,r6,r7] tn)==decide (k'=0) then (⟨[s0,s1,s2,s3,s4,s5,s6,s7],pc+1⟩,T) else if late=U/\pl≠-1 then (⟨[s0,s1,s2,s3,s4,s5,s6,s7],pl⟩,T) else (⟨[s0,s1,s2,s3,s4,s5,s6,s7],pc⟩,U)):=F (by
  rw[<-hA];unfold fH;simp only[Int.toNat_natCast,hs])
 clear hA hs
 have q0:=((Cb.made w [r0,r1,r2,r3,r4,r5,r6,r7] pc).below (Below.alloc (o:=G #[I Q op,I Q dn,I Q s,I Q tn,I Q u,I Q a',I O k',I Q pl] 121) (C _ _) (Y _)))
 have q1:=Ib.made (w.alloc (G (bO [r0,r1,r2,r3,r4,r5,r6,r7] pc).toArray 111)) op dn s tn u a' k' pl
 have b0:Below w.heap.size w ((w.alloc (G (bO [r0,r1,r2,r3,r4,r5,r6,r7] pc).toArray 111)).alloc (G #[I Q op,I Q dn,I Q s,I Q tn,I Q u,I Q a',I O k',I Q pl] 121)):=((C _ _).alloc (Y _) _).alloc (by simp) _
 rw[World.size_alloc] at q1
 have q2:=Cb.made ((w.alloc (G (bO [r0,r1,r2,r3,r4,r5,r6,r7] pc).toArray 111)).alloc (G #[I Q op,I Q dn,I Q s,I Q tn,I Q u,I Q a',I O k',I Q pl] 121)) [0,0,0,0,0,0,0,0] 0
 rw[World.size_alloc,World.size_alloc] at q2
 have q0':=q0.below (Below.alloc (o:=G (bO [0,0,0,0,0,0,0,0] 0).toArray 111) (C _ _) (Y _))
 have q1':=q1.below (Below.alloc (o:=G (bO [0,0,0,0,0,0,0,0] 0).toArray 111) (C _ _) (by rw[World.size_alloc,World.size_alloc];exact Y _))
 replace b0:=b0.alloc (o:=G (bO [0,0,0,0,0,0,0,0] 0).toArray 111) b0.size
 clear q0 q1
 unfold pu cv iv
 simp only[bO,List.map_cons,List.map_nil,List.cons_append,List.nil_append] at q0' q1' q2 b0 ⊢
 go_enter Tryz.func143,Tryz.ntmps143
 go_upto_region 1 with fail
 generalize ((w.alloc (G #[I O r0,I O r1,I O r2,I O r3,I O r4,I O r5,I O r6,I O r7,I Q pc] 111)).alloc (G #[I Q op,I Q dn,I Q s,I Q tn,I Q u,I Q a',I O k',I Q pl] 121)).alloc (G #[I O 0,I O 0,I O 0,I O 0,I O 0,I O 0,I O 0,I O 0,I Q 0] 111)=x at *
 have cT:=q0'.at_ rfl ht8
 have cD:=q0'.at_ rfl hd8
 obtain⟨e0,e1,e2,e3,e4,e5,e6,e7⟩:=q1'.cells
 simp only at e0 e1 e2 e3 e4 e5 e6 e7
 have zf:=Bk.free q0'
 have q:=q0'.set rfl hd8 v
 rw[HS.out] at q
 have q1:=q1'.off (p:=⟨w.heap.size,dn,Z⟩) (by show w.heap.size+1≠w.heap.size;omega) (I O v)
 have q2':Cb (x.setCell ⟨w.heap.size,dn,Z⟩ (I O v)) _ _ _:=Bk.off q2 (p:=⟨w.heap.size,dn,Z⟩) (by show w.heap.size+1+1≠w.heap.size;omega) (I O v)
 have b:=b0.setCell (p:=⟨w.heap.size,dn,Z⟩) (Y _) (I O v)
 have hw1:wrap64 (pc+1)=pc+1:=IntWalk.wrap64_in _ (by omega)
 clear q0' q1' q2 b0 hx hi HS h21 hp0 hd ht
 have q2:=q2'
 clear q2'
 generalize aG [r0,r1,r2,r3,r4,r5,r6,r7] dn=V2 at *
 generalize aG [r0,r1,r2,r3,r4,r5,r6,r7] tn=V at *
 by_cases hV:v=V
 ·subst hV
  rcases hk with rfl|rfl
  ·replace HA:Hid (A=(⟨[s0,s1,s2,s3,s4,s5,s6,s7],pc+1⟩,T)):=F (by rw[HA.out];simp)
   clear hpl
   go_upto_region 5 with fail
   clear cT cD e0 e1 e2 e3 e4 e5 e6 e7 zf
   generalize x.setCell ⟨w.heap.size,dn,Z⟩ (I O v)=y at *
   obtain⟨c0,c1,c2,c3,c4,c5,c6,c7,c8⟩:=q.cells
   obtain⟨e0,e1,e2,e3,e4,e5,e6,e7⟩:=Ib.cells (i:=⟨op,dn,s,tn,u,a',0,pl⟩) q1
   simp only at e0 e1 e2 e3 e4 e5 e6 e7
   have zf:=Bk.free q
   go_upto_region 9 with fail
   have o0:Cb (y.setCell ⟨w.heap.size,8,Z⟩ (I Q (pc+1))) w.heap.size [s0,s1,s2,s3,s4,s5,s6,s7] (pc+1):=Bk.put q 8 (I Q (pc+1))
   have o2:Cb (y.setCell ⟨w.heap.size,8,Z⟩ (I Q (pc+1))) _ _ _:=Bk.off q2 (p:=⟨w.heap.size,8,Z⟩) (by show w.heap.size+1+1≠w.heap.size;omega) (I Q (pc+1))
   have o3:=b.setCell (p:=⟨w.heap.size,8,Z⟩) (Y _) (I Q (pc+1))
   clear q q2 b c0 c1 c2 c3 c4 c5 c6 c7 c8 zf e0 e1 e2 e3 e4 e5 e6 e7
   generalize y.setCell ⟨w.heap.size,8,Z⟩ (I Q (pc+1))=y at *
   have q:=o0
   have q2:=o2
   have b:=o3
   clear o0 o2 o3
   obtain⟨c0,c1,c2,c3,c4,c5,c6,c7,c8⟩:=q.cells
   have zf:=Bk.free q2
   obtain⟨z0,z1,z2,z3,z4,z5,z6,z7,z8⟩:=q2.cells
   have h9:=bu q2 (I O s0) (I O s1) (I O s2) (I O s3) (I O s4) (I O s5) (I O s6) (I O s7) (I Q (pc+1))
   have b9:=aX b (show w.heap.size<=w.heap.size+1+1 by omega) (I O s0) (I O s1) (I O s2) (I O s3) (I O s4) (I O s5) (I O s6) (I O s7) (I Q (pc+1))
   clear q q2 b
   go_wp
   generalize hv9:(((((((((y.setCell ⟨(w.heap.size+1+1),0,Z⟩ (I O s0)).setCell ⟨(w.heap.size+1+1),1,Z⟩ (I O s1)).setCell ⟨(w.heap.size+1+1),2,Z⟩ (I O s2)).setCell ⟨(w.heap.size+1+1),3,Z⟩ (I O s3)).setCell ⟨(w.heap.size+1+1),4,Z⟩ (I O s4)).setCell ⟨(w.heap.size+1+1),5,Z⟩ (I O s5)).setCell ⟨(w.heap.size+1+1),6,Z⟩ (I O s6)).setCell ⟨(w.heap.size+1+1),7,Z⟩ (I O s7)).setCell ⟨(w.heap.size+1+1),8,Z⟩ (I Q (pc+1)))=v9
   replace hv9:bm y (w.heap.size+1+1) (I O s0) (I O s1) (I O s2) (I O s3) (I O s4) (I O s5) (I O s6) (I O s7) (I Q (pc+1))=v9:=hv9
   rw[hv9] at h9 b9
   obtain⟨y0,y1,y2,y3,y4,y5,y6,y7,y8⟩:=Cb.cells (r0:=s0) (r1:=s1) (r2:=s2) (r3:=s3) (r4:=s4) (r5:=s5) (r6:=s6) (r7:=s7) (pc:=(pc+1)) h9
   exact bodyPost_ret (v:=.tuple #[.agg #[I O s0,I O s1,I O s2,I O s3,I O s4,I O s5,I O s6,I O s7,I Q (pc+1)],.bool T]) (by simp[results,Tryz.results143,go_sem,y0,y1,y2,y3,y4,y5,y6,y7,y8]) rfl ⟨by rw[HA.out];rfl,b9⟩
  ·cases late with
   | false=>
    replace HA:Hid (A=(⟨[s0,s1,s2,s3,s4,s5,s6,s7],pc⟩,U)):=F (by rw[HA.out];simp)
    clear hpl
    go_upto_region 5 with fail
    clear cT cD e0 e1 e2 e3 e4 e5 e6 e7 zf
    generalize x.setCell ⟨w.heap.size,dn,Z⟩ (I O v)=y at *
    obtain⟨c0,c1,c2,c3,c4,c5,c6,c7,c8⟩:=q.cells
    obtain⟨e0,e1,e2,e3,e4,e5,e6,e7⟩:=Ib.cells (i:=⟨op,dn,s,tn,u,a',1,pl⟩) q1
    simp only at e0 e1 e2 e3 e4 e5 e6 e7
    have zf:=Bk.free q
    go_upto_region 4 with fail
    clear c0 c1 c2 c3 c4 c5 c6 c7 c8 zf e0 e1 e2 e3 e4 e5 e6 e7
    obtain⟨c0,c1,c2,c3,c4,c5,c6,c7,c8⟩:=q.cells
    have zf:=Bk.free q2
    obtain⟨z0,z1,z2,z3,z4,z5,z6,z7,z8⟩:=q2.cells
    have h9:=bu q2 (I O s0) (I O s1) (I O s2) (I O s3) (I O s4) (I O s5) (I O s6) (I O s7) (I Q pc)
    have b9:=aX b (show w.heap.size<=w.heap.size+1+1 by omega) (I O s0) (I O s1) (I O s2) (I O s3) (I O s4) (I O s5) (I O s6) (I O s7) (I Q pc)
    clear q q2 b
    go_wp
    generalize hv9:(((((((((y.setCell ⟨(w.heap.size+1+1),0,Z⟩ (I O s0)).setCell ⟨(w.heap.size+1+1),1,Z⟩ (I O s1)).setCell ⟨(w.heap.size+1+1),2,Z⟩ (I O s2)).setCell ⟨(w.heap.size+1+1),3,Z⟩ (I O s3)).setCell ⟨(w.heap.size+1+1),4,Z⟩ (I O s4)).setCell ⟨(w.heap.size+1+1),5,Z⟩ (I O s5)).setCell ⟨(w.heap.size+1+1),6,Z⟩ (I O s6)).setCell ⟨(w.heap.size+1+1),7,Z⟩ (I O s7)).setCell ⟨(w.heap.size+1+1),8,Z⟩ (I Q pc))=v9
    replace hv9:bm y (w.heap.size+1+1) (I O s0) (I O s1) (I O s2) (I O s3) (I O s4) (I O s5) (I O s6) (I O s7) (I Q pc)=v9:=hv9
    rw[hv9] at h9 b9
    obtain⟨y0,y1,y2,y3,y4,y5,y6,y7,y8⟩:=Cb.cells (r0:=s0) (r1:=s1) (r2:=s2) (r3:=s3) (r4:=s4) (r5:=s5) (r6:=s6) (r7:=s7) (pc:=pc) h9
    exact bodyPost_ret (v:=.tuple #[.agg #[I O s0,I O s1,I O s2,I O s3,I O s4,I O s5,I O s6,I O s7,I Q pc],.bool U]) (by simp[results,Tryz.results143,go_sem,y0,y1,y2,y3,y4,y5,y6,y7,y8]) rfl ⟨by rw[HA.out];rfl,b9⟩
   | true=>
    rcases hpl with rfl | ⟨hpl,_⟩
    ·replace HA:Hid (A=(⟨[s0,s1,s2,s3,s4,s5,s6,s7],pc⟩,U)):=F (by rw[HA.out];simp)
     go_upto_region 5 with fail
     clear cT cD e0 e1 e2 e3 e4 e5 e6 e7 zf
     generalize x.setCell ⟨w.heap.size,dn,Z⟩ (I O v)=y at *
     obtain⟨c0,c1,c2,c3,c4,c5,c6,c7,c8⟩:=q.cells
     obtain⟨e0,e1,e2,e3,e4,e5,e6,e7⟩:=Ib.cells (i:=⟨op,dn,s,tn,u,a',1,-1⟩) q1
     simp only at e0 e1 e2 e3 e4 e5 e6 e7
     have zf:=Bk.free q
     go_upto_region 4 with fail
     clear c0 c1 c2 c3 c4 c5 c6 c7 c8 zf e0 e1 e2 e3 e4 e5 e6 e7
     obtain⟨c0,c1,c2,c3,c4,c5,c6,c7,c8⟩:=q.cells
     have zf:=Bk.free q2
     obtain⟨z0,z1,z2,z3,z4,z5,z6,z7,z8⟩:=q2.cells
     have h9:=bu q2 (I O s0) (I O s1) (I O s2) (I O s3) (I O s4) (I O s5) (I O s6) (I O s7) (I Q pc)
     have b9:=aX b (show w.heap.size<=w.heap.size+1+1 by omega) (I O s0) (I O s1) (I O s2) (I O s3) (I O s4) (I O s5) (I O s6) (I O s7) (I Q pc)
     clear q q2 b
     go_wp
     generalize hv9:(((((((((y.setCell ⟨(w.heap.size+1+1),0,Z⟩ (I O s0)).setCell ⟨(w.heap.size+1+1),1,Z⟩ (I O s1)).setCell ⟨(w.heap.size+1+1),2,Z⟩ (I O s2)).setCell ⟨(w.heap.size+1+1),3,Z⟩ (I O s3)).setCell ⟨(w.heap.size+1+1),4,Z⟩ (I O s4)).setCell ⟨(w.heap.size+1+1),5,Z⟩ (I O s5)).setCell ⟨(w.heap.size+1+1),6,Z⟩ (I O s6)).setCell ⟨(w.heap.size+1+1),7,Z⟩ (I O s7)).setCell ⟨(w.heap.size+1+1),8,Z⟩ (I Q pc))=v9
     replace hv9:bm y (w.heap.size+1+1) (I O s0) (I O s1) (I O s2) (I O s3) (I O s4) (I O s5) (I O s6) (I O s7) (I Q pc)=v9:=hv9
     rw[hv9] at h9 b9
     obtain⟨y0,y1,y2,y3,y4,y5,y6,y7,y8⟩:=Cb.cells (r0:=s0) (r1:=s1) (r2:=s2) (r3:=s3) (r4:=s4) (r5:=s5) (r6:=s6) (r7:=s7) (pc:=pc) h9
     exact bodyPost_ret (v:=.tuple #[.agg #[I O s0,I O s1,I O s2,I O s3,I O s4,I O s5,I O s6,I O s7,I Q pc],.bool U]) (by simp[results,Tryz.results143,go_sem,y0,y1,y2,y3,y4,y5,y6,y7,y8]) rfl ⟨by rw[HA.out];rfl,b9⟩
    ·have hpn:¬ pl=-1:=by omega
     have hpn2:(pl != -1)=U:=by simp;omega
     replace HA:Hid (A=(⟨[s0,s1,s2,s3,s4,s5,s6,s7],pl⟩,T)):=F (by rw[HA.out];simp[hpn])
     clear hpn hpl
     go_upto_region 5 with fail
     clear cT cD e0 e1 e2 e3 e4 e5 e6 e7 zf
     generalize x.setCell ⟨w.heap.size,dn,Z⟩ (I O v)=y at *
     obtain⟨c0,c1,c2,c3,c4,c5,c6,c7,c8⟩:=q.cells
     obtain⟨e0,e1,e2,e3,e4,e5,e6,e7⟩:=Ib.cells (i:=⟨op,dn,s,tn,u,a',1,pl⟩) q1
     simp only at e0 e1 e2 e3 e4 e5 e6 e7
     have zf:=Bk.free q
     go_upto_region 9 with fail
     have o0:Cb (y.setCell ⟨w.heap.size,8,Z⟩ (I Q pl)) w.heap.size [s0,s1,s2,s3,s4,s5,s6,s7] pl:=Bk.put q 8 (I Q pl)
     have o2:Cb (y.setCell ⟨w.heap.size,8,Z⟩ (I Q pl)) _ _ _:=Bk.off q2 (p:=⟨w.heap.size,8,Z⟩) (by show w.heap.size+1+1≠w.heap.size;omega) (I Q pl)
     have o3:=b.setCell (p:=⟨w.heap.size,8,Z⟩) (Y _) (I Q pl)
     clear q q2 b c0 c1 c2 c3 c4 c5 c6 c7 c8 zf e0 e1 e2 e3 e4 e5 e6 e7
     generalize y.setCell ⟨w.heap.size,8,Z⟩ (I Q pl)=y at *
     have q:=o0
     have q2:=o2
     have b:=o3
     clear o0 o2 o3
     obtain⟨c0,c1,c2,c3,c4,c5,c6,c7,c8⟩:=q.cells
     have zf:=Bk.free q2
     obtain⟨z0,z1,z2,z3,z4,z5,z6,z7,z8⟩:=q2.cells
     have h9:=bu q2 (I O s0) (I O s1) (I O s2) (I O s3) (I O s4) (I O s5) (I O s6) (I O s7) (I Q pl)
     have b9:=aX b (show w.heap.size<=w.heap.size+1+1 by omega) (I O s0) (I O s1) (I O s2) (I O s3) (I O s4) (I O s5) (I O s6) (I O s7) (I Q pl)
     clear q q2 b
     go_wp
     generalize hv9:(((((((((y.setCell ⟨(w.heap.size+1+1),0,Z⟩ (I O s0)).setCell ⟨(w.heap.size+1+1),1,Z⟩ (I O s1)).setCell ⟨(w.heap.size+1+1),2,Z⟩ (I O s2)).setCell ⟨(w.heap.size+1+1),3,Z⟩ (I O s3)).setCell ⟨(w.heap.size+1+1),4,Z⟩ (I O s4)).setCell ⟨(w.heap.size+1+1),5,Z⟩ (I O s5)).setCell ⟨(w.heap.size+1+1),6,Z⟩ (I O s6)).setCell ⟨(w.heap.size+1+1),7,Z⟩ (I O s7)).setCell ⟨(w.heap.size+1+1),8,Z⟩ (I Q pl))=v9
     replace hv9:bm y (w.heap.size+1+1) (I O s0) (I O s1) (I O s2) (I O s3) (I O s4) (I O s5) (I O s6) (I O s7) (I Q pl)=v9:=hv9
     rw[hv9] at h9 b9
     obtain⟨y0,y1,y2,y3,y4,y5,y6,y7,y8⟩:=Cb.cells (r0:=s0) (r1:=s1) (r2:=s2) (r3:=s3) (r4:=s4) (r5:=s5) (r6:=s6) (r7:=s7) (pc:=pl) h9
     exact bodyPost_ret (v:=.tuple #[.agg #[I O s0,I O s1,I O s2,I O s3,I O s4,I O s5,I O s6,I O s7,I Q pl],.bool T]) (by simp[results,Tryz.results143,go_sem,y0,y1,y2,y3,y4,y5,y6,y7,y8]) rfl ⟨by rw[HA.out];rfl,b9⟩
 ·have hne:(v==V)=T:=by simpa using hV
  replace HA:=And.intro HA (F hV)
  clear hV
  obtain⟨HA,HV⟩:=HA
  rcases hk with rfl|rfl
  ·cases late with
   | false=>
    replace HA:Hid (A=(⟨[s0,s1,s2,s3,s4,s5,s6,s7],pc⟩,U)):=F (by rw[HA.out];simp[HV.out])
    clear hpl
    go_upto_region 5 with fail
    clear cT cD e0 e1 e2 e3 e4 e5 e6 e7 zf
    generalize x.setCell ⟨w.heap.size,dn,Z⟩ (I O v)=y at *
    obtain⟨c0,c1,c2,c3,c4,c5,c6,c7,c8⟩:=q.cells
    obtain⟨e0,e1,e2,e3,e4,e5,e6,e7⟩:=Ib.cells (i:=⟨op,dn,s,tn,u,a',0,pl⟩) q1
    simp only at e0 e1 e2 e3 e4 e5 e6 e7
    have zf:=Bk.free q
    go_upto_region 4 with fail
    clear c0 c1 c2 c3 c4 c5 c6 c7 c8 zf e0 e1 e2 e3 e4 e5 e6 e7
    obtain⟨c0,c1,c2,c3,c4,c5,c6,c7,c8⟩:=q.cells
    have zf:=Bk.free q2
    obtain⟨z0,z1,z2,z3,z4,z5,z6,z7,z8⟩:=q2.cells
    have h9:=bu q2 (I O s0) (I O s1) (I O s2) (I O s3) (I O s4) (I O s5) (I O s6) (I O s7) (I Q pc)
    have b9:=aX b (show w.heap.size<=w.heap.size+1+1 by omega) (I O s0) (I O s1) (I O s2) (I O s3) (I O s4) (I O s5) (I O s6) (I O s7) (I Q pc)
    clear q q2 b
    go_wp
    generalize hv9:(((((((((y.setCell ⟨(w.heap.size+1+1),0,Z⟩ (I O s0)).setCell ⟨(w.heap.size+1+1),1,Z⟩ (I O s1)).setCell ⟨(w.heap.size+1+1),2,Z⟩ (I O s2)).setCell ⟨(w.heap.size+1+1),3,Z⟩ (I O s3)).setCell ⟨(w.heap.size+1+1),4,Z⟩ (I O s4)).setCell ⟨(w.heap.size+1+1),5,Z⟩ (I O s5)).setCell ⟨(w.heap.size+1+1),6,Z⟩ (I O s6)).setCell ⟨(w.heap.size+1+1),7,Z⟩ (I O s7)).setCell ⟨(w.heap.size+1+1),8,Z⟩ (I Q pc))=v9
    replace hv9:bm y (w.heap.size+1+1) (I O s0) (I O s1) (I O s2) (I O s3) (I O s4) (I O s5) (I O s6) (I O s7) (I Q pc)=v9:=hv9
    rw[hv9] at h9 b9
    obtain⟨y0,y1,y2,y3,y4,y5,y6,y7,y8⟩:=Cb.cells (r0:=s0) (r1:=s1) (r2:=s2) (r3:=s3) (r4:=s4) (r5:=s5) (r6:=s6) (r7:=s7) (pc:=pc) h9
    exact bodyPost_ret (v:=.tuple #[.agg #[I O s0,I O s1,I O s2,I O s3,I O s4,I O s5,I O s6,I O s7,I Q pc],.bool U]) (by simp[results,Tryz.results143,go_sem,y0,y1,y2,y3,y4,y5,y6,y7,y8]) rfl ⟨by rw[HA.out];rfl,b9⟩
   | true=>
    rcases hpl with rfl | ⟨hpl,_⟩
    ·replace HA:Hid (A=(⟨[s0,s1,s2,s3,s4,s5,s6,s7],pc⟩,U)):=F (by rw[HA.out];simp[HV.out])
     go_upto_region 5 with fail
     clear cT cD e0 e1 e2 e3 e4 e5 e6 e7 zf
     generalize x.setCell ⟨w.heap.size,dn,Z⟩ (I O v)=y at *
     obtain⟨c0,c1,c2,c3,c4,c5,c6,c7,c8⟩:=q.cells
     obtain⟨e0,e1,e2,e3,e4,e5,e6,e7⟩:=Ib.cells (i:=⟨op,dn,s,tn,u,a',0,-1⟩) q1
     simp only at e0 e1 e2 e3 e4 e5 e6 e7
     have zf:=Bk.free q
     go_upto_region 4 with fail
     clear c0 c1 c2 c3 c4 c5 c6 c7 c8 zf e0 e1 e2 e3 e4 e5 e6 e7
     obtain⟨c0,c1,c2,c3,c4,c5,c6,c7,c8⟩:=q.cells
     have zf:=Bk.free q2
     obtain⟨z0,z1,z2,z3,z4,z5,z6,z7,z8⟩:=q2.cells
     have h9:=bu q2 (I O s0) (I O s1) (I O s2) (I O s3) (I O s4) (I O s5) (I O s6) (I O s7) (I Q pc)
     have b9:=aX b (show w.heap.size<=w.heap.size+1+1 by omega) (I O s0) (I O s1) (I O s2) (I O s3) (I O s4) (I O s5) (I O s6) (I O s7) (I Q pc)
     clear q q2 b
     go_wp
     generalize hv9:(((((((((y.setCell ⟨(w.heap.size+1+1),0,Z⟩ (I O s0)).setCell ⟨(w.heap.size+1+1),1,Z⟩ (I O s1)).setCell ⟨(w.heap.size+1+1),2,Z⟩ (I O s2)).setCell ⟨(w.heap.size+1+1),3,Z⟩ (I O s3)).setCell ⟨(w.heap.size+1+1),4,Z⟩ (I O s4)).setCell ⟨(w.heap.size+1+1),5,Z⟩ (I O s5)).setCell ⟨(w.heap.size+1+1),6,Z⟩ (I O s6)).setCell ⟨(w.heap.size+1+1),7,Z⟩ (I O s7)).setCell ⟨(w.heap.size+1+1),8,Z⟩ (I Q pc))=v9
     replace hv9:bm y (w.heap.size+1+1) (I O s0) (I O s1) (I O s2) (I O s3) (I O s4) (I O s5) (I O s6) (I O s7) (I Q pc)=v9:=hv9
     rw[hv9] at h9 b9
     obtain⟨y0,y1,y2,y3,y4,y5,y6,y7,y8⟩:=Cb.cells (r0:=s0) (r1:=s1) (r2:=s2) (r3:=s3) (r4:=s4) (r5:=s5) (r6:=s6) (r7:=s7) (pc:=pc) h9
     exact bodyPost_ret (v:=.tuple #[.agg #[I O s0,I O s1,I O s2,I O s3,I O s4,I O s5,I O s6,I O s7,I Q pc],.bool U]) (by simp[results,Tryz.results143,go_sem,y0,y1,y2,y3,y4,y5,y6,y7,y8]) rfl ⟨by rw[HA.out];rfl,b9⟩
    ·have hpn:¬ pl=-1:=by omega
     have hpn2:(pl != -1)=U:=by simp;omega
     replace HA:Hid (A=(⟨[s0,s1,s2,s3,s4,s5,s6,s7],pl⟩,T)):=F (by rw[HA.out];simp[hpn,HV.out])
     clear hpn hpl
     go_upto_region 5 with fail
     clear cT cD e0 e1 e2 e3 e4 e5 e6 e7 zf
     generalize x.setCell ⟨w.heap.size,dn,Z⟩ (I O v)=y at *
     obtain⟨c0,c1,c2,c3,c4,c5,c6,c7,c8⟩:=q.cells
     obtain⟨e0,e1,e2,e3,e4,e5,e6,e7⟩:=Ib.cells (i:=⟨op,dn,s,tn,u,a',0,pl⟩) q1
     simp only at e0 e1 e2 e3 e4 e5 e6 e7
     have zf:=Bk.free q
     go_upto_region 9 with fail
     have o0:Cb (y.setCell ⟨w.heap.size,8,Z⟩ (I Q pl)) w.heap.size [s0,s1,s2,s3,s4,s5,s6,s7] pl:=Bk.put q 8 (I Q pl)
     have o2:Cb (y.setCell ⟨w.heap.size,8,Z⟩ (I Q pl)) _ _ _:=Bk.off q2 (p:=⟨w.heap.size,8,Z⟩) (by show w.heap.size+1+1≠w.heap.size;omega) (I Q pl)
     have o3:=b.setCell (p:=⟨w.heap.size,8,Z⟩) (Y _) (I Q pl)
     clear q q2 b c0 c1 c2 c3 c4 c5 c6 c7 c8 zf e0 e1 e2 e3 e4 e5 e6 e7
     generalize y.setCell ⟨w.heap.size,8,Z⟩ (I Q pl)=y at *
     have q:=o0
     have q2:=o2
     have b:=o3
     clear o0 o2 o3
     obtain⟨c0,c1,c2,c3,c4,c5,c6,c7,c8⟩:=q.cells
     have zf:=Bk.free q2
     obtain⟨z0,z1,z2,z3,z4,z5,z6,z7,z8⟩:=q2.cells
     have h9:=bu q2 (I O s0) (I O s1) (I O s2) (I O s3) (I O s4) (I O s5) (I O s6) (I O s7) (I Q pl)
     have b9:=aX b (show w.heap.size<=w.heap.size+1+1 by omega) (I O s0) (I O s1) (I O s2) (I O s3) (I O s4) (I O s5) (I O s6) (I O s7) (I Q pl)
     clear q q2 b
     go_wp
     generalize hv9:(((((((((y.setCell ⟨(w.heap.size+1+1),0,Z⟩ (I O s0)).setCell ⟨(w.heap.size+1+1),1,Z⟩ (I O s1)).setCell ⟨(w.heap.size+1+1),2,Z⟩ (I O s2)).setCell ⟨(w.heap.size+1+1),3,Z⟩ (I O s3)).setCell ⟨(w.heap.size+1+1),4,Z⟩ (I O s4)).setCell ⟨(w.heap.size+1+1),5,Z⟩ (I O s5)).setCell ⟨(w.heap.size+1+1),6,Z⟩ (I O s6)).setCell ⟨(w.heap.size+1+1),7,Z⟩ (I O s7)).setCell ⟨(w.heap.size+1+1),8,Z⟩ (I Q pl))=v9
     replace hv9:bm y (w.heap.size+1+1) (I O s0) (I O s1) (I O s2) (I O s3) (I O s4) (I O s5) (I O s6) (I O s7) (I Q pl)=v9:=hv9
     rw[hv9] at h9 b9
     obtain⟨y0,y1,y2,y3,y4,y5,y6,y7,y8⟩:=Cb.cells (r0:=s0) (r1:=s1) (r2:=s2) (r3:=s3) (r4:=s4) (r5:=s5) (r6:=s6) (r7:=s7) (pc:=pl) h9
     exact bodyPost_ret (v:=.tuple #[.agg #[I O s0,I O s1,I O s2,I O s3,I O s4,I O s5,I O s6,I O s7,I Q pl],.bool T]) (by simp[results,Tryz.results143,go_sem,y0,y1,y2,y3,y4,y5,y6,y7,y8]) rfl ⟨by rw[HA.out];rfl,b9⟩
  ·replace HA:Hid (A=(⟨[s0,s1,s2,s3,s4,s5,s6,s7],pc+1⟩,T)):=F (by rw[HA.out];simp[HV.out])
   clear hpl
   go_upto_region 5 with fail
   clear cT cD e0 e1 e2 e3 e4 e5 e6 e7 zf
   generalize x.setCell ⟨w.heap.size,dn,Z⟩ (I O v)=y at *
   obtain⟨c0,c1,c2,c3,c4,c5,c6,c7,c8⟩:=q.cells
   obtain⟨e0,e1,e2,e3,e4,e5,e6,e7⟩:=Ib.cells (i:=⟨op,dn,s,tn,u,a',1,pl⟩) q1
   simp only at e0 e1 e2 e3 e4 e5 e6 e7
   have zf:=Bk.free q
   go_upto_region 9 with fail
   have o0:Cb (y.setCell ⟨w.heap.size,8,Z⟩ (I Q (pc+1))) w.heap.size [s0,s1,s2,s3,s4,s5,s6,s7] (pc+1):=Bk.put q 8 (I Q (pc+1))
   have o2:Cb (y.setCell ⟨w.heap.size,8,Z⟩ (I Q (pc+1))) _ _ _:=Bk.off q2 (p:=⟨w.heap.size,8,Z⟩) (by show w.heap.size+1+1≠w.heap.size;omega) (I Q (pc+1))
   have o3:=b.setCell (p:=⟨w.heap.size,8,Z⟩) (Y _) (I Q (pc+1))
   clear q q2 b c0 c1 c2 c3 c4 c5 c6 c7 c8 zf e0 e1 e2 e3 e4 e5 e6 e7
   generalize y.setCell ⟨w.heap.size,8,Z⟩ (I Q (pc+1))=y at *
   have q:=o0
   have q2:=o2
   have b:=o3
   clear o0 o2 o3
   obtain⟨c0,c1,c2,c3,c4,c5,c6,c7,c8⟩:=q.cells
   have zf:=Bk.free q2
   obtain⟨z0,z1,z2,z3,z4,z5,z6,z7,z8⟩:=q2.cells
   have h9:=bu q2 (I O s0) (I O s1) (I O s2) (I O s3) (I O s4) (I O s5) (I O s6) (I O s7) (I Q (pc+1))
   have b9:=aX b (show w.heap.size<=w.heap.size+1+1 by omega) (I O s0) (I O s1) (I O s2) (I O s3) (I O s4) (I O s5) (I O s6) (I O s7) (I Q (pc+1))
   clear q q2 b
   go_wp
   generalize hv9:(((((((((y.setCell ⟨(w.heap.size+1+1),0,Z⟩ (I O s0)).setCell ⟨(w.heap.size+1+1),1,Z⟩ (I O s1)).setCell ⟨(w.heap.size+1+1),2,Z⟩ (I O s2)).setCell ⟨(w.heap.size+1+1),3,Z⟩ (I O s3)).setCell ⟨(w.heap.size+1+1),4,Z⟩ (I O s4)).setCell ⟨(w.heap.size+1+1),5,Z⟩ (I O s5)).setCell ⟨(w.heap.size+1+1),6,Z⟩ (I O s6)).setCell ⟨(w.heap.size+1+1),7,Z⟩ (I O s7)).setCell ⟨(w.heap.size+1+1),8,Z⟩ (I Q (pc+1)))=v9
   replace hv9:bm y (w.heap.size+1+1) (I O s0) (I O s1) (I O s2) (I O s3) (I O s4) (I O s5) (I O s6) (I O s7) (I Q (pc+1))=v9:=hv9
   rw[hv9] at h9 b9
   obtain⟨y0,y1,y2,y3,y4,y5,y6,y7,y8⟩:=Cb.cells (r0:=s0) (r1:=s1) (r2:=s2) (r3:=s3) (r4:=s4) (r5:=s5) (r6:=s6) (r7:=s7) (pc:=(pc+1)) h9
   exact bodyPost_ret (v:=.tuple #[.agg #[I O s0,I O s1,I O s2,I O s3,I O s4,I O s5,I O s6,I O s7,I Q (pc+1)],.bool T]) (by simp[results,Tryz.results143,go_sem,y0,y1,y2,y3,y4,y5,y6,y7,y8]) rfl ⟨by rw[HA.out];rfl,b9⟩
end
section
variable {w w':World}{X:XP}{k:Lk}{m:Mc}
theorem uo (h:Ex w X k m)(t:Nat)(ht:t<k.n){i:aM}(hn:gW k (m.cs t).pc=P i):
 Calls Tryz.prog 53 #[J (P ⟨X.x,0,Z⟩),I Q t] w (pt w i):=by
 have hf:=h.lk.n64
 have hl:=h.lk.parts
 obtain⟨r0,r1,r2,r3,r4,r5,r6,r7,pc,ec⟩:=h.bC ht
 rw[ec] at hn
 simp only at hn
 have h2:=h.below ((C _ w).alloc (Y _) (G #[I Q 0,I Q 0,I Q 0,I Q 0,I Q 0,I Q 0,I O 0,I Q 0] 121))
 have q0:=Ib.made w 0 0 0 0 0 0 0 0
 have b0:Below w.heap.size w (w.alloc (G #[I Q 0,I Q 0,I Q 0,I Q 0,I Q 0,I Q 0,I O 0,I Q 0] 121)):=(C _ _).alloc (Y _) _
 obtain⟨hp0,hp1,hj,hmj⟩:=ff hn
 obtain⟨n,rfl⟩:=Int.eq_ofNat_of_zero_le hp0
 rw[Int.toNat_natCast] at hj
 have HG:Hid (∀ y:World,Ib y w.heap.size aM.zero->Below w.heap.size w y->Ib (em y w.heap.size i) w.heap.size i/\Below w.heap.size w (em y w.heap.size i)):=F fun y hy hb=>⟨dE hy,aU hb (Y _)⟩
 have HM:=F (fun W=>jY i W)
 rw[hmj] at HM
 obtain⟨op,d,s,t',u,a',k',pl⟩:=i
 unfold pt iv
 unfold iv at HM
 simp only at HM ⊢
 go_enter Tryz.func53,Tryz.ntmps53
 go_upto_region 1 with fail
 generalize w.alloc (G #[I Q 0,I Q 0,I Q 0,I Q 0,I Q 0,I Q 0,I O 0,I Q 0] 121)=x at *
 go_wp2_with fail
 refine(lI h2 t ht).mono ?_
 rintro e w' ⟨rfl,rfl⟩
 have c5:=h2.c5
 obtain⟨c0,c1,c2,c3,c4,c5',c6,c7,c8⟩:=h2.core ht ec
 have k0:=h2.c0
 obtain⟨hpv,a,cap,ecv⟩:=h2.pv
 rw[ecv] at k0
 obtain⟨a2,ca2,e2,_,_,_,hsl⟩:=hpv
 simp only[Value.agg.injEq,Array.mk.injEq,List.cons.injEq,ecv,Value.slice.injEq,and_true,true_and] at e2
 obtain⟨rfl,rfl⟩:=e2
 have HSL:=F hsl
 obtain⟨g,off,rfl,hgl,e0,e1,e2,e3,e4,e5,e6,e7⟩:=hsl.at_ hj
 have hp':decide ((n:Int)<0)=T:=by simp
 have hp2:decide ((n:Int)>=(k.l.length:Int))=T:=by simp;omega
 have hp3:(n:Int)<k.l.length:=hp1
 have hl2:=hl.2.1
 have HQ:=F q0
 have HB:=F b0
 have HX:=F h2
 have HJ:=F hj
 clear hn hl q0 b0 hmj hsl h hj
 simp only at e0 e1 e2 e3 e4 e5 e6 e7
 go_wp2_with fail
 refine(HM.out _).mono ?_
 rintro e y ⟨rfl,hy⟩
 have q0:=HQ.out.below hy
 obtain⟨g1,g2⟩:=HG.out y q0 (HB.out.trans (hy.mono HB.out.size))
 have zf:=Bk.free q0
 obtain⟨z0,z1,z2,z3,z4,z5,z6,z7⟩:=q0.cells
 simp only at z0 z1 z2 z3 z4 z5 z6 z7
 clear e0 e1 e2 e3 e4 e5 e6 e7 c0 c1 c2 c3 c4 c5 c5' c6 c7 c8 k0
 have h3:=HX.out.below hy
 have k0:=h3.c0
 rw[ecv] at k0
 obtain⟨g',off',ee,hgl',e0,e1,e2,e3,e4,e5,e6,e7⟩:=(HSL.out.below hy).at_ HJ.out
 simp only[Option.some.injEq,Addr.mk.injEq,and_true] at ee
 obtain⟨rfl,rfl⟩:=ee
 simp only at e0 e1 e2 e3 e4 e5 e6 e7
 clear q0 HQ HB HG h2 h3 HM HX HSL HJ hgl'
 have hp4:decide (k.l.length<=n)=T:=by simp;omega
 rw[hp4]
 go_upto_region 6 with fail
 go_wp
 generalize hv9:(((((((y.setCell ⟨w.heap.size,0,Z⟩ (I Q op)).setCell ⟨w.heap.size,1,Z⟩ (I Q d)).setCell ⟨w.heap.size,2,Z⟩ (I Q s)).setCell ⟨w.heap.size,3,Z⟩ (I Q t')).setCell ⟨w.heap.size,4,Z⟩ (I Q u)).setCell ⟨w.heap.size,5,Z⟩ (I Q a')).setCell ⟨w.heap.size,6,Z⟩ (I O k')).setCell ⟨w.heap.size,7,Z⟩ (I Q pl)=v9
 replace hv9:em y w.heap.size ⟨op,d,s,t',u,a',k',pl⟩=v9:=hv9
 rw[hv9] at g1 g2
 obtain⟨y0,y1,y2,y3,y4,y5,y6,y7⟩:=g1.cells
 simp only at y0 y1 y2 y3 y4 y5 y6 y7
 exact bodyPost_ret (v:=.tuple #[.agg #[I Q op,I Q d,I Q s,I Q t',I Q u,I Q a',I O k',I Q pl],.bool U]) (by simp[results,Tryz.results53,go_sem,y0,y1,y2,y3,y4,y5,y6,y7]) rfl ⟨rfl,g2⟩
end
structure jl (w x:World)(n:Nat)(xs:List Int)(pc:Int)(i:aM)(o:Ot):Prop where
 c:Cb x n xs pc
 i:Ib x (n+1) i
 r:Cb x (n+1+1) [0,0,0,0,0,0,0,0] 0
 e:Bk x (n+1+1+1) 64 #[K Z 0 0,I Q 0,I Q 0,.bool T,.bool T,I Q 0]
 o:Bk x (n+1+1+1+1) 64 #[K Z 0 0,I Q o.done,I Q o.addr,.bool o.wrote,.bool o.stay,I Q o.e]
theorem jl.within {w x y:World}{n:Nat}{xs:List Int}{pc:Int}{i:aM}{o:Ot}{S:Nat->Prop}(h:jl w x n xs pc i o)(hw:ab x y S)(hn:∀ j,n<=j->¬ S j):jl w y n xs pc i o:=
 ⟨Bk.within h.c hw (hn _ (by omega)),Bk.within h.i hw (hn _ (by omega)),Bk.within h.r hw (hn _ (by omega)),h.e.within hw (hn _ (by omega)),h.o.within hw (hn _ (by omega))⟩
theorem jl.cells {w x:World}{n:Nat}{xs:List Int}{pc:Int}{i:aM}{o:Ot}(h:jl w x n xs pc i o):
 x.cell? ⟨n+1+1+1+1,0,Z⟩=P (K Z 0 0)/\x.cell? ⟨n+1+1+1+1,1,Z⟩=P (I Q o.done)/\x.cell? ⟨n+1+1+1+1,2,Z⟩=P (I Q o.addr)/\
 x.cell? ⟨n+1+1+1+1,3,Z⟩=P (.bool o.wrote)/\x.cell? ⟨n+1+1+1+1,4,Z⟩=P (.bool o.stay)/\x.cell? ⟨n+1+1+1+1,5,Z⟩=P (I Q o.e):=
 ⟨h.o.cell 0,h.o.cell 1,h.o.cell 2,h.o.cell 3,h.o.cell 4,h.o.cell 5⟩
def FK (w:World)(p q g s:Nat)(zs:List Int)(A:Ac)(a:Nat)(e:Ending)(w':World):Prop:=
 e=.returned (.tuple #[cv A.c.xs A.c.pc,zE (K Z 0 0) ⟨[],-1,a,A.wrote,A.stay,0⟩])/\Mm w' p q g s zs A.ws/\fD w w' g
def Dz (w:World)(pc:Int)(i:aM)(a:Nat)(p q g s:Nat)(zs:List Int)(A:Ac)(y:World):Prop:=
 ∃ xs' wr,xs'.length=8/\jl w y w.heap.size xs' pc i ⟨[],-1,a,wr,T,0⟩/\Mm y p q g s zs A.ws/\fD w y g/\Hid (A.c=⟨xs',pc+1⟩/\A.wrote=wr/\A.stay=T)
structure pz (n p q g s:Nat):Prop where
 p:p<n
 q:q<n
 g:g<n
 s:s<n
section
variable {w y y':World}{xs:List Int}{pc:Int}{i:aM}{o:Ot}{p q g s:Nat}{zs ws ys:List Int}
theorem j6 (hI:jl w y w.heap.size xs pc i o)(hM:Mm y p q g s zs ws)(hG:fD w y g)(hA:pz w.heap.size p q g s){b:Nat}(hb:w.heap.size<=b)(j:Nat)(u:Value):
 Mm (y.setCell ⟨b,j,Z⟩ u) p q g s zs ws/\fD w (y.setCell ⟨b,j,Z⟩ u) g:=by
 obtain⟨a1,a2,a3,a4⟩:=hA
 refine⟨hM.within (S:=fun i=>i=b) ((ab.refl y _).put b j u (.inl rfl)) (by omega) (by omega) (by omega) (by omega),aQ hG (dq y b j u) (.inr fun x e=>by injection e with e;omega)⟩
theorem Bn (hI:jl w y w.heap.size xs pc i o)(h8:xs.length=8){d:Nat}(hd:d<8)(v:Int):jl w (y.setCell ⟨w.heap.size,d,Z⟩ (I O v)) w.heap.size (xs.set d v) pc i o:=
 ⟨hI.c.set h8 hd v,Bk.off hI.i (p:=⟨w.heap.size,d,Z⟩) (by show w.heap.size+1≠w.heap.size;omega) _,Bk.off hI.r (p:=⟨w.heap.size,d,Z⟩) (by show w.heap.size+1+1≠w.heap.size;omega) _,Bk.off hI.e (p:=⟨w.heap.size,d,Z⟩) (by show w.heap.size+1+1+1≠w.heap.size;omega) _,Bk.off hI.o (p:=⟨w.heap.size,d,Z⟩) (by show w.heap.size+1+1+1+1≠w.heap.size;omega) _⟩
theorem ou (hI:jl w y w.heap.size xs pc i o)(b:Bool):jl w (y.setCell ⟨w.heap.size+1+1+1+1,3,Z⟩ (.bool b)) w.heap.size xs pc i { o with wrote:=b }:=
 ⟨Bk.off hI.c (p:=⟨w.heap.size+1+1+1+1,3,Z⟩) (by show w.heap.size≠w.heap.size+1+1+1+1;omega) _,Bk.off hI.i (p:=⟨w.heap.size+1+1+1+1,3,Z⟩) (by show w.heap.size+1≠w.heap.size+1+1+1+1;omega) _,Bk.off hI.r (p:=⟨w.heap.size+1+1+1+1,3,Z⟩) (by show w.heap.size+1+1≠w.heap.size+1+1+1+1;omega) _,Bk.off hI.e (p:=⟨w.heap.size+1+1+1+1,3,Z⟩) (by show w.heap.size+1+1+1≠w.heap.size+1+1+1+1;omega) _,hI.o.put 3 (.bool b)⟩
theorem ox (hI:jl w y w.heap.size xs pc i o)(hM:Mm y p q g s zs ws)(hG:fD w y g)(hA:pz w.heap.size p q g s)(hc:oR y' q g ys)(ho:fD y y' g)(hl:ys.length=ws.length):
 jl w y' w.heap.size xs pc i o/\Mm y' p q g s zs ys/\fD w y' g:=
 ⟨hI.within (S:=fun i=>i=g) (.ay ho (by rintro i e;injection e with e;exact .inl e.symm)) (fun j hj e=>by have:=hA.g;omega),hM.only hc ho hl,aQ hG ho (.inl rfl)⟩
end
def cr (y:World)(g:Nat)(a b c d e f:Value):World:=((((((y.setCell ⟨g,0,Z⟩ a).setCell ⟨g,1,Z⟩ b).setCell ⟨g,2,Z⟩ c).setCell ⟨g,3,Z⟩ d).setCell ⟨g,4,Z⟩ e).setCell ⟨g,5,Z⟩ f)
theorem cx {y:World}{g:Nat}{t:TypeId}{x0 x1 x2 x3 x4 x5:Value}(h:Bk y g t #[x0,x1,x2,x3,x4,x5])(a b c d e f:Value):Bk (cr y g a b c d e f) g t #[a,b,c,d,e,f]:=by
 have h8:=(((((h.put 0 a).put 1 b).put 2 c).put 3 d).put 4 e).put 5 f
 unfold cr
 simpa only[List.setIfInBounds_toArray,List.set_cons_zero,List.set_cons_succ] using h8
theorem mS {y:World}{g b:Nat}{t:TypeId}{cs:Array Value}(h:Bk y b t cs)(hne:b≠g)(a b' c d e f:Value):Bk (cr y g a b' c d e f) b t cs:=
 (((((h.off hne _).off hne _).off hne _).off hne _).off hne _).off hne _
theorem ba {y:World}{g:Nat}(a b c d e f:Value):ab y (cr y g a b c d e f) (fun i=>i=g):=
 ((((((ab.refl y (fun i=>i=g)).put g 0 a (.inl rfl)).put g 1 b (.inl rfl)).put g 2 c (.inl rfl)).put g 3 d (.inl rfl)).put g 4 e (.inl rfl)).put g 5 f (.inl rfl)
theorem rU {B:Nat}{w y:World}{g:Nat}(h:Below B w y)(hg:B<=g)(a b c d e f:Value):Below B w (cr y g a b c d e f):=
 (((((h.setCell hg _).setCell hg _).setCell hg _).setCell hg _).setCell hg _).setCell hg _
theorem gg {y:World}{g:Nat}(a b c d e f h i j:Value):ab y (bm y g a b c d e f h i j) (fun x=>x=g):=by
 unfold bm
 exact(((((((((ab.refl y (fun x=>x=g)).put _ 0 _ (.inl rfl)).put _ 1 _ (.inl rfl)).put _ 2 _ (.inl rfl)).put _ 3 _ (.inl rfl)).put _ 4 _ (.inl rfl)).put _ 5 _ (.inl rfl)).put _ 6 _ (.inl rfl)).put _ 7 _ (.inl rfl)).put _ 8 _ (.inl rfl)
theorem uh {w y:World}{xs0:List Int}{pc PC:Int}{i:aM}{o:Ot}{p q g s:Nat}{zs ws:List Int}(hI:jl w y w.heap.size xs0 pc i o)(hM:Mm y p q g s zs ws)(hG:fD w y g)(hA:pz w.heap.size p q g s){s0 s1 s2 s3 s4 s5 s6 s7:Int}{v0 v1 v2 v3 v4 v5:Value}:
 Cb ((cr (bm y (w.heap.size+1+1) (I O s0) (I O s1) (I O s2) (I O s3) (I O s4) (I O s5) (I O s6) (I O s7) (I Q PC)) (w.heap.size+1+1+1) v0 v1 v2 v3 v4 v5).drew) (w.heap.size+1+1) [s0,s1,s2,s3,s4,s5,s6,s7] PC/\
 Bk ((cr (bm y (w.heap.size+1+1) (I O s0) (I O s1) (I O s2) (I O s3) (I O s4) (I O s5) (I O s6) (I O s7) (I Q PC)) (w.heap.size+1+1+1) v0 v1 v2 v3 v4 v5).drew) (w.heap.size+1+1+1) 64 #[v0,v1,v2,v3,v4,v5]/\
 Mm ((cr (bm y (w.heap.size+1+1) (I O s0) (I O s1) (I O s2) (I O s3) (I O s4) (I O s5) (I O s6) (I O s7) (I Q PC)) (w.heap.size+1+1+1) v0 v1 v2 v3 v4 v5).drew) p q g s zs ws/\
 fD w ((cr (bm y (w.heap.size+1+1) (I O s0) (I O s1) (I O s2) (I O s3) (I O s4) (I O s5) (I O s6) (I O s7) (I Q PC)) (w.heap.size+1+1+1) v0 v1 v2 v3 v4 v5).drew) g:=by
 obtain⟨a1,a2,a3,a4⟩:=hA
 have hW1:=gg (y:=y) (g:=w.heap.size+1+1) (I O s0) (I O s1) (I O s2) (I O s3) (I O s4) (I O s5) (I O s6) (I O s7) (I Q PC)
 have h9:Cb (bm y (w.heap.size+1+1) (I O s0) (I O s1) (I O s2) (I O s3) (I O s4) (I O s5) (I O s6) (I O s7) (I Q PC)) (w.heap.size+1+1) [s0,s1,s2,s3,s4,s5,s6,s7] PC:=bu hI.r (I O s0) (I O s1) (I O s2) (I O s3) (I O s4) (I O s5) (I O s6) (I O s7) (I Q PC)
 have h9':Bk (bm y (w.heap.size+1+1) (I O s0) (I O s1) (I O s2) (I O s3) (I O s4) (I O s5) (I O s6) (I O s7) (I Q PC)) (w.heap.size+1+1+1) _ _:=dU hI.e (by omega) (I O s0) (I O s1) (I O s2) (I O s3) (I O s4) (I O s5) (I O s6) (I O s7) (I Q PC)
 generalize bm y (w.heap.size+1+1) (I O s0) (I O s1) (I O s2) (I O s3) (I O s4) (I O s5) (I O s6) (I O s7) (I Q PC)=z1 at *
 have hW2:=ba (y:=z1) (g:=w.heap.size+1+1+1) v0 v1 v2 v3 v4 v5
 have r1:Cb (cr z1 (w.heap.size+1+1+1) v0 v1 v2 v3 v4 v5) _ _ _:=mS h9 (by omega) v0 v1 v2 v3 v4 v5
 have r2:=cx h9' v0 v1 v2 v3 v4 v5
 generalize cr z1 (w.heap.size+1+1+1) v0 v1 v2 v3 v4 v5=z2 at *
 have hW:ab y z2 (fun i=>i=w.heap.size+1+1\/i=w.heap.size+1+1+1):=(hW1.wide (fun i e _=>.inl e)).bx hW2 (fun i e=>.inl (.inr e))
 refine⟨r1,r2,(hM.within hW (by omega) (by omega) (by omega) (by omega)).drewN 1,?_⟩
 have h1:w.grownBy y (P g):=hG
 refine eB (n:=1) ⟨hW.os.trans h1.os,hW.tape.trans h1.tape,hW.output.trans h1.output,Nat.le_trans h1.size hW.size,fun i hi hne=>?_⟩
 exact(hW.block i (Nat.lt_of_lt_of_le hi h1.size) (by omega)).trans (h1.block i hi hne)
structure gZ (w:World)(xs:List Int)(pc:Int)(i:aM)(o:Ot)(p q g s:Nat)(zs ws:List Int)(x:Nat)(W:World):Prop where
 ai:jl w W w.heap.size xs pc i o
 am:Mm W p q g s zs ws
 ao:fD w W g
 ax:W.cell? ⟨x,3,Z⟩=P (J (P ⟨p,0,Z⟩))
 al:x<w.heap.size
theorem gZ.below {w W W':World}{xs:List Int}{pc:Int}{i:aM}{o:Ot}{p q g s:Nat}{zs ws:List Int}{x:Nat}(h:gZ w xs pc i o p q g s zs ws x W)(hb:Below W.heap.size W W'):gZ w xs pc i o p q g s zs ws x W':=
 ⟨h.ai.within (av hb) (by simp),h.am.grown (bM hb),aQ h.ao (bM hb) (.inr (by simp)),(hb.cell (p:=⟨x,3,Z⟩) (Nat.lt_of_lt_of_le h.al h.ao.size)).trans h.ax,h.al⟩
def Dy (w:World)(i:aM)(a p q g s:Nat)(zs ws:List Int)(x:Nat)(c0 c1:kg)(st:Bool):Nat->World->Prop
 | 0,W=>gZ w c0.xs c0.pc i ⟨[],-1,a,T,T,0⟩ p q g s zs ws x W
 | 1,W=>gZ w c1.xs c1.pc i ⟨[],-1,a,T,T,0⟩ p q g s zs ws x W
 | _,W=>gZ w c1.xs c1.pc i ⟨[],-1,a,T,st,0⟩ p q g s zs ws x W
theorem sV {w:World}{i:aM}{a p q g s:Nat}{zs ws:List Int}{x:Nat}{c0 c1:kg}{st:Bool}{k:Nat}{W W':World}(h:Dy w i a p q g s zs ws x c0 c1 st k W)(hb:Below W.heap.size W W'):Dy w i a p q g s zs ws x c0 c1 st k W':=by
 match k,h with
 | 0,h=>exact gZ.below h hb
 | 1,h=>exact gZ.below h hb
 | _+2,h=>exact gZ.below h hb
theorem vZ {w W:World}{r0 r1 r2 r3 r4 r5 r6 r7 s0 s1 s2 s3 s4 s5 s6 s7 pc PC:Int}{i:aM}{o:Ot}{p q g s:Nat}{zs ws:List Int}{x:Nat}(hA:pz w.heap.size p q g s)(h:gZ w [r0,r1,r2,r3,r4,r5,r6,r7] pc i o p q g s zs ws x W):
 gZ w [s0,s1,s2,s3,s4,s5,s6,s7] PC i o p q g s zs ws x (bm W w.heap.size (I O s0) (I O s1) (I O s2) (I O s3) (I O s4) (I O s5) (I O s6) (I O s7) (I Q PC)):=by
 obtain⟨j1,j2,j3,j4,j5⟩:=h
 obtain⟨a1,a2,a3,a4⟩:=hA
 have hW:=gg (y:=W) (g:=w.heap.size) (I O s0) (I O s1) (I O s2) (I O s3) (I O s4) (I O s5) (I O s6) (I O s7) (I Q PC)
 have h1:Cb (bm W w.heap.size (I O s0) (I O s1) (I O s2) (I O s3) (I O s4) (I O s5) (I O s6) (I O s7) (I Q PC)) w.heap.size [s0,s1,s2,s3,s4,s5,s6,s7] PC:=bu j1.c (I O s0) (I O s1) (I O s2) (I O s3) (I O s4) (I O s5) (I O s6) (I O s7) (I Q PC)
 generalize bm W w.heap.size (I O s0) (I O s1) (I O s2) (I O s3) (I O s4) (I O s5) (I O s6) (I O s7) (I Q PC)=z at *
 refine⟨⟨h1,Bk.within j1.i hW (by omega),Bk.within j1.r hW (by omega),j1.e.within hW (by omega),j1.o.within hW (by omega)⟩,j2.within hW (by omega) (by omega) (by omega) (by omega),?_,?_,j5⟩
 ·have h2:w.grownBy W (P g):=j3
  exact⟨hW.os.trans h2.os,hW.tape.trans h2.tape,hW.output.trans h2.output,Nat.le_trans h2.size hW.size,fun i hi hne=>(hW.block i (Nat.lt_of_lt_of_le hi h2.size) (by omega)).trans (h2.block i hi hne)⟩
 ·rw[<-j4]
  exact World.cell?_of_block (hW.block x (Nat.lt_of_lt_of_le j5 j3.size) (by omega))
theorem vY {w W:World}{xs:List Int}{pc:Int}{i:aM}{a p q g s:Nat}{zs ws:List Int}{x:Nat}(hA:pz w.heap.size p q g s)(h:gZ w xs pc i ⟨[],-1,a,T,T,0⟩ p q g s zs ws x W)(st:Bool):
 gZ w xs pc i ⟨[],-1,a,T,st,0⟩ p q g s zs ws x (W.setCell ⟨w.heap.size+1+1+1+1,4,Z⟩ (.bool st)):=by
 obtain⟨j1,j2,j3,j4,j5⟩:=h
 obtain⟨k1,k2⟩:=j6 j1 j2 j3 hA (b:=w.heap.size+1+1+1+1) (by omega) 4 (.bool st)
 refine⟨⟨Bk.off j1.c (p:=⟨w.heap.size+1+1+1+1,4,Z⟩) (by show w.heap.size≠w.heap.size+1+1+1+1;omega) _,Bk.off j1.i (p:=⟨w.heap.size+1+1+1+1,4,Z⟩) (by show w.heap.size+1≠w.heap.size+1+1+1+1;omega) _,Bk.off j1.r (p:=⟨w.heap.size+1+1+1+1,4,Z⟩) (by show w.heap.size+1+1≠w.heap.size+1+1+1+1;omega) _,Bk.off j1.e (p:=⟨w.heap.size+1+1+1+1,4,Z⟩) (by show w.heap.size+1+1+1≠w.heap.size+1+1+1+1;omega) _,j1.o.put 4 (.bool st)⟩,k1,k2,?_,j5⟩
 rw[<-j4]
 exact cj (by omega)
end
