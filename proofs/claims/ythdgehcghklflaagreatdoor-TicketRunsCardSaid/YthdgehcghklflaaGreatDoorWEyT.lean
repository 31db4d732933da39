import Derived.Test.YthdgehcghklflaaGreatDoorWExC
import Derived.Test.YthdgehcghklflaaGreatDoorWExN
import Derived.Test.YthdgehcghklflaaGreatDoorWArR
import Derived.Test.YthdgehcghklflaaGreatDoorWPrgM
import Derived.Test.YthdgehcghklflaaGreatDoorWTkD
import Derived.BigQuiet
set_option linter.unusedVariables false
set_option maxHeartbeats 1000000
set_option maxRecDepth 100000
open Go.Value renaming int->I,slice->V
open Go.IntKind renaming i64->Q
open Option renaming none->N,some->O
open Bool renaming false->Z
open Go.Obj renaming cells->T
open Go.Lib renaming hid->U
open Go.RowKit.Below renaming refl->K
open Nat renaming le_refl->J
namespace Go.Proofs.YthdgehcghklflaaGreatDoor
open Go.ChangeShapes Go.WideShapes Go.ChangeAt Go.RowKit
def zi (k:Lk):Prop:=∀ (w:World) (Y:YP) (m:Mc) (t:Nat) (L:Int),Ey w Y k m->t<k.n->
 Calls Tryz.prog 25 #[.pointer (O ⟨Y.y,0,N⟩),I Q t,I Q L] w (fB w Y k (dx k m t (decide (L≠0))))
structure SI (w:World)(Y0:YP)(k:Lk)(xs:List Int)(pc:Int)(Y:YP)(m:Mc)(W:World):Prop where
 ey:Ey W Y k m
 st:bA w k.n Y0 W Y
 q:Bk W w.heap.size 67 #[V N 0 0,I Q 0,I Q 0,I Q 0,I Q 0,I Q 0]
 c:Rb W (w.heap.size+1) xs pc
 tr:Bk W (w.heap.size+1+1) 67 #[V N 0 0,I Q (-1),I Q (-1),I Q 0,I Q 0,I Q 11]
 iI:∀ i,Y.Own k.n i->i<w.heap.size\/w.heap.size+4<=i
section
variable {w W W':World}{Y0 Y:YP}{k:Lk}{m:Mc}{xs:List Int}{pc:Int}
theorem SI.below (h:SI w Y0 k xs pc Y m W)(hb:Below W.heap.size W W'):SI w Y0 k xs pc Y m W':=
 ⟨h.ey.below hb,h.st.grown hb,(hb.block _ h.q.lt).trans h.q,h.c.below hb,(hb.block _ h.tr.lt).trans h.tr,h.iI⟩
theorem SI.off (h:SI w Y0 k xs pc Y m W){b:Nat}(hW:ab W W' (fun i=>i=b))(h1:w.heap.size+1<b)(h2:b≠w.heap.size+1+1)(h3:∀ i,Y.Own k.n i->i≠b):SI w Y0 k xs pc Y m W':=
 ⟨h.ey.kept hW (fun i hi e=>h3 i hi e),h.st.oP hW (fun i e=>by omega),h.q.within hW (by omega),Bk.within h.c hW (by omega),h.tr.within hW (by omega),h.iI⟩
theorem SI.core {ys:List Int}{pc':Int}(h:SI w Y0 k xs pc Y m W)(hW:ab W W' (fun i=>i=w.heap.size+1))(hc:Rb W' (w.heap.size+1) ys pc'):SI w Y0 k ys pc' Y m W':=
 ⟨h.ey.kept hW (fun i hi e=>by have:=h.iI i hi;omega),h.st.oP hW (fun i e=>by omega),h.q.within hW (by omega),hc,h.tr.within hW (by omega),h.iI⟩
theorem SI.Do (h:SI w Y0 k xs pc Y m W)(h8:xs.length=8){d:Nat}(hd:d<8)(v:Int):SI w Y0 k (xs.set d v) pc Y m (W.setCell ⟨w.heap.size+1,d,N⟩ (I Q v)):=
 h.core ((ab.refl _ (fun i=>i=w.heap.size+1)).put _ _ _ (.inl rfl)) (h.c.set h8 hd v)
theorem SI.place (h:SI w Y0 k xs pc Y m W)(h8:xs.length=8)(v:Int):SI w Y0 k xs v Y m (W.setCell ⟨w.heap.size+1,8,N⟩ (I Q v)):=
 h.core ((ab.refl _ (fun i=>i=w.heap.size+1)).put _ _ _ (.inl rfl)) (h.c.wB h8 v)
theorem SI.jb {b:Nat}{i:aJ}(hJ:Jb W b i)(hW:ab W W' (fun i=>i=w.heap.size+1))(hb:w.heap.size+1<b):Jb W' b i:=Bk.within hJ hW (by omega)
theorem dd (W:World)(g o:Nat)(v:Value):ab W (W.setCell ⟨g,o,N⟩ v) (fun i=>i=g):=(ab.refl _ (fun i=>i=g)).put _ _ _ (.inl rfl)
theorem bc (x:World)(n:Nat):Below x.heap.size x (x.drewN n):=⟨rfl,rfl,rfl,J _,fun _ _=>rfl⟩
theorem wrap_u32 {x:Int}(h:0<=x/\x<4294967296):x % 4294967296=x:=by omega
theorem Cv {i:aJ}(h:Bm i)(hm:cW i.op=Z):i.op<16:=by
 have ho:=h.op
 unfold cW at hm
 simp at hm
 omega
end
section
variable {w w':World}{Y:YP}{k:Lk}{m:Mc}
theorem Dz (h:Ey w Y k m)(t:Nat)(ht:t<k.n)(late:Int)(hm:gV k (m.cs t).pc=N):
 Calls Tryz.prog 25 #[.pointer (O ⟨Y.y,0,N⟩),I Q t,I Q late] w (fB w Y k (m,eZ)):=by
 have hnn:=h.lk.n64
 have hl64:=h.lk.parts.2.1
 obtain⟨r0,r1,r2,r3,r4,r5,r6,r7,pc,ec⟩:=h.bB ht
 have hx8:bg [r0,r1,r2,r3,r4,r5,r6,r7]:=by have:=h.mc.cs t ht;rw[ec] at this;exact this
 have HX:=U h
 rw[ec] at hm
 have q0:=Bk.made w 67 #[V N 0 0,I Q 0,I Q 0,I Q 0,I Q 0,I Q 0]
 have b0:Below w.heap.size w (w.alloc (T #[V N 0 0,I Q 0,I Q 0,I Q 0,I Q 0,I Q 0] 67)):=(K _ _).alloc (J _) _
 have s0:(w.alloc (T #[V N 0 0,I Q 0,I Q 0,I Q 0,I Q 0,I Q 0] 67)).heap.size=w.heap.size+1:=by simp
 go_enter Tryz.func25,Tryz.ntmps25
 go_upto_region 1 with fail
 generalize w.alloc (T #[V N 0 0,I Q 0,I Q 0,I Q 0,I Q 0,I Q 0] 67)=y at *
 have h2:=h.below b0
 obtain⟨gk,capk,ek,hk1,hk2,hkb,hkf,-⟩:=h2.oO
 unfold maxLen at hk2
 have cx6:=h2.c6
 rw[ek] at cx6
 obtain⟨c0,c1,c2,c3,c4,c5,c6,c7,c8⟩:=h2.core ht ec ek
 go_upto_region 2 with fail
 have q1:=Rb.made y [r0,r1,r2,r3,r4,r5,r6,r7] pc
 have s1:(y.alloc (T #[I Q r0,I Q r1,I Q r2,I Q r3,I Q r4,I Q r5,I Q r6,I Q r7,I Q pc] 112)).heap.size=w.heap.size+1+1:=by rw[World.size_alloc,s0]
 rw[s0] at q1
 simp only[da,List.map_cons,List.map_nil,List.cons_append,List.nil_append] at q1
 have b1:Below y.heap.size y (y.alloc (T #[I Q r0,I Q r1,I Q r2,I Q r3,I Q r4,I Q r5,I Q r6,I Q r7,I Q pc] 112)):=(K _ _).alloc (J _) _
 replace q0:=(b1.block _ q0.lt).trans q0
 have h3:=h2.below b1
 replace b0:=b0.trans (b1.mono b0.size)
 clear c0 c1 c2 c3 c4 c5 c6 c7 c8 cx6 h2 b1 hkf s0 h hk1 hk2 hkb ek
 generalize y.alloc (T #[I Q r0,I Q r1,I Q r2,I Q r3,I Q r4,I Q r5,I Q r6,I Q r7,I Q pc] 112)=z at *
 go_upto_region 3 with fail
 have b1:Below z.heap.size z (z.alloc (T #[V N 0 0,I Q (-1),I Q (-1),I Q 0,I Q 0,I Q 11] 67)):=(K _ _).alloc (J _) _
 have q2:=Bk.made z 67 #[V N 0 0,I Q (-1),I Q (-1),I Q 0,I Q 0,I Q 11]
 have s2:(z.alloc (T #[V N 0 0,I Q (-1),I Q (-1),I Q 0,I Q 0,I Q 11] 67)).heap.size=w.heap.size+1+1+1:=by rw[World.size_alloc,s1]
 rw[s1] at q2
 have hS:SI w Y k [r0,r1,r2,r3,r4,r5,r6,r7] pc Y m (z.alloc (T #[V N 0 0,I Q (-1),I Q (-1),I Q 0,I Q 0,I Q 11] 67)):=⟨h3.below b1,(bA.ay b0).grown b1,(b1.block _ (Bk.lt q0)).trans q0,(b1.block _ (Bk.lt q1)).trans q1,q2,fun i hi=>.inl (HX.out.lt hi)⟩
 clear h3 b0 b1 q0 q1 q2 s1
 have HS2:=U s2
 clear s2
 generalize z.alloc (T #[V N 0 0,I Q (-1),I Q (-1),I Q 0,I Q 0,I Q 11] 67)=x at *
 have HS:=U hS
 have cx0:=hS.ey.c0
 obtain⟨hpv,aV,cV,eV⟩:=hS.ey.pv
 rw[eV] at cx0 hpv
 obtain⟨a2,ca2,e2,_,_,_,hsl⟩:=hpv
 simp only[Value.agg.injEq,Array.mk.injEq,List.cons.injEq,Value.slice.injEq,and_true,true_and] at e2
 obtain⟨rfl,rfl⟩:=e2
 have HV:=U eV
 clear eV
 obtain⟨c0,c1,c2,c3,c4,c5,c6,c7,c8⟩:=hS.c.cells
 rcases oh hm with h1 | h1 | ⟨j,h1,h2,h3,h4⟩
 ·clear hm
  simp only at h1
  clear hsl hS
  go_quiet (fail)
  go_upto_region 4 with fail
  have hS3:=HS.out.below (bc x nq)
  clear c0 c1 c2 c3 c4 c5 c6 c7 c8 cx0
  generalize x.drewN nq=v at *
  obtain⟨t0,t1,t2,t3,t4,t5⟩:=hS3.tr.g9
  have q5:=hS3.q
  have HT:=U hS3
  obtain⟨x0,x1,x2,x3,x4,x5⟩:=q5.g9
  have zf:=Bk.free q5
  have o1:=cE q5 (V N 0 0) (I Q (-1)) (I Q (-1)) (I Q 0) (I Q 0) (I Q 11)
  have o2:=ba (y:=v) (g:=w.heap.size) (V N 0 0) (I Q (-1)) (I Q (-1)) (I Q 0) (I Q 0) (I Q 11)
  have hC:=U (dq (Y:=Y) (r:=(m,eZ)) (v:=V N 0 0) (eG.nil _ _ _) HT.out.ey HT.out.st HT.out.q (by decide) o2 (J _) (fun i hi e=>by have:=HT.out.iI i hi;omega))
  clear hS3 o2 HT
  go_wp2_with (refine bodyPost_ret (v:=.agg #[V N 0 0,I Q (-1),I Q (-1),I Q 0,I Q 0,I Q 11]) (w:=cC v w.heap.size (V N 0 0) (I Q (-1)) (I Q (-1)) (I Q 0) (I Q 0) (I Q 11)) ?hres rfl ?hpost)
  case hpost=>exact hC.out
  case hres=>
   generalize cC v w.heap.size (V N 0 0) (I Q (-1)) (I Q (-1)) (I Q 0) (I Q 0) (I Q 11)=v9 at *
   obtain⟨o0,o1,o2,o3,o4,o5⟩:=o1.g9
   simp[results,Tryz.results25,go_sem,o0,o1,o2,o3,o4,o5]
 ·clear hm
  simp only at h1
  by_cases h0:pc<0
  ·clear h1
   have h1:=h0
   clear hsl hS
   go_quiet (fail)
   go_upto_region 4 with fail
   have hS3:=HS.out.below (bc x nq)
   clear c0 c1 c2 c3 c4 c5 c6 c7 c8 cx0
   generalize x.drewN nq=v at *
   obtain⟨t0,t1,t2,t3,t4,t5⟩:=hS3.tr.g9
   have q5:=hS3.q
   have HT:=U hS3
   obtain⟨x0,x1,x2,x3,x4,x5⟩:=q5.g9
   have zf:=Bk.free q5
   have o1:=cE q5 (V N 0 0) (I Q (-1)) (I Q (-1)) (I Q 0) (I Q 0) (I Q 11)
   have o2:=ba (y:=v) (g:=w.heap.size) (V N 0 0) (I Q (-1)) (I Q (-1)) (I Q 0) (I Q 0) (I Q 11)
   have hC:=U (dq (Y:=Y) (r:=(m,eZ)) (v:=V N 0 0) (eG.nil _ _ _) HT.out.ey HT.out.st HT.out.q (by decide) o2 (J _) (fun i hi e=>by have:=HT.out.iI i hi;omega))
   clear hS3 o2 HT
   go_wp2_with (refine bodyPost_ret (v:=.agg #[V N 0 0,I Q (-1),I Q (-1),I Q 0,I Q 0,I Q 11]) (w:=cC v w.heap.size (V N 0 0) (I Q (-1)) (I Q (-1)) (I Q 0) (I Q 0) (I Q 11)) ?hres rfl ?hpost)
   case hpost=>exact hC.out
   case hres=>
    generalize cC v w.heap.size (V N 0 0) (I Q (-1)) (I Q (-1)) (I Q 0) (I Q 0) (I Q 11)=v9 at *
    obtain⟨o0,o1,o2,o3,o4,o5⟩:=o1.g9
    simp[results,Tryz.results25,go_sem,o0,o1,o2,o3,o4,o5]
  have d0:decide (pc<0)=Z:=by simp;omega
  have d1:pc>=(k.l.length:Int):=h1
  clear hsl hS
  go_quiet (fail)
  go_upto_region 4 with fail
  have hS3:=HS.out.below (bc x nq)
  clear c0 c1 c2 c3 c4 c5 c6 c7 c8 cx0
  generalize x.drewN nq=v at *
  obtain⟨t0,t1,t2,t3,t4,t5⟩:=hS3.tr.g9
  have q5:=hS3.q
  have HT:=U hS3
  obtain⟨x0,x1,x2,x3,x4,x5⟩:=q5.g9
  have zf:=Bk.free q5
  have o1:=cE q5 (V N 0 0) (I Q (-1)) (I Q (-1)) (I Q 0) (I Q 0) (I Q 11)
  have o2:=ba (y:=v) (g:=w.heap.size) (V N 0 0) (I Q (-1)) (I Q (-1)) (I Q 0) (I Q 0) (I Q 11)
  have hC:=U (dq (Y:=Y) (r:=(m,eZ)) (v:=V N 0 0) (eG.nil _ _ _) HT.out.ey HT.out.st HT.out.q (by decide) o2 (J _) (fun i hi e=>by have:=HT.out.iI i hi;omega))
  clear hS3 o2 HT
  go_wp2_with (refine bodyPost_ret (v:=.agg #[V N 0 0,I Q (-1),I Q (-1),I Q 0,I Q 0,I Q 11]) (w:=cC v w.heap.size (V N 0 0) (I Q (-1)) (I Q (-1)) (I Q 0) (I Q 0) (I Q 11)) ?hres rfl ?hpost)
  case hpost=>exact hC.out
  case hres=>
   generalize cC v w.heap.size (V N 0 0) (I Q (-1)) (I Q (-1)) (I Q 0) (I Q 0) (I Q 11)=v9 at *
   obtain⟨o0,o1,o2,o3,o4,o5⟩:=o1.g9
   simp[results,Tryz.results25,go_sem,o0,o1,o2,o3,o4,o5]
 ·clear hm
  simp only at h1 h2 h3
  obtain⟨n,rfl⟩:=Int.eq_ofNat_of_zero_le h1
  rw[Int.toNat_natCast] at h3
  obtain⟨g,off,rfl,hgl,f0,f1,f2,f3,f4,f5,f6,f7⟩:=hsl.at_ h3
  have d0:decide ((n:Int)<0)=Z:=by simp
  have d1:decide ((n:Int)>=(k.l.length:Int))=Z:=by simp;omega
  have d4:decide (k.l.length<=n)=Z:=by simp;omega
  have d2:j.op<16:=Cv (HX.out.lk.ok j (List.mem_of_getElem? h3)) h4
  have d3:(n:Int)<k.l.length:=h2
  clear hsl hS f1 f2 f3 f4 f5 f6 f7 h3 h4 h1
  go_quiet (fail)
  go_upto_region 4 with fail
  have hS3:=HS.out.below (bc x nq)
  clear c0 c1 c2 c3 c4 c5 c6 c7 c8 cx0
  generalize x.drewN nq=v at *
  obtain⟨t0,t1,t2,t3,t4,t5⟩:=hS3.tr.g9
  have q5:=hS3.q
  have HT:=U hS3
  obtain⟨x0,x1,x2,x3,x4,x5⟩:=q5.g9
  have zf:=Bk.free q5
  have o1:=cE q5 (V N 0 0) (I Q (-1)) (I Q (-1)) (I Q 0) (I Q 0) (I Q 11)
  have o2:=ba (y:=v) (g:=w.heap.size) (V N 0 0) (I Q (-1)) (I Q (-1)) (I Q 0) (I Q 0) (I Q 11)
  have hC:=U (dq (Y:=Y) (r:=(m,eZ)) (v:=V N 0 0) (eG.nil _ _ _) HT.out.ey HT.out.st HT.out.q (by decide) o2 (J _) (fun i hi e=>by have:=HT.out.iI i hi;omega))
  clear hS3 o2 HT
  go_wp2_with (refine bodyPost_ret (v:=.agg #[V N 0 0,I Q (-1),I Q (-1),I Q 0,I Q 0,I Q 11]) (w:=cC v w.heap.size (V N 0 0) (I Q (-1)) (I Q (-1)) (I Q 0) (I Q 0) (I Q 11)) ?hres rfl ?hpost)
  case hpost=>exact hC.out
  case hres=>
   generalize cC v w.heap.size (V N 0 0) (I Q (-1)) (I Q (-1)) (I Q 0) (I Q 0) (I Q 11)=v9 at *
   obtain⟨o0,o1,o2,o3,o4,o5⟩:=o1.g9
   simp[results,Tryz.results25,go_sem,o0,o1,o2,o3,o4,o5]
end
theorem qd {w W W':World}{n:Nat}{X X':XP}(b:Below w.heap.size w W)(hO:∀ i,X.Own n i->w.heap.size<=i)(s:bh W n X W' X'):Below w.heap.size w W'/\∀ i,X'.Own n i->w.heap.size<=i:=
 ⟨⟨s.1.os.trans b.os,s.1.tape.trans b.tape,s.1.output.trans b.output,Nat.le_trans b.size s.1.size,fun i hi=>(s.1.block i (Nat.lt_of_lt_of_le hi b.size) (fun e=>by have:=hO i (XP.iN e);omega)).trans (b.block i hi)⟩,
  fun i hi=>by
   rcases s.2.1 i hi with e | e
   ·exact hO i e
   ·exact Nat.le_trans b.size e⟩
theorem xg {W:World}{cap0:Nat}{a0:Option Addr}{xs:List Int}(h:dM .u32 W a0 xs)(hm:xs.length<=100000):
 ∃ v' W',(Builtin.append_ #[27,27] 27 #[V N 0 0,V a0 xs.length cap0]).run Tryz.prog W=.ok v' W'/\eG .u32 22 W' v' xs/\Below W.heap.size W W'/\∀ g,v'.ownBlock=O g->W.heap.size<=g:=by
 obtain⟨i0,hi0,hz0,hz1,hz2⟩:=info_parts tO
 by_cases h0:xs=[]
 ·subst h0
  refine⟨V N 0 0,W,?_,eG.nil _ _ _,K _ _,fun g e=>by cases e⟩
  have hu:Tryz.prog.underlying 27=O (.slice 22):=Tryz.underlying27
  have hl:∀ (x:Addr),(loadCells x 0).run Tryz.prog W=.ok #[] W:=fun x=>by simpa using run_loadCells_list (P:=Tryz.prog) W x [] (by simp)
  cases a0 <;> simp[Builtin.append_,run_underlying hu,sizeOf,typeInfo,hi0,Builtin.lenOf,Builtin.firstCells,hl]
 ·obtain⟨b',off,rfl,hlt,hc⟩:=h (List.length_pos_iff.2 h0)
  obtain⟨v',W',hr,ho,hg,_⟩:=run_append_own (P:=Tryz.prog) W W.heap.size 27 27 22 i0 _ 1 4 Tryz.underlying27 hi0 hz0 hz1 hz2 rfl (by omega) (V N 0 0) 0 [] (World.ownsRow_nil _ _ _ _) ⟨b',off,N⟩ xs.length cap0 (xs.map (Value.int .u32)) (by simp) (oA hc) (by intro u hu;simp at hu;obtain⟨x,_,rfl⟩:=hu;rfl) (by unfold maxLen;omega) (by omega) (J _)
  rw[Nat.zero_add,List.nil_append] at ho
  exact⟨v',W',hr,World.ownsRow.mono (base':=0) ho (Nat.zero_le _),aP hg,fun g e=>(World.ownsRow.lt ho g e).1⟩
structure rG (w:World)(base:Nat)(k:Lk)(Y:YP)(ws:List Int)(cs:Nat->kF)(j:Nat)(W:World):Prop where
 ptr:Bk W Y.y 91 #[Y.cv,I Q k.lo,I Q k.un,Y.cl,Y.wl,.pointer (O ⟨Y.x,0,N⟩),Y.kl,I Q Y.ac]
 code:W.ownsRow 0 125 8 Y.cv k.l.length (bH k.l)
 cells:Cs 0 W Y.cl (nE k.zs)
 words:eG .u32 22 W Y.wl ws
 d9:Rf W Y.x k.n k.each Y.R (oM k.n k.each).free (oM k.n k.each).gen (oM k.n k.each).out
 cores:W.ownsRow w.heap.size 112 9 Y.kl j (fx cs j)
 gr:Below w.heap.size w W
 newy:w.heap.size<=Y.y
 new:∀ i,Y.Own k.n i->base<=i/\(Y.cv.ownBlock=O i\/w.heap.size<=i)
section
variable {w W W':World}{base:Nat}{k:Lk}{Y:YP}{ws:List Int}{cs:Nat->kF}{j:Nat}
theorem rG.kept (h:rG w base k Y ws cs j W){S:Nat->Prop}(hw:ab W W' S)(hn:∀ i,S i->w.heap.size<=i)(h1:¬ S Y.y)(h2:∀ g,Y.cv.ownBlock=O g->¬ S g)(h3:∀ g,Y.cl.ownBlock=O g->¬ S g)(h4:∀ g,Y.wl.ownBlock=O g->¬ S g)(h5:¬ S Y.x)(h6:∀ g,Y.kl.ownBlock=O g->¬ S g)(h7:∀ i,Y.R.Has k.n i->¬ S i):rG w base k Y ws cs j W':=
 ⟨h.ptr.within hw h1,aq h.code hw h2,h.cells.within hw h3,h.words.within hw h4,h.d9.kept hw h5 h7,aq h.cores hw h6,
  ⟨hw.os.trans h.gr.os,hw.tape.trans h.gr.tape,hw.output.trans h.gr.output,Nat.le_trans h.gr.size hw.size,fun i hi=>(hw.block i (Nat.lt_of_lt_of_le hi h.gr.size) (fun e=>by have:=hn i e;omega)).trans (h.gr.block i hi)⟩,h.newy,h.new⟩
theorem rG.below (h:rG w base k Y ws cs j W)(hb:Below W.heap.size W W'):rG w base k Y ws cs j W':=
 h.kept (av hb) (by simp) (by simp) (by simp) (by simp) (by simp) (by simp) (by simp) (by simp)
theorem rG.B0 (h:rG w base k Y [] cs j W){v:Value}(hl:eG .u32 22 W v ws)(hn:∀ g,v.ownBlock=O g->base<=g/\w.heap.size<=g):rG w base k { Y with wl:=v } ws cs j (W.setCell ⟨Y.y,4,N⟩ v):=by
 have hW:=dd W Y.y 4 v
 have iI:∀ {g:Nat} {t:TypeId} {c:Array Value},Bk W g t c->t≠91->g≠Y.y:=fun hb ht e=>Bk.aj hb h.ptr ht e
 refine⟨h.ptr.put 4 v,aq h.code hW (fun g e=>?_),h.cells.within hW (fun g e=>?_),hl.within hW (fun g e=>?_),h.d9.kept hW (iI h.d9.ptr (by decide)) (fun i hi e=>Rf.dN h.d9 h.ptr (by decide) (by decide) (e ▸ hi)),aq h.cores hW (fun g e=>?_),
  h.gr.setCell (p:=⟨Y.y,4,N⟩) h.newy v,h.newy,fun i hi=>?_⟩
 ·obtain⟨c,hc⟩:=aZ h.code e;exact iI hc (by decide)
 ·obtain⟨c,hc⟩:=aZ h.cells e;exact iI hc (by decide)
 ·obtain⟨c,hc⟩:=hl.bk e;exact iI hc (by decide)
 ·obtain⟨c,hc⟩:=aZ h.cores e;exact iI hc (by decide)
 ·rcases hi with e | e | e | e | e | e | e
  ·exact h.new i (.inl e)
  ·exact h.new i (.inr (.inl e))
  ·exact h.new i (.inr (.inr (.inl e)))
  ·exact⟨(hn i e).1,.inr (hn i e).2⟩
  ·exact h.new i (.inr (.inr (.inr (.inr (.inl e)))))
  ·exact h.new i (.inr (.inr (.inr (.inr (.inr (.inl e))))))
  ·exact h.new i (.inr (.inr (.inr (.inr (.inr (.inr e))))))
theorem rG.grow (h:rG w base k Y ws cs j W)(hg:W.grownBy W' Y.kl.ownBlock)(hn:∀ g,Y.kl.ownBlock=O g->w.heap.size<=g):
 Bk W' Y.y 91 #[Y.cv,I Q k.lo,I Q k.un,Y.cl,Y.wl,.pointer (O ⟨Y.x,0,N⟩),Y.kl,I Q Y.ac]/\∀ v,W'.ownsRow w.heap.size 112 9 v (j+1) (fx cs (j+1))->base<=w.heap.size->rG w base k { Y with kl:=v } ws cs (j+1) (W'.setCell ⟨Y.y,6,N⟩ v):=by
 have hw:ab W W' (fun i=>Y.kl.ownBlock=O i):=.ay hg (fun i e=>.inl e)
 have iI:∀ {g:Nat} {t:TypeId} {c:Array Value},Bk W g t c->t≠112->¬ Y.kl.ownBlock=O g:=fun hb ht e=>by
  obtain⟨c,hc⟩:=aZ h.cores e
  exact Bk.aj hb hc ht rfl
 have hp:=h.ptr.within hw (iI h.ptr (by decide))
 refine⟨hp,fun v hv hbase=>?_⟩
 have hW:=dd W' Y.y 6 v
 have far2:∀ {g:Nat} {t:TypeId} {c:Array Value},Bk W' g t c->t≠91->g≠Y.y:=fun hb ht e=>Bk.aj hb hp ht e
 have k1:W'.ownsRow 0 125 8 Y.cv k.l.length (bH k.l):=aq h.code hw (fun g e=>by obtain⟨c,hc⟩:=aZ h.code e;exact iI hc (by decide))
 have k2:Cs 0 W' Y.cl (nE k.zs):=h.cells.within hw (fun g e=>by obtain⟨c,hc⟩:=aZ h.cells e;exact iI hc (by decide))
 have k3:eG .u32 22 W' Y.wl ws:=h.words.within hw (fun g e=>by obtain⟨c,hc⟩:=h.words.bk e;exact iI hc (by decide))
 have k4:=h.d9.kept hw (iI h.d9.ptr (by decide)) (fun i hi=>by
  obtain⟨t,c,hb,ht⟩:=h.d9.bk hi
  exact iI hb (by rcases ht with rfl|rfl <;> decide))
 refine⟨hp.put 6 v,aq k1 hW (fun g e=>?_),k2.within hW (fun g e=>?_),k3.within hW (fun g e=>?_),k4.kept hW (far2 k4.ptr (by decide)) (fun i hi e=>Rf.dN k4 hp (by decide) (by decide) (e ▸ hi)),aq hv hW (fun g e=>?_),?_,h.newy,fun i hi=>?_⟩
 ·obtain⟨c,hc⟩:=aZ k1 e;exact far2 hc (by decide)
 ·obtain⟨c,hc⟩:=aZ k2 e;exact far2 hc (by decide)
 ·obtain⟨c,hc⟩:=k3.bk e;exact far2 hc (by decide)
 ·obtain⟨c,hc⟩:=aZ hv e;exact far2 hc (by decide)
 ·have hb:Below w.heap.size w W':=⟨hw.os.trans h.gr.os,hw.tape.trans h.gr.tape,hw.output.trans h.gr.output,Nat.le_trans h.gr.size hw.size,fun i hi=>(hw.block i (Nat.lt_of_lt_of_le hi h.gr.size) (fun e=>by have:=hn i e;omega)).trans (h.gr.block i hi)⟩
  exact hb.setCell (p:=⟨Y.y,6,N⟩) h.newy v
 ·rcases hi with e | e | e | e | e | e | e
  ·exact h.new i (.inl e)
  ·exact h.new i (.inr (.inl e))
  ·exact h.new i (.inr (.inr (.inl e)))
  ·exact h.new i (.inr (.inr (.inr (.inl e))))
  ·exact h.new i (.inr (.inr (.inr (.inr (.inl e)))))
  ·exact⟨Nat.le_trans hbase (World.ownsRow.lt hv i e).1,.inr (World.ownsRow.lt hv i e).1⟩
  ·exact h.new i (.inr (.inr (.inr (.inr (.inr (.inr e))))))
theorem rG.ey {init r7:List Int}(h:rG w base k Y init (oN k init r7).cs k.n W)(hk:mz k)(hi:init.length=jU k.zs)(hiu:fM init)(hru:fM r7):Ey W Y k (oN k init r7):=by
 refine⟨h.ptr,h.code,h.cells,h.words,h.d9,⟨_,_,_,qA k.n k.each hk.n64 hk.each⟩,mX h.cores,hk,⟨hiu,hi,fun t ht=>⟨rfl,?_⟩⟩⟩
 intro x hx
 simp only[oN,List.mem_cons,List.not_mem_nil,or_false] at hx
 have:=hru.at_ t
 omega
end
section
variable {w w' W W':World}{Y Y0 Y':YP}{k:Lk}{m m':Mc}{xs:List Int}{pc:Int}
theorem SI.d9 (h:SI w Y0 k xs pc Y m W)(hz:w.heap.size+4<=W.heap.size)(e:Ey W' Y' k m')(s:bA W k.n Y W' Y'):SI w Y0 k xs pc Y' m' W':=
 ⟨e,h.st.bz s,h.q.within s.1 (fun e=>by have:=h.iI _ e;omega),Bk.within h.c s.1 (fun e=>by have:=h.iI _ e;omega),h.tr.within s.1 (fun e=>by have:=h.iI _ e;omega),fun i hi=>by
  rcases s.2.1 i hi with q | q
  ·exact h.iI i q
  ·exact .inr (by omega)⟩
theorem lR {zs:List Int}{area x:Int}{A:Nat}(h:fz zs area x=O A):A<jU zs:=by
 unfold fz at h
 split at h
 ·rename_i hc
  injection h with h
  obtain⟨B,rfl⟩:=Int.eq_ofNat_of_zero_le hc.1
  have:=tA (zs:=zs) (a:=B) (p:=(x % 4096).toNat) (by omega) (by have:=hc.2.2;rw[Int.toNat_natCast] at this;omega)
  rw[Int.toNat_natCast] at h
  omega
 ·cases h
def So (W:World)(b A:Nat)(WR ST D:Int):Prop:=Bk W b 67 #[V N 0 0,I Q D,I Q A,I Q WR,I Q ST,I Q 0]
theorem So.cells {b A:Nat}{WR ST D:Int}(h:So W b A WR ST D):W.cell? ⟨b,0,N⟩=O (V N 0 0)/\W.cell? ⟨b,1,N⟩=O (I Q D)/\W.cell? ⟨b,2,N⟩=O (I Q A)/\W.cell? ⟨b,3,N⟩=O (I Q WR)/\W.cell? ⟨b,4,N⟩=O (I Q ST)/\W.cell? ⟨b,5,N⟩=O (I Q 0):=
 ⟨Bk.cell h 0,Bk.cell h 1,Bk.cell h 2,Bk.cell h 3,Bk.cell h 4,Bk.cell h 5⟩
end
section
variable {k:Lk}{m:Mc}{t:Nat}{c:kF}{late:Bool}{i:aJ}{a:Nat}
theorem wi (h:i.op=17):p5 k m t c late i a=ie k { m with ws:=m.ws.set a (aG c.xs i.t.toNat) } t ⟨c.xs,c.pc+1⟩ ⟨[],0,a,true,Z,0⟩:=by
 unfold p5;simp[h]
theorem yF (h:i.op=20):p5 k m t c late i a=ie k { m with ws:=m.ws.set a ((aG m.ws a+i.k) % 4294967296) } t ⟨c.xs.set i.d.toNat (aG m.ws a),c.pc+1⟩ ⟨[],0,a,true,Z,0⟩:=by
 unfold p5;simp[h]
theorem oK (h:i.op=21):p5 k m t c late i a=if (decide (aG m.ws a=aG c.xs i.t.toNat) != decide (i.k=1))=true then ie k m t ⟨c.xs.set i.d.toNat (aG m.ws a),c.pc+1⟩ ⟨[],0,a,Z,Z,0⟩
 else if late=Z\/i.pl<0 then ({ m with cs:=eO m.cs t ⟨c.xs.set i.d.toNat (aG m.ws a),c.pc⟩ },⟨[],-1,a,Z,true,0⟩)
 else ie k m t ⟨c.xs.set i.d.toNat (aG m.ws a),i.pl⟩ ⟨[],0,a,Z,Z,0⟩:=by
 unfold p5;simp[h]
end
