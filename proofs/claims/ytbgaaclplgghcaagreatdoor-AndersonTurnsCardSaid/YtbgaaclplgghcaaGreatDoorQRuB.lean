import Derived.Test.YtbgaaclplgghcaaGreatDoorQAsmF
import Derived.Test.YtbgaaclplgghcaaGreatDoorQWdA
import Derived.Test.YtbgaaclplgghcaaGreatDoorQAsmD
import Derived.Test.YtbgaaclplgghcaaGreatDoorQArR
import Derived.BigQuiet
import Derived.Deep.DeepCutAuto
import Derived.Deep.CutBlock
set_option linter.unusedVariables false
set_option maxHeartbeats 4000000
set_option maxRecDepth 100000
open Go.Value renaming int->I,slice->T,pointer->K
open Go.IntKind renaming i64->Q
open Option renaming none->N,some->O
open Bool renaming false->Z,true->V
open Go.Obj renaming cells->J
open Go.Lib renaming hid->H
open Go.RowKit.Below renaming refl->G
open Nat renaming le_refl->F
namespace Go.Proofs.YtbgaaclplgghcaaGreatDoor
open Go.ChangeShapes Go.WideShapes Go.ChangeAt Go.RowKit
theorem ah (z:World)(n:Nat):Below z.heap.size z (z.drewN n):=⟨rfl,rfl,rfl,F _,fun _ _=>rfl⟩
structure FD (w:World)(U:RP)(k:Lk)(r:Rn)(w':World)(U':RP):Prop where
 ru:Ru w' U' k r
 st:bi w k.n U w' U'
 few:ag w w' (fun i=>i=U.g\/U.lv.ownBlock=O i)
section
variable {w:World}{U:RP}{k:Lk}{r:Rn}
theorem yr:(Tryz.prog.info? 97).map (fun i=>(i.zero,i.size,i.bytes))=O (O (.agg #[I Q 0,I Q 0,I Q 0]),3,24):=by kernel_rfl
theorem kc (h:Ru w U k r)(kd:Int)(t:Nat)(hl:r.l.length<1000000000):
 Calls Tryz.prog 74 #[K (O ⟨U.g,0,N⟩),I Q kd,I Q t] w fun e w'=>e=.returned (.tuple #[])/\∃ U',FD w U k { r with l:=r.l++[⟨kd,t,0⟩] } w' U':=by
 have c2:=h.c2
 have HO:=H (World.ownsRow.alloc h.jd (J #[I Q kd,I Q (t:Int),I Q 0] 97))
 have HN:=H (fD (Nb.made 97 w kd (t:Int) 0))
 have HL:=H hl
 have HE:Hid (∀ w' v',w'.ownsRow 0 97 3 v' (r.l.length+1) (rP r.l++FG ⟨kd,(t:Int),0⟩)->(w.alloc (J #[I Q kd,I Q (t:Int),I Q 0] 97)).grownBy w' U.lv.ownBlock->(v'.ownBlock=U.lv.ownBlock\/v'.ownBlock=O (w.alloc (J #[I Q kd,I Q (t:Int),I Q 0] 97)).heap.size)->
  (w'.cell? ⟨U.g,2,N⟩=O U.lv/\w'.frozen? ⟨U.g,2,N⟩=Z)/\∃ U',FD w U k { r with l:=r.l++[⟨kd,(t:Int),0⟩] } (w'.setCell ⟨U.g,2,N⟩ v') U'):=H (fun w' v' ho hg hloc=>by
  have hw:ag w w' (fun b=>U.lv.ownBlock=O b):=((ag.refl w (fun b=>U.lv.ownBlock=O b)).alloc _).aH (ag.aO (S:=fun b=>U.lv.ownBlock=O b) hg (fun i e=>.inl e)) (fun i hi=>.inl hi)
  have hp:=h.ptr.within hw h.lg
  have hput:=h.putL (lv':=v') (l':=r.l++[⟨kd,(t:Int),0⟩]) hw ?_ ?_
  refine⟨⟨hp.cell 2,hp.free 2⟩,_,hput.1,hput.2,?_⟩
  ·exact(hw.wide (S':=fun i=>i=U.g\/U.lv.ownBlock=O i) (fun i e _=>.inr e)).aH ((ag.refl w' (fun b=>b=U.g)).put U.g 2 v' (.inl rfl)) (fun i e=>.inl (.inl e))
  ·unfold B4
   rw[yv,List.length_append]
   exact ho
  ·intro g e
   rcases hloc with e2 | e2
   ·exact .inl (by rw[<-e2];exact e)
   ·rw[e2] at e
    injection e with e
    right
    rw[World.size_alloc] at e
    omega)
 clear h hl
 generalize U.lv=lv at *
 go_enter Tryz.func74,Tryz.ntmps74
 go_wp2_with (at_builtin;refine Ei rfl _ _ 87 rfl _ 24 Tryz.underlying87 yr rfl (by omega) (by omega) HO.out rfl (FG ⟨kd,(t:Int),0⟩) rfl (Dy _) w.heap.size rfl HN.out HL.out (Nat.zero_le _) ?_;intro v' w' hown hgr hloc;obtain⟨⟨c2',f2'⟩,hR⟩:=HE.out w' v' hown hgr hloc;obtain⟨a2,cap2,rfl,_,_,_⟩:=aT hown)
 go_end0
 exact⟨rfl,hR⟩
end
def gF (k:Lk):Prop:=∀ (w:World) (Y:YP) (m:Mc) (t:Nat) (L:Int),Ey w Y k m->t<k.n->
 Calls Tryz.prog 25 #[K (O ⟨Y.y,0,N⟩),I Q t,I Q L] w (fb w Y k (bE k m t (decide (L≠0))))
structure SI (w:World)(Y0:YP)(k:Lk)(xs:List Int)(pc:Int)(Y:YP)(m:Mc)(W:World):Prop where
 ey:Ey W Y k m
 st:br w k.n Y0 W Y
 q:Bk W w.heap.size 67 #[T N 0 0,I Q 0,I Q 0,I Q 0,I Q 0,I Q 0]
 c:Rb W (w.heap.size+1) xs pc
 tr:Bk W (w.heap.size+1+1) 67 #[T N 0 0,I Q (-1),I Q (-1),I Q 0,I Q 0,I Q 11]
 oR:∀ i,Y.Own k.n i->i<w.heap.size\/w.heap.size+4<=i
section
variable {w W W':World}{Y0 Y:YP}{k:Lk}{m:Mc}{xs:List Int}{pc:Int}
theorem SI.below (h:SI w Y0 k xs pc Y m W)(hb:Below W.heap.size W W'):SI w Y0 k xs pc Y m W':=
 ⟨h.ey.below hb,h.st.grown hb,(hb.block _ h.q.lt).trans h.q,h.c.below hb,(hb.block _ h.tr.lt).trans h.tr,h.oR⟩
theorem SI.off (h:SI w Y0 k xs pc Y m W){b:Nat}(hW:ag W W' (fun i=>i=b))(h1:w.heap.size+1<b)(h2:b≠w.heap.size+1+1)(h3:∀ i,Y.Own k.n i->i≠b):SI w Y0 k xs pc Y m W':=
 ⟨h.ey.kept hW (fun i hi e=>h3 i hi e),h.st.B9 hW (fun i e=>by omega),h.q.within hW (by omega),Bk.within h.c hW (by omega),h.tr.within hW (by omega),h.oR⟩
theorem SI.core {ys:List Int}{pc':Int}(h:SI w Y0 k xs pc Y m W)(hW:ag W W' (fun i=>i=w.heap.size+1))(hc:Rb W' (w.heap.size+1) ys pc'):SI w Y0 k ys pc' Y m W':=
 ⟨h.ey.kept hW (fun i hi e=>by have:=h.oR i hi;omega),h.st.B9 hW (fun i e=>by omega),h.q.within hW (by omega),hc,h.tr.within hW (by omega),h.oR⟩
theorem SI.FM (h:SI w Y0 k xs pc Y m W)(h8:xs.length=8){d:Nat}(hd:d<8)(v:Int):SI w Y0 k (xs.set d v) pc Y m (W.setCell ⟨w.heap.size+1,d,N⟩ (I Q v)):=
 h.core ((ag.refl _ (fun i=>i=w.heap.size+1)).put _ _ _ (.inl rfl)) (h.c.set h8 hd v)
theorem SI.place (h:SI w Y0 k xs pc Y m W)(h8:xs.length=8)(v:Int):SI w Y0 k xs v Y m (W.setCell ⟨w.heap.size+1,8,N⟩ (I Q v)):=
 h.core ((ag.refl _ (fun i=>i=w.heap.size+1)).put _ _ _ (.inl rfl)) (h.c.zA h8 v)
theorem dq (W:World)(g o:Nat)(v:Value):ag W (W.setCell ⟨g,o,N⟩ v) (fun i=>i=g):=(ag.refl _ (fun i=>i=g)).put _ _ _ (.inl rfl)
theorem bc (x:World)(n:Nat):Below x.heap.size x (x.drewN n):=⟨rfl,rfl,rfl,F _,fun _ _=>rfl⟩
theorem cM {x:Int}(h:0<=x/\x<4294967296):x % 4294967296=x:=by omega
theorem EM {i:aP}(h:FI i)(hm:fq i.op=Z):i.op<16:=by
 have ho:=h.op
 unfold fq at hm
 simp at hm
 omega
end
section
variable {w w':World}{Y:YP}{k:Lk}{m:Mc}
theorem FN (h:Ey w Y k m)(t:Nat)(ht:t<k.n)(late:Int)(hm:lz k (m.cs t).pc=N):
 Calls Tryz.prog 25 #[K (O ⟨Y.y,0,N⟩),I Q t,I Q late] w (fb w Y k (m,jO)):=by
 have hnn:=h.lk.n64
 have hl64:=h.lk.parts.2.1
 obtain⟨r0,r1,r2,r3,r4,r5,r6,r7,pc,ec⟩:=h.eS ht
 have hx8:dg [r0,r1,r2,r3,r4,r5,r6,r7]:=by have:=h.mc.cs t ht;rw[ec] at this;exact this
 have HX:=H h
 rw[ec] at hm
 have q0:=Bk.made w 67 #[T N 0 0,I Q 0,I Q 0,I Q 0,I Q 0,I Q 0]
 have b0:Below w.heap.size w (w.alloc (J #[T N 0 0,I Q 0,I Q 0,I Q 0,I Q 0,I Q 0] 67)):=(G _ _).alloc (F _) _
 have s0:(w.alloc (J #[T N 0 0,I Q 0,I Q 0,I Q 0,I Q 0,I Q 0] 67)).heap.size=w.heap.size+1:=by simp
 go_enter Tryz.func25,Tryz.ntmps25
 go_upto_region 1 with fail
 generalize w.alloc (J #[T N 0 0,I Q 0,I Q 0,I Q 0,I Q 0,I Q 0] 67)=y at *
 have h2:=h.below b0
 obtain⟨gk,capk,ek,hk1,hk2,hkb,hkf,-⟩:=h2.rO
 unfold maxLen at hk2
 have cx6:=h2.c6
 rw[ek] at cx6
 obtain⟨c0,c1,c2,c3,c4,c5,c6,c7,c8⟩:=h2.core ht ec ek
 go_upto_region 2 with fail
 have q1:=Rb.made y [r0,r1,r2,r3,r4,r5,r6,r7] pc
 have s1:(y.alloc (J #[I Q r0,I Q r1,I Q r2,I Q r3,I Q r4,I Q r5,I Q r6,I Q r7,I Q pc] 115)).heap.size=w.heap.size+1+1:=by rw[World.size_alloc,s0]
 rw[s0] at q1
 simp only[dM,List.map_cons,List.map_nil,List.cons_append,List.nil_append] at q1
 have b1:Below y.heap.size y (y.alloc (J #[I Q r0,I Q r1,I Q r2,I Q r3,I Q r4,I Q r5,I Q r6,I Q r7,I Q pc] 115)):=(G _ _).alloc (F _) _
 replace q0:=(b1.block _ q0.lt).trans q0
 have h3:=h2.below b1
 replace b0:=b0.trans (b1.mono b0.size)
 clear c0 c1 c2 c3 c4 c5 c6 c7 c8 cx6 h2 b1 hkf s0 h hk1 hk2 hkb ek
 generalize y.alloc (J #[I Q r0,I Q r1,I Q r2,I Q r3,I Q r4,I Q r5,I Q r6,I Q r7,I Q pc] 115)=z at *
 go_upto_region 3 with fail
 have b1:Below z.heap.size z (z.alloc (J #[T N 0 0,I Q (-1),I Q (-1),I Q 0,I Q 0,I Q 11] 67)):=(G _ _).alloc (F _) _
 have q2:=Bk.made z 67 #[T N 0 0,I Q (-1),I Q (-1),I Q 0,I Q 0,I Q 11]
 have s2:(z.alloc (J #[T N 0 0,I Q (-1),I Q (-1),I Q 0,I Q 0,I Q 11] 67)).heap.size=w.heap.size+1+1+1:=by rw[World.size_alloc,s1]
 rw[s1] at q2
 have hS:SI w Y k [r0,r1,r2,r3,r4,r5,r6,r7] pc Y m (z.alloc (J #[T N 0 0,I Q (-1),I Q (-1),I Q 0,I Q 0,I Q 11] 67)):=⟨h3.below b1,(br.aO b0).grown b1,(b1.block _ (Bk.lt q0)).trans q0,(b1.block _ (Bk.lt q1)).trans q1,q2,fun i hi=>.inl (HX.out.lt hi)⟩
 clear h3 b0 b1 q0 q1 q2 s1
 have HS2:=H s2
 clear s2
 generalize z.alloc (J #[T N 0 0,I Q (-1),I Q (-1),I Q 0,I Q 0,I Q 11] 67)=x at *
 have HS:=H hS
 have cx0:=hS.ey.c0
 obtain⟨hpv,aV,cV,eV⟩:=hS.ey.pv
 rw[eV] at cx0 hpv
 obtain⟨a2,ca2,e2,_,_,_,hsl⟩:=hpv
 simp only[Value.agg.injEq,Array.mk.injEq,List.cons.injEq,Value.slice.injEq,and_true,true_and] at e2
 obtain⟨rfl,rfl⟩:=e2
 have HV:=H eV
 clear eV
 obtain⟨c0,c1,c2,c3,c4,c5,c6,c7,c8⟩:=hS.c.cells
 rcases xZ hm with h1 | h1 | ⟨j,h1,h2,h3,h4⟩
 ·clear hm
  simp only at h1
  clear hsl hS
  go_quiet (fail)
  go_upto_region 4 with fail
  have hS3:=HS.out.below (bc x nq)
  clear c0 c1 c2 c3 c4 c5 c6 c7 c8 cx0
  generalize x.drewN nq=v at *
  obtain⟨t0,t1,t2,t3,t4,t5⟩:=hS3.tr.qq
  have q5:=hS3.q
  have HT:=H hS3
  obtain⟨x0,x1,x2,x3,x4,x5⟩:=q5.qq
  have zf:=Bk.free q5
  have o1:=eR q5 (T N 0 0) (I Q (-1)) (I Q (-1)) (I Q 0) (I Q 0) (I Q 11)
  have o2:=bW (y:=v) (g:=w.heap.size) (T N 0 0) (I Q (-1)) (I Q (-1)) (I Q 0) (I Q 0) (I Q 11)
  have hC:=H (dB (Y:=Y) (r:=(m,jO)) (v:=T N 0 0) (ep.nil _ _ _) HT.out.ey HT.out.st HT.out.q (by decide) o2 (F _) (fun i hi e=>by have:=HT.out.oR i hi;omega))
  clear hS3 o2 HT
  go_wp2_with (refine bodyPost_ret (v:=.agg #[T N 0 0,I Q (-1),I Q (-1),I Q 0,I Q 0,I Q 11]) (w:=eW v w.heap.size (T N 0 0) (I Q (-1)) (I Q (-1)) (I Q 0) (I Q 0) (I Q 11)) ?hres rfl ?hpost)
  case hpost=>exact hC.out
  case hres=>
   generalize eW v w.heap.size (T N 0 0) (I Q (-1)) (I Q (-1)) (I Q 0) (I Q 0) (I Q 11)=v9 at *
   obtain⟨o0,o1,o2,o3,o4,o5⟩:=o1.qq
   simp[results,Tryz.results25,go_sem,o0,o1,o2,o3,o4,o5]
 ·clear hm
  simp only at h1
  by_cases h0:pc<0
  ·clear h1
   have h1:=h0
   clear hsl hS
   go_quiet (fail)
   go_upto_region 4 with fail
   have hS3:=HS.out.below (bc x nq)
   clear c0 c1 c2 c3 c4 c5 c6 c7 c8 cx0
   generalize x.drewN nq=v at *
   obtain⟨t0,t1,t2,t3,t4,t5⟩:=hS3.tr.qq
   have q5:=hS3.q
   have HT:=H hS3
   obtain⟨x0,x1,x2,x3,x4,x5⟩:=q5.qq
   have zf:=Bk.free q5
   have o1:=eR q5 (T N 0 0) (I Q (-1)) (I Q (-1)) (I Q 0) (I Q 0) (I Q 11)
   have o2:=bW (y:=v) (g:=w.heap.size) (T N 0 0) (I Q (-1)) (I Q (-1)) (I Q 0) (I Q 0) (I Q 11)
   have hC:=H (dB (Y:=Y) (r:=(m,jO)) (v:=T N 0 0) (ep.nil _ _ _) HT.out.ey HT.out.st HT.out.q (by decide) o2 (F _) (fun i hi e=>by have:=HT.out.oR i hi;omega))
   clear hS3 o2 HT
   go_wp2_with (refine bodyPost_ret (v:=.agg #[T N 0 0,I Q (-1),I Q (-1),I Q 0,I Q 0,I Q 11]) (w:=eW v w.heap.size (T N 0 0) (I Q (-1)) (I Q (-1)) (I Q 0) (I Q 0) (I Q 11)) ?hres rfl ?hpost)
   case hpost=>exact hC.out
   case hres=>
    generalize eW v w.heap.size (T N 0 0) (I Q (-1)) (I Q (-1)) (I Q 0) (I Q 0) (I Q 11)=v9 at *
    obtain⟨o0,o1,o2,o3,o4,o5⟩:=o1.qq
    simp[results,Tryz.results25,go_sem,o0,o1,o2,o3,o4,o5]
  have d0:decide (pc<0)=Z:=by simp;omega
  have d1:pc>=(k.l.length:Int):=h1
  clear hsl hS
  go_quiet (fail)
  go_upto_region 4 with fail
  have hS3:=HS.out.below (bc x nq)
  clear c0 c1 c2 c3 c4 c5 c6 c7 c8 cx0
  generalize x.drewN nq=v at *
  obtain⟨t0,t1,t2,t3,t4,t5⟩:=hS3.tr.qq
  have q5:=hS3.q
  have HT:=H hS3
  obtain⟨x0,x1,x2,x3,x4,x5⟩:=q5.qq
  have zf:=Bk.free q5
  have o1:=eR q5 (T N 0 0) (I Q (-1)) (I Q (-1)) (I Q 0) (I Q 0) (I Q 11)
  have o2:=bW (y:=v) (g:=w.heap.size) (T N 0 0) (I Q (-1)) (I Q (-1)) (I Q 0) (I Q 0) (I Q 11)
  have hC:=H (dB (Y:=Y) (r:=(m,jO)) (v:=T N 0 0) (ep.nil _ _ _) HT.out.ey HT.out.st HT.out.q (by decide) o2 (F _) (fun i hi e=>by have:=HT.out.oR i hi;omega))
  clear hS3 o2 HT
  go_wp2_with (refine bodyPost_ret (v:=.agg #[T N 0 0,I Q (-1),I Q (-1),I Q 0,I Q 0,I Q 11]) (w:=eW v w.heap.size (T N 0 0) (I Q (-1)) (I Q (-1)) (I Q 0) (I Q 0) (I Q 11)) ?hres rfl ?hpost)
  case hpost=>exact hC.out
  case hres=>
   generalize eW v w.heap.size (T N 0 0) (I Q (-1)) (I Q (-1)) (I Q 0) (I Q 0) (I Q 11)=v9 at *
   obtain⟨o0,o1,o2,o3,o4,o5⟩:=o1.qq
   simp[results,Tryz.results25,go_sem,o0,o1,o2,o3,o4,o5]
 ·clear hm
  simp only at h1 h2 h3
  obtain⟨n,rfl⟩:=Int.eq_ofNat_of_zero_le h1
  rw[Int.toNat_natCast] at h3
  obtain⟨g,off,rfl,hgl,f0,f1,f2,f3,f4,f5,f6,f7⟩:=hsl.at_ h3
  have d0:decide ((n:Int)<0)=Z:=by simp
  have d1:decide ((n:Int)>=(k.l.length:Int))=Z:=by simp;omega
  have d4:decide (k.l.length<=n)=Z:=by simp;omega
  have d2:j.op<16:=EM (HX.out.lk.ok j (List.mem_of_getElem? h3)) h4
  have d3:(n:Int)<k.l.length:=h2
  clear hsl hS f1 f2 f3 f4 f5 f6 f7 h3 h4 h1
  go_quiet (fail)
  go_upto_region 4 with fail
  have hS3:=HS.out.below (bc x nq)
  clear c0 c1 c2 c3 c4 c5 c6 c7 c8 cx0
  generalize x.drewN nq=v at *
  obtain⟨t0,t1,t2,t3,t4,t5⟩:=hS3.tr.qq
  have q5:=hS3.q
  have HT:=H hS3
  obtain⟨x0,x1,x2,x3,x4,x5⟩:=q5.qq
  have zf:=Bk.free q5
  have o1:=eR q5 (T N 0 0) (I Q (-1)) (I Q (-1)) (I Q 0) (I Q 0) (I Q 11)
  have o2:=bW (y:=v) (g:=w.heap.size) (T N 0 0) (I Q (-1)) (I Q (-1)) (I Q 0) (I Q 0) (I Q 11)
  have hC:=H (dB (Y:=Y) (r:=(m,jO)) (v:=T N 0 0) (ep.nil _ _ _) HT.out.ey HT.out.st HT.out.q (by decide) o2 (F _) (fun i hi e=>by have:=HT.out.oR i hi;omega))
  clear hS3 o2 HT
  go_wp2_with (refine bodyPost_ret (v:=.agg #[T N 0 0,I Q (-1),I Q (-1),I Q 0,I Q 0,I Q 11]) (w:=eW v w.heap.size (T N 0 0) (I Q (-1)) (I Q (-1)) (I Q 0) (I Q 0) (I Q 11)) ?hres rfl ?hpost)
  case hpost=>exact hC.out
  case hres=>
   generalize eW v w.heap.size (T N 0 0) (I Q (-1)) (I Q (-1)) (I Q 0) (I Q 0) (I Q 11)=v9 at *
   obtain⟨o0,o1,o2,o3,o4,o5⟩:=o1.qq
   simp[results,Tryz.results25,go_sem,o0,o1,o2,o3,o4,o5]
end
def Ob (w:World)(b:Nat)(v:Value)(o:Ot):Prop:=Bk w b 67 #[v,I Q o.done,I Q o.addr,I Q (aK o.wrote),I Q (aK o.stay),I Q o.e]
def fS (t:Nat)(ms:List Int):List En:=ms.map fun k=>⟨fT k,(t:Int),0⟩
theorem sB (t:Nat)(ms:List Int)(j:Nat)(h:j<ms.length):fS t (ms.take (j+1))=fS t (ms.take j)++[⟨fT (aG ms j),(t:Int),0⟩]:=by
 unfold fS
 rw[kX ms j h,List.map_append,mB h];rfl
theorem uT (r:Rn)(t:Nat)(ms:List Int):{ r with l:=r.l++fS t (ms.take ms.length) }=eZ r t ms:=by
 unfold eZ fS;rw[List.take_length]
theorem Du (x y a b:Int):((x=a)↔(y=b))↔((x==a) != (y==b))=Z:=by
 cases h1:(x==a) with
 | true=>
  have e1:=eq_of_beq h1
  cases h2:(y==b) with
  | true=>have e2:=eq_of_beq h2;exact⟨fun _=>rfl,fun _=>⟨fun _=>e2,fun _=>e1⟩⟩
  | false=>have e2:=ne_of_beq_false h2;exact⟨fun h=>absurd (h.1 e1) e2,fun h=>by cases h⟩
 | false=>
  have e1:=ne_of_beq_false h1
  cases h2:(y==b) with
  | true=>have e2:=eq_of_beq h2;exact⟨fun h=>absurd (h.2 e2) e1,fun h=>by cases h⟩
  | false=>have e2:=ne_of_beq_false h2;exact⟨fun _=>rfl,fun _=>⟨fun h=>absurd h e1,fun h=>absurd h e2⟩⟩
theorem C1 (x:Int)(h0:0<=x)(h5:x<5):∀ W:World,Sem.run Tryz.prog (Instr.index 227 (.agg #[I Q 0,I Q 2,I Q 3,I Q 4,I Q 9]) (I Q x)) W=.ok (I Q (fT x)) W:=by
 intro W
 have hx:x=0\/x=1\/x=2\/x=3\/x=4:=by omega
 rcases hx with rfl|rfl|rfl|rfl|rfl <;> rfl
section
variable {w:World}{U:RP}{k:Lk}{r:Rn}
theorem zE (h:Ru w U k r)(t:Nat)(ht:t<k.n)(o:Ot)(mv:Value)(hm:ep .i64 3 w mv o.ms)(hmk:∀ x∈o.ms,0<=x/\x<5)(hl:r.l.length+o.ms.length+1<1000000000):
 Calls Tryz.prog 75 #[K (O ⟨U.g,0,N⟩),I Q t,rW mv o] w fun e w'=>e=.returned (.tuple #[])/\vI w U k (bA r t o) w':=by
 have hbz:Below w.heap.size w (w.alloc (J #[mv,I Q o.done,I Q o.addr,I Q (aK o.wrote),I Q (aK o.stay),I Q o.e] 67)):=(G _ _).alloc (F _) _
 have hOb:Ob (w.alloc (J #[mv,I Q o.done,I Q o.addr,I Q (aK o.wrote),I Q (aK o.stay),I Q o.e] 67)) w.heap.size mv o:=Bk.made _ _ _
 have hz:=h.below hbz
 have hmz:=hm.within (af hbz) (fun _ _ h=>h)
 have HUZ:Hid (∀ u,vI (w.alloc (J #[mv,I Q o.done,I Q o.addr,I Q (aK o.wrote),I Q (aK o.stay),I Q o.e] 67)) U k (bA r t o) u->vI w U k (bA r t o) u):=H (fun u ⟨U',h1,h2⟩=>⟨U',h1,((bi.refl w k.n U).grown hbz).aH h2⟩)
 have HCR:Hid (bA r t o=(let r:=eZ r t o.ms
  if o.e≠0\/(0<=o.done/\¬ ((o.done=2)↔(r.act t=3))) then { r with bad:=V }
  else if o.done=0 then { enter r 6 t with act:=bt r.act t 0 }
  else if o.done=1 then { enter r 5 t with act:=bt r.act t 2 }
  else if o.done=2 then { enter r 10 t with act:=bt r.act t 0 }
  else if o.done=3 then { enter r 7 t with act:=bt r.act t 0 }
  else r)):=H rfl
 generalize bA r t o=CR at *
 have HMK:=H hmk
 have HNx:=H (fun j h=>sB t o.ms j h)
 have HAll:=H (uT r t o.ms)
 have HL:=H hl
 have HT:=H ht
 unfold rW
 obtain⟨am,cm,rfl,hm1,hm2,_⟩:=hm.is
 obtain⟨ms,dn,ad,wr_,sy,er⟩:=o
 simp only at *
 clear h hmk hm hl
 go_enter Tryz.func75,Tryz.ntmps75
 go_upto_region 1 with fail
 have hbl:w.heap.size<(w.alloc (J #[T am ms.length cm,I Q dn,I Q ad,I Q (aK wr_),I Q (aK sy),I Q er] 67)).heap.size:=Bk.lt hOb
 generalize w.alloc (J #[T am ms.length cm,I Q dn,I Q ad,I Q (aK wr_),I Q (aK sy),I Q er] 67)=z at *
 generalize w.heap.size=b at *
 simp only[maxLen] at hm2
 have HZ:=H hz
 have HM:=H hmz
 have HB:=H hOb
 obtain⟨e0,e1,e5⟩:z.cell? ⟨b,0,N⟩=O (T am ms.length cm)/\z.cell? ⟨b,1,N⟩=O (I Q dn)/\z.cell? ⟨b,5,N⟩=O (I Q er):=⟨hOb.cell 0,hOb.cell 1,hOb.cell 5⟩
 clear hz hmz hOb hbz
 go_wp2
 go_loopw [11] (fun x wr=>∃ (j:Nat) (U':RP),x=I Q j/\j<=ms.length/\Hid (Ru wr U' k { r with l:=r.l++fS t (ms.take j) }/\bi z k.n U wr U')/\Hid (ep .i64 3 wr (T am ms.length cm) ms)/\Hid (Ob wr b (T am ms.length cm) ⟨ms,dn,ad,wr_,sy,er⟩)) (fun x _=>ms.length-(intOf x).toNat)
 case atStart=>exact⟨0,U,rfl,Nat.zero_le _,H ⟨by have:=HZ.out;simpa [fS] using this,bi.refl _ _ _⟩,HM,HB⟩
 case round=>
  obtain⟨j,U',rfl,hj,HR,HMr,HBr⟩:=hrel
  obtain⟨hRu,hSt⟩:=HR.out
  have hg:U'.g=U.g:=hSt.2.2.1
  have hd:U'.d=U.d:=hSt.2.2.2
  by_cases hlt:j<ms.length
  ·have hji:(j:Int)<ms.length:=by omega
   obtain⟨am2,cm2,hme,_,_,hmc⟩:=HMr.out.is
   obtain⟨gm,hgm,_,_,hcm⟩:=hmc (by omega)
   injection hme with hm1 hm2' hm3
   subst hm1
   subst hm3
   subst hgm
   have cx:=hcm j hlt
   have hx5:=HMK.out (aG ms j) (by rw[mB hlt];exact List.getElem_mem hlt)
   have hN:=HNx.out j hlt
   have hlen:(fS t (ms.take j)).length<=ms.length:=by unfold fS;rw[List.length_map,List.length_take];omega
   have HEn:=H (kc hRu (fT (aG ms j)) t (by have:=HL.out;simp only[List.length_append] at this ⊢;omega))
   rw[hg] at HEn
   have HNx2:Hid (∀ w' U2,FD wr U' k { r with l:=(r.l++fS t (ms.take j))++[⟨fT (aG ms j),(t:Int),0⟩] } w' U2->(Ru w' U2 k { r with l:=r.l++fS t (ms.take (j+1)) }/\bi z k.n U w' U2)/\ep .i64 3 w' (T (O ⟨gm,0,N⟩) ms.length cm) ms/\Ob w' b (T (O ⟨gm,0,N⟩) ms.length cm) ⟨ms,dn,ad,wr_,sy,er⟩):=H (fun w' U2 hE=>by
    have hru:=hE.ru
    rw[List.append_assoc,<-hN] at hru
    refine⟨⟨hru,hSt.aH hE.st⟩,HMr.out.within hE.few (fun g e e2=>?_),Bk.within HBr.out hE.few (fun e2=>?_)⟩
    ·obtain⟨cs,hb⟩:=HMr.out.bk e
     rcases e2 with e2 | e2
     ·exact Bk.av hb hRu.ptr (by decide) e2
     ·obtain⟨Eg,hb2⟩:=aU hRu.jd e2
      exact Bk.av hb hb2 (by decide) rfl
    ·rcases e2 with e2 | e2
     ·exact Bk.av HBr.out hRu.ptr (by decide) e2
     ·obtain⟨Eg,hb2⟩:=aU hRu.jd e2
      exact Bk.av HBr.out hb2 (by decide) rfl)
   generalize hy:aG ms j=y at *
   have hix:=C1 y hx5.1 hx5.2
   clear hcm hmc hx5 hN hRu hSt HR HMr HBr hy
   go_wp2_with fail
   refine HEn.out.mono ?_
   rintro e w' ⟨rfl,U2,hE⟩
   obtain⟨n1,n2,n3⟩:=HNx2.out w' U2 hE
   have N1:=H n1
   have N2:=H n2
   have N3:=H n3
   clear hE n1 n2 n3 HEn HNx2 hix cx
   go_wp2
   go_roundw
   case rel=>exact⟨j+1,U2,by go_num,by omega,N1,N2,N3⟩
   case measure=>simp[intOf];omega
  ·obtain rfl:j=ms.length:=by omega
   have hfe:({ r with l:=r.l++fS t (ms.take ms.length) }:Rn)=eZ r t ms:=HAll.out
   rw[hfe] at hRu
   have HLen:Hid ((eZ r t ms).l.length=r.l.length+ms.length):=H (by unfold eZ;simp)
   have e1r:wr.cell? ⟨b,1,N⟩=O (I Q dn):=Bk.cell HBr.out 1
   have e5r:wr.cell? ⟨b,5,N⟩=O (I Q er):=Bk.cell HBr.out 5
   have hc1:=hRu.c1
   have hx:=hRu.act HT.out
   rw[hg,hd] at hc1
   rw[hd] at hx
   have hax:(eZ r t ms).act t=r.act t:=rfl
   rw[hax] at hx
   have hti:(t:Int)<(k.n:Int):=by have:=HT.out;omega
   have HC:=HCR.out
   generalize eZ r t ms=rm at *
   rw[hax] at HC
   clear HR HMr HBr HNx HAll HMK hfe hax HCR
   by_cases h0:er=0
   ·have d0:(er != 0)=Z:=by simpa using h0
    by_cases h1:0<=dn
    ·have d1:decide (dn>=0)=V:=decide_eq_true h1
     have d1':decide (0<=dn)=V:=decide_eq_true h1
     have hiff:=Du dn (r.act t) 2 3
     cases hb2:(dn==2) with
     | true=>
      cases hb3:(r.act t==3) with
      | true=>
       have k2:dn=2:=eq_of_beq hb2
       rw[hb2,hb3] at hiff
       have hcond:¬ (er≠0\/(0<=dn/\¬ ((dn=2)↔(r.act t=3)))):=fun e=>e.elim (fun e=>e h0) (fun e=>e.2 (hiff.2 rfl))
       rw[if_neg hcond,if_neg (by omega),if_neg (by omega),if_pos k2] at HC
       have HOK:Hid (CR={ enter rm 10 t with act:=bt rm.act t 0 }):=H HC
       have q0:(dn==0)=Z:=beq_eq_false_iff_ne.2 (by omega)
       have q1:(dn==1)=Z:=beq_eq_false_iff_ne.2 (by omega)
       clear HC hiff hcond k2
       go_upto_region 6 with fail
       go_quiet (fail)
       have h7:=hRu.below (ah wr nq)
       have hs7:=hSt.grown (ah wr nq)
       have e1q:(wr.drewN nq).cell? ⟨b,1,N⟩=O (I Q dn):=e1r
       generalize wr.drewN nq=v at *
       have HEn:=H (kc h7 10 t (by have:=HL.out;have:=HLen.out;omega))
       rw[hg] at HEn
       go_wp2_with fail
       refine HEn.out.mono ?_
       rintro e v2 ⟨rfl,U2,hE⟩
       have hru2:=hE.ru
       have hst2:=hs7.aH hE.st
       have hg2:U2.g=U.g:=hE.st.2.2.1.trans hg
       have hd2:U2.d=U.d:=hE.st.2.2.2.trans hd
       have hput:=hru2.mz HT.out 0
       have hx:=hru2.act HT.out
       have hx2:=hru2.acts.free t
       have hc1:=hru2.c1
       rw[hg2,hd2] at hc1
       rw[hd2] at hx hx2 hput
       have hfin:=HUZ.out _ (by rw[HOK.out];exact⟨_,hput.1,hst2.aH hput.2⟩)
       simp only at hx
       generalize rm.act t=at_ at hx
       clear hput hru2 hst2 hE HEn h7 hs7 HUZ hRu hSt HOK
       go_wp2
       go_end0
       exact⟨rfl,hfin⟩
      | false=>
       rw[hb2,hb3] at hiff
       have HBAD:Hid (CR={ rm with bad:=V }):=H (by rw[HC,if_pos (.inr ⟨h1,fun e=>by cases hiff.1 e⟩)])
       clear HC hiff
       go_upto_region 6 with fail
       go_quiet (fail)
       have h7:=hRu.below (ah wr nq)
       have hs7:=hSt.grown (ah wr nq)
       have e1q:(wr.drewN nq).cell? ⟨b,1,N⟩=O (I Q dn):=e1r
       generalize wr.drewN nq=v at *
       obtain⟨hp1,hp2⟩:=h7.vP
       have c3:=h7.c3
       have f3:=h7.ptr.free 3
       rw[hg] at c3 f3 hp1 hp2
       have hfin:=HUZ.out _ (by rw[HBAD.out];exact⟨_,hp1,hs7.aH hp2⟩)
       clear hp1 hp2 h7 hs7 HUZ HBAD hRu hSt
       go_wp2
       refine bodyPost_ret (results_none rfl _ _ _) rfl ?_
       exact⟨rfl,hfin⟩
     | false=>
      have k2:dn≠2:=ne_of_beq_false hb2
      cases hb3:(r.act t==3) with
      | true=>
       rw[hb2,hb3] at hiff
       have HBAD:Hid (CR={ rm with bad:=V }):=H (by rw[HC,if_pos (.inr ⟨h1,fun e=>by cases hiff.1 e⟩)])
       clear HC hiff k2
       go_upto_region 6 with fail
       go_quiet (fail)
       have h7:=hRu.below (ah wr nq)
       have hs7:=hSt.grown (ah wr nq)
       have e1q:(wr.drewN nq).cell? ⟨b,1,N⟩=O (I Q dn):=e1r
       generalize wr.drewN nq=v at *
       obtain⟨hp1,hp2⟩:=h7.vP
       have c3:=h7.c3
       have f3:=h7.ptr.free 3
       rw[hg] at c3 f3 hp1 hp2
       have hfin:=HUZ.out _ (by rw[HBAD.out];exact⟨_,hp1,hs7.aH hp2⟩)
       clear hp1 hp2 h7 hs7 HUZ HBAD hRu hSt
       go_wp2
       refine bodyPost_ret (results_none rfl _ _ _) rfl ?_
       exact⟨rfl,hfin⟩
      | false=>
       rw[hb2,hb3] at hiff
       have hcond:¬ (er≠0\/(0<=dn/\¬ ((dn=2)↔(r.act t=3)))):=fun e=>e.elim (fun e=>e h0) (fun e=>e.2 (hiff.2 rfl))
       rw[if_neg hcond] at HC
       clear hiff hcond
       by_cases k0:dn=0
       ·have HOK:Hid (CR={ enter rm 6 t with act:=bt rm.act t 0 }):=H (by rw[HC,if_pos k0])
        have q0:(dn==0)=V:=beq_iff_eq.2 k0
        clear HC k2 k0
        go_upto_region 6 with fail
        go_quiet (fail)
        have h7:=hRu.below (ah wr nq)
        have hs7:=hSt.grown (ah wr nq)
        have e1q:(wr.drewN nq).cell? ⟨b,1,N⟩=O (I Q dn):=e1r
        generalize wr.drewN nq=v at *
        have HEn:=H (kc h7 6 t (by have:=HL.out;have:=HLen.out;omega))
        rw[hg] at HEn
        go_wp2_with fail
        refine HEn.out.mono ?_
        rintro e v2 ⟨rfl,U2,hE⟩
        have hru2:=hE.ru
        have hst2:=hs7.aH hE.st
        have hg2:U2.g=U.g:=hE.st.2.2.1.trans hg
        have hd2:U2.d=U.d:=hE.st.2.2.2.trans hd
        have hput:=hru2.mz HT.out 0
        have hx:=hru2.act HT.out
        have hx2:=hru2.acts.free t
        have hc1:=hru2.c1
        rw[hg2,hd2] at hc1
        rw[hd2] at hx hx2 hput
        have hfin:=HUZ.out _ (by rw[HOK.out];exact⟨_,hput.1,hst2.aH hput.2⟩)
        simp only at hx
        generalize rm.act t=at_ at hx
        clear hput hru2 hst2 hE HEn h7 hs7 HUZ hRu hSt HOK
        go_wp2
        go_end0
        exact⟨rfl,hfin⟩
       by_cases k1:dn=1
       ·have HOK:Hid (CR={ enter rm 5 t with act:=bt rm.act t 2 }):=H (by rw[HC,if_neg (by omega),if_pos k1])
        have q1:(dn==1)=V:=beq_iff_eq.2 k1
        have q0:(dn==0)=Z:=beq_eq_false_iff_ne.2 (by omega)
        clear HC k2 k1
        go_upto_region 6 with fail
        go_quiet (fail)
        have h7:=hRu.below (ah wr nq)
        have hs7:=hSt.grown (ah wr nq)
        have e1q:(wr.drewN nq).cell? ⟨b,1,N⟩=O (I Q dn):=e1r
        generalize wr.drewN nq=v at *
        have HEn:=H (kc h7 5 t (by have:=HL.out;have:=HLen.out;omega))
        rw[hg] at HEn
        go_wp2_with fail
        refine HEn.out.mono ?_
        rintro e v2 ⟨rfl,U2,hE⟩
        have hru2:=hE.ru
        have hst2:=hs7.aH hE.st
        have hg2:U2.g=U.g:=hE.st.2.2.1.trans hg
        have hd2:U2.d=U.d:=hE.st.2.2.2.trans hd
        have hput:=hru2.mz HT.out 2
        have hx:=hru2.act HT.out
        have hx2:=hru2.acts.free t
        have hc1:=hru2.c1
        rw[hg2,hd2] at hc1
        rw[hd2] at hx hx2 hput
        have hfin:=HUZ.out _ (by rw[HOK.out];exact⟨_,hput.1,hst2.aH hput.2⟩)
        simp only at hx
        generalize rm.act t=at_ at hx
        clear hput hru2 hst2 hE HEn h7 hs7 HUZ hRu hSt HOK
        go_wp2
        go_end0
        exact⟨rfl,hfin⟩
       by_cases k3:dn=3
       ·have HOK:Hid (CR={ enter rm 7 t with act:=bt rm.act t 0 }):=H (by rw[HC,if_neg (by omega),if_neg (by omega),if_neg (by omega),if_pos k3])
        have q3:(dn==3)=V:=beq_iff_eq.2 k3
        have q0:(dn==0)=Z:=beq_eq_false_iff_ne.2 (by omega)
        have q1:(dn==1)=Z:=beq_eq_false_iff_ne.2 (by omega)
        clear HC k2 k3
        go_upto_region 6 with fail
        go_quiet (fail)
        have h7:=hRu.below (ah wr nq)
        have hs7:=hSt.grown (ah wr nq)
        have e1q:(wr.drewN nq).cell? ⟨b,1,N⟩=O (I Q dn):=e1r
        generalize wr.drewN nq=v at *
        have HEn:=H (kc h7 7 t (by have:=HL.out;have:=HLen.out;omega))
        rw[hg] at HEn
        go_wp2_with fail
        refine HEn.out.mono ?_
        rintro e v2 ⟨rfl,U2,hE⟩
        have hru2:=hE.ru
        have hst2:=hs7.aH hE.st
        have hg2:U2.g=U.g:=hE.st.2.2.1.trans hg
        have hd2:U2.d=U.d:=hE.st.2.2.2.trans hd
        have hput:=hru2.mz HT.out 0
        have hx:=hru2.act HT.out
        have hx2:=hru2.acts.free t
        have hc1:=hru2.c1
        rw[hg2,hd2] at hc1
        rw[hd2] at hx hx2 hput
        have hfin:=HUZ.out _ (by rw[HOK.out];exact⟨_,hput.1,hst2.aH hput.2⟩)
        simp only at hx
        generalize rm.act t=at_ at hx
        clear hput hru2 hst2 hE HEn h7 hs7 HUZ hRu hSt HOK
        go_wp2
        go_end0
        exact⟨rfl,hfin⟩
       have HOK:Hid (CR=rm):=H (by rw[HC,if_neg k0,if_neg k1,if_neg k2,if_neg k3])
       have q0:(dn==0)=Z:=beq_eq_false_iff_ne.2 k0
       have q1:(dn==1)=Z:=beq_eq_false_iff_ne.2 k1
       have q3:(dn==3)=Z:=beq_eq_false_iff_ne.2 k3
       clear HC k0 k1 k2 k3
       go_upto_region 6 with fail
       go_quiet (fail)
       have h7:=hRu.below (ah wr nq)
       have hs7:=hSt.grown (ah wr nq)
       have e1q:(wr.drewN nq).cell? ⟨b,1,N⟩=O (I Q dn):=e1r
       generalize wr.drewN nq=v at *
       have hfin:=HUZ.out v (by rw[HOK.out];exact⟨_,h7,hs7⟩)
       clear h7 hs7 HUZ hRu hSt HOK
       go_wp2
       go_end0
       exact⟨rfl,hfin⟩
    ·have d1:decide (dn>=0)=Z:=decide_eq_false h1
     have d1':decide (0<=dn)=Z:=decide_eq_false h1
     have HOK:Hid (CR=rm):=H (by rw[HC,if_neg (fun e=>e.elim (fun e=>e h0) (fun e=>h1 e.1)),if_neg (by omega),if_neg (by omega),if_neg (by omega),if_neg (by omega)])
     have q0:(dn==0)=Z:=beq_eq_false_iff_ne.2 (by omega)
     have q1:(dn==1)=Z:=beq_eq_false_iff_ne.2 (by omega)
     have q2:(dn==2)=Z:=beq_eq_false_iff_ne.2 (by omega)
     have q3:(dn==3)=Z:=beq_eq_false_iff_ne.2 (by omega)
     clear HC
     go_upto_region 6 with fail
     go_quiet (fail)
     have h7:=hRu.below (ah wr nq)
     have hs7:=hSt.grown (ah wr nq)
     have e1q:(wr.drewN nq).cell? ⟨b,1,N⟩=O (I Q dn):=e1r
     generalize wr.drewN nq=v at *
     have hfin:=HUZ.out v (by rw[HOK.out];exact⟨_,h7,hs7⟩)
     clear h7 hs7 HUZ hRu hSt HOK
     go_wp2
     go_end0
     exact⟨rfl,hfin⟩
   ·have d0:(er != 0)=V:=by simpa using h0
    have HBAD:Hid (CR={ rm with bad:=V }):=H (by rw[HC,if_pos (.inl h0)])
    clear HC
    go_upto_region 6 with fail
    go_quiet (fail)
    have h7:=hRu.below (ah wr nq)
    have hs7:=hSt.grown (ah wr nq)
    have e1q:(wr.drewN nq).cell? ⟨b,1,N⟩=O (I Q dn):=e1r
    generalize wr.drewN nq=v at *
    obtain⟨hp1,hp2⟩:=h7.vP
    have c3:=h7.c3
    have f3:=h7.ptr.free 3
    rw[hg] at c3 f3 hp1 hp2
    have hfin:=HUZ.out _ (by rw[HBAD.out];exact⟨_,hp1,hs7.aH hp2⟩)
    clear hp1 hp2 h7 hs7 HUZ HBAD hRu hSt
    go_wp2
    refine bodyPost_ret (results_none rfl _ _ _) rfl ?_
    exact⟨rfl,hfin⟩
end
structure DX (k:Lk)(init r7:List Int)(tg:aP->Bool):Prop where
 al:k.l.all tg=V
 st:gF k
 e0:k.each=0
 wf:∀ i∈k.l,i.Wf
 ok:gG k
 iu:gE init
 il:init.length=jS k.zs
 rl:r7.length=k.n
 ru:gE r7
theorem DX.sv {k:Lk}{init r7:List Int}{tg:aP->Bool}(h:DX k init r7 tg):GS ⟨k.l,k.lo,k.un⟩ k.zs init r7 k.each k.n where
 rz:=h.ok.zs
 few:=h.ok.few
 len:=h.il
 n1:=by have:=h.ok.n1;omega
 n64:=by have:=h.ok.n64;omega
 e0:=by have:=h.e0;omega
 e8:=by have:=h.e0;omega
 rl:=by rw[h.rl]
 code:=h.ok.code
section
variable {w w' W W':World}{Y Y0 Y':YP}{k:Lk}{m m':Mc}{xs:List Int}{pc:Int}
theorem SI.gC (h:SI w Y0 k xs pc Y m W)(hz:w.heap.size+4<=W.heap.size)(e:Ey W' Y' k m')(s:br W k.n Y W' Y'):SI w Y0 k xs pc Y' m' W':=
 ⟨e,h.st.aH s,h.q.within s.1 (fun e=>by have:=h.oR _ e;omega),Bk.within h.c s.1 (fun e=>by have:=h.oR _ e;omega),h.tr.within s.1 (fun e=>by have:=h.oR _ e;omega),fun i hi=>by
  rcases s.2.1 i hi with q | q
  ·exact h.oR i q
  ·exact .inr (by omega)⟩
theorem ng {zs:List Int}{area x:Int}{A:Nat}(h:gP zs area x=O A):A<jS zs:=by
 unfold gP at h
 split at h
 ·rename_i hc
  injection h with h
  obtain⟨B,rfl⟩:=Int.eq_ofNat_of_zero_le hc.1
  have:=Bw (zs:=zs) (a:=B) (p:=(x % 4096).toNat) (by omega) (by have:=hc.2.2;rw[Int.toNat_natCast] at this;omega)
  rw[Int.toNat_natCast] at h
  omega
 ·cases h
def So (W:World)(b A:Nat)(WR ST D:Int):Prop:=Bk W b 67 #[T N 0 0,I Q D,I Q A,I Q WR,I Q ST,I Q 0]
theorem So.cells {b A:Nat}{WR ST D:Int}(h:So W b A WR ST D):W.cell? ⟨b,0,N⟩=O (T N 0 0)/\W.cell? ⟨b,1,N⟩=O (I Q D)/\W.cell? ⟨b,2,N⟩=O (I Q A)/\W.cell? ⟨b,3,N⟩=O (I Q WR)/\W.cell? ⟨b,4,N⟩=O (I Q ST)/\W.cell? ⟨b,5,N⟩=O (I Q 0):=
 ⟨Bk.cell h 0,Bk.cell h 1,Bk.cell h 2,Bk.cell h 3,Bk.cell h 4,Bk.cell h 5⟩
end
section
variable {k:Lk}{m:Mc}{t:Nat}{c:zR}{late:Bool}{i:aP}{a:Nat}
theorem zw (h:i.op=17):rS k m t c late i a=iR k { m with ws:=m.ws.set a (aG c.xs i.t.toNat) } t ⟨c.xs,c.pc+1⟩ ⟨[],0,a,V,Z,0⟩:=by
 unfold rS;simp[h]
theorem Bo (h:i.op=20):rS k m t c late i a=iR k { m with ws:=m.ws.set a ((aG m.ws a+i.k) % 4294967296) } t ⟨c.xs.set i.d.toNat (aG m.ws a),c.pc+1⟩ ⟨[],0,a,V,Z,0⟩:=by
 unfold rS;simp[h]
theorem qk (h:i.op=21):rS k m t c late i a=if (decide (aG m.ws a=aG c.xs i.t.toNat) != decide (i.k=1))=V then iR k m t ⟨c.xs.set i.d.toNat (aG m.ws a),c.pc+1⟩ ⟨[],0,a,Z,Z,0⟩
 else if late=Z\/i.pl<0 then ({ m with cs:=bt m.cs t ⟨c.xs.set i.d.toNat (aG m.ws a),c.pc⟩ },⟨[],-1,a,Z,V,0⟩)
 else iR k m t ⟨c.xs.set i.d.toNat (aG m.ws a),i.pl⟩ ⟨[],0,a,Z,Z,0⟩:=by
 unfold rS;simp[h]
end
theorem An {W:World}{cap0:Nat}{a0:Option Addr}{xs:List Int}(h:dT .u32 W a0 xs)(hm:xs.length<=100000):
 ∃ v' W',(Builtin.append_ #[27,27] 27 #[T N 0 0,T a0 xs.length cap0]).run Tryz.prog W=.ok v' W'/\ep .u32 22 W' v' xs/\Below W.heap.size W W'/\∀ g,v'.ownBlock=O g->W.heap.size<=g:=by
 obtain⟨i0,hi0,hz0,hz1,hz2⟩:=info_parts Ci
 by_cases h0:xs=[]
 ·subst h0
  refine⟨T N 0 0,W,?_,ep.nil _ _ _,G _ _,fun g e=>by cases e⟩
  have hu:Tryz.prog.underlying 27=O (.slice 22):=Tryz.underlying27
  have hl:∀ (x:Addr),(loadCells x 0).run Tryz.prog W=.ok #[] W:=fun x=>by simpa using run_loadCells_list (P:=Tryz.prog) W x [] (by simp)
  cases a0 <;> simp[Builtin.append_,run_underlying hu,sizeOf,typeInfo,hi0,Builtin.lenOf,Builtin.firstCells,hl]
 ·obtain⟨b',off,rfl,hlt,hc⟩:=h (List.length_pos_iff.2 h0)
  obtain⟨v',W',hr,ho,hg,_⟩:=run_append_own (P:=Tryz.prog) W W.heap.size 27 27 22 i0 _ 1 4 Tryz.underlying27 hi0 hz0 hz1 hz2 rfl (by omega) (T N 0 0) 0 [] (World.ownsRow_nil _ _ _ _) ⟨b',off,N⟩ xs.length cap0 (xs.map (Value.int .u32)) (by simp) (ym hc) (by intro u hu;simp at hu;obtain⟨x,_,rfl⟩:=hu;rfl) (by unfold maxLen;omega) (by omega) (F _)
  rw[Nat.zero_add,List.nil_append] at ho
  exact⟨v',W',hr,World.ownsRow.mono (base':=0) ho (Nat.zero_le _),aQ hg,fun g e=>(World.ownsRow.lt ho g e).1⟩
structure um (w:World)(base:Nat)(k:Lk)(Y:YP)(ws:List Int)(cs:Nat->zR)(j:Nat)(W:World):Prop where
 ptr:Bk W Y.y 94 #[Y.cv,I Q k.lo,I Q k.un,Y.cl,Y.wl,K (O ⟨Y.x,0,N⟩),Y.kl,I Q Y.ac]
 code:W.ownsRow 0 127 8 Y.cv k.l.length (bu k.l)
 cells:Cs 0 W Y.cl (pi k.zs)
 words:ep .u32 22 W Y.wl ws
 gC:Rf W Y.x k.n k.each Y.R (rM k.n k.each).free (rM k.n k.each).gen (rM k.n k.each).out
 cores:W.ownsRow w.heap.size 115 9 Y.kl j (fK cs j)
 gr:Below w.heap.size w W
 newy:w.heap.size<=Y.y
 new:∀ i,Y.Own k.n i->base<=i/\(Y.cv.ownBlock=O i\/w.heap.size<=i)
section
variable {w W W':World}{base:Nat}{k:Lk}{Y:YP}{ws:List Int}{cs:Nat->zR}{j:Nat}
theorem um.kept (h:um w base k Y ws cs j W){S:Nat->Prop}(hw:ag W W' S)(hn:∀ i,S i->w.heap.size<=i)(h1:¬ S Y.y)(h2:∀ g,Y.cv.ownBlock=O g->¬ S g)(h3:∀ g,Y.cl.ownBlock=O g->¬ S g)(h4:∀ g,Y.wl.ownBlock=O g->¬ S g)(h5:¬ S Y.x)(h6:∀ g,Y.kl.ownBlock=O g->¬ S g)(h7:∀ i,Y.R.Has k.n i->¬ S i):um w base k Y ws cs j W':=
 ⟨h.ptr.within hw h1,ar h.code hw h2,h.cells.within hw h3,h.words.within hw h4,h.gC.kept hw h5 h7,ar h.cores hw h6,
  ⟨hw.os.trans h.gr.os,hw.tape.trans h.gr.tape,hw.output.trans h.gr.output,Nat.le_trans h.gr.size hw.size,fun i hi=>(hw.block i (Nat.lt_of_lt_of_le hi h.gr.size) (fun e=>by have:=hn i e;omega)).trans (h.gr.block i hi)⟩,h.newy,h.new⟩
theorem um.below (h:um w base k Y ws cs j W)(hb:Below W.heap.size W W'):um w base k Y ws cs j W':=
 h.kept (af hb) (by simp) (by simp) (by simp) (by simp) (by simp) (by simp) (by simp) (by simp)
theorem um.Ej (h:um w base k Y [] cs j W){v:Value}(hl:ep .u32 22 W v ws)(hn:∀ g,v.ownBlock=O g->base<=g/\w.heap.size<=g):um w base k { Y with wl:=v } ws cs j (W.setCell ⟨Y.y,4,N⟩ v):=by
 have hW:=dq W Y.y 4 v
 have oR:∀ {g:Nat} {t:TypeId} {c:Array Value},Bk W g t c->t≠94->g≠Y.y:=fun hb ht e=>Bk.av hb h.ptr ht e
 refine⟨h.ptr.put 4 v,ar h.code hW (fun g e=>?_),h.cells.within hW (fun g e=>?_),hl.within hW (fun g e=>?_),h.gC.kept hW (oR h.gC.ptr (by decide)) (fun i hi e=>Rf.fZ h.gC h.ptr (by decide) (by decide) (e ▸ hi)),ar h.cores hW (fun g e=>?_),
  h.gr.setCell (p:=⟨Y.y,4,N⟩) h.newy v,h.newy,fun i hi=>?_⟩
 ·obtain⟨c,hc⟩:=aU h.code e;exact oR hc (by decide)
 ·obtain⟨c,hc⟩:=aU h.cells e;exact oR hc (by decide)
 ·obtain⟨c,hc⟩:=hl.bk e;exact oR hc (by decide)
 ·obtain⟨c,hc⟩:=aU h.cores e;exact oR hc (by decide)
 ·rcases hi with e | e | e | e | e | e | e
  ·exact h.new i (.inl e)
  ·exact h.new i (.inr (.inl e))
  ·exact h.new i (.inr (.inr (.inl e)))
  ·exact⟨(hn i e).1,.inr (hn i e).2⟩
  ·exact h.new i (.inr (.inr (.inr (.inr (.inl e)))))
  ·exact h.new i (.inr (.inr (.inr (.inr (.inr (.inl e))))))
  ·exact h.new i (.inr (.inr (.inr (.inr (.inr (.inr e))))))
theorem um.grow (h:um w base k Y ws cs j W)(hg:W.grownBy W' Y.kl.ownBlock)(hn:∀ g,Y.kl.ownBlock=O g->w.heap.size<=g):
 Bk W' Y.y 94 #[Y.cv,I Q k.lo,I Q k.un,Y.cl,Y.wl,K (O ⟨Y.x,0,N⟩),Y.kl,I Q Y.ac]/\∀ v,W'.ownsRow w.heap.size 115 9 v (j+1) (fK cs (j+1))->base<=w.heap.size->um w base k { Y with kl:=v } ws cs (j+1) (W'.setCell ⟨Y.y,6,N⟩ v):=by
 have hw:ag W W' (fun i=>Y.kl.ownBlock=O i):=.aO hg (fun i e=>.inl e)
 have oR:∀ {g:Nat} {t:TypeId} {c:Array Value},Bk W g t c->t≠115->¬ Y.kl.ownBlock=O g:=fun hb ht e=>by
  obtain⟨c,hc⟩:=aU h.cores e
  exact Bk.av hb hc ht rfl
 have hp:=h.ptr.within hw (oR h.ptr (by decide))
 refine⟨hp,fun v hv hbase=>?_⟩
 have hW:=dq W' Y.y 6 v
 have far2:∀ {g:Nat} {t:TypeId} {c:Array Value},Bk W' g t c->t≠94->g≠Y.y:=fun hb ht e=>Bk.av hb hp ht e
 have k1:W'.ownsRow 0 127 8 Y.cv k.l.length (bu k.l):=ar h.code hw (fun g e=>by obtain⟨c,hc⟩:=aU h.code e;exact oR hc (by decide))
 have k2:Cs 0 W' Y.cl (pi k.zs):=h.cells.within hw (fun g e=>by obtain⟨c,hc⟩:=aU h.cells e;exact oR hc (by decide))
 have k3:ep .u32 22 W' Y.wl ws:=h.words.within hw (fun g e=>by obtain⟨c,hc⟩:=h.words.bk e;exact oR hc (by decide))
 have k4:=h.gC.kept hw (oR h.gC.ptr (by decide)) (fun i hi=>by
  obtain⟨t,c,hb,ht⟩:=h.gC.bk hi
  exact oR hb (by rcases ht with rfl|rfl <;> decide))
 refine⟨hp.put 6 v,ar k1 hW (fun g e=>?_),k2.within hW (fun g e=>?_),k3.within hW (fun g e=>?_),k4.kept hW (far2 k4.ptr (by decide)) (fun i hi e=>Rf.fZ k4 hp (by decide) (by decide) (e ▸ hi)),ar hv hW (fun g e=>?_),?_,h.newy,fun i hi=>?_⟩
 ·obtain⟨c,hc⟩:=aU k1 e;exact far2 hc (by decide)
 ·obtain⟨c,hc⟩:=aU k2 e;exact far2 hc (by decide)
 ·obtain⟨c,hc⟩:=k3.bk e;exact far2 hc (by decide)
 ·obtain⟨c,hc⟩:=aU hv e;exact far2 hc (by decide)
 ·have hb:Below w.heap.size w W':=⟨hw.os.trans h.gr.os,hw.tape.trans h.gr.tape,hw.output.trans h.gr.output,Nat.le_trans h.gr.size hw.size,fun i hi=>(hw.block i (Nat.lt_of_lt_of_le hi h.gr.size) (fun e=>by have:=hn i e;omega)).trans (h.gr.block i hi)⟩
  exact hb.setCell (p:=⟨Y.y,6,N⟩) h.newy v
 ·rcases hi with e | e | e | e | e | e | e
  ·exact h.new i (.inl e)
  ·exact h.new i (.inr (.inl e))
  ·exact h.new i (.inr (.inr (.inl e)))
  ·exact h.new i (.inr (.inr (.inr (.inl e))))
  ·exact h.new i (.inr (.inr (.inr (.inr (.inl e)))))
  ·exact⟨Nat.le_trans hbase (World.ownsRow.lt hv i e).1,.inr (World.ownsRow.lt hv i e).1⟩
  ·exact h.new i (.inr (.inr (.inr (.inr (.inr (.inr e))))))
theorem um.ey {init r7:List Int}(h:um w base k Y init (zN k init r7).cs k.n W)(hk:gG k)(hi:init.length=jS k.zs)(hiu:gE init)(hru:gE r7):Ey W Y k (zN k init r7):=by
 refine⟨h.ptr,h.code,h.cells,h.words,h.gC,⟨_,_,_,Aj k.n k.each hk.n64 hk.each⟩,oy h.cores,hk,⟨hiu,hi,fun t ht=>⟨rfl,?_⟩⟩⟩
 intro x hx
 simp only[zN,List.mem_cons,List.not_mem_nil,or_false] at hx
 have:=hru.at_ t
 omega
end
structure GV (k:Lk)(init r7:List Int)(a b:Nat)(tg:aP->Bool):Prop extends DX k init r7 tg where
 sa:a<=100
 sb:b<=100
 pl:∀ l:List kp,decide ((fp k (jT k init r7) l).bad=Z/\cr k.n (fp k (jT k init r7) l).l=(fp k (jT k init r7) l).l.length)=V
 se:∀ calls:Nat,(fM k (100*(k.n+1)*(calls+1)) ⟨jT k init r7,fun _=>calls,0⟩).got=k.n*calls/\
  (fM k (100*(k.n+1)*(calls+1)) ⟨jT k init r7,fun _=>calls,0⟩).r.bad=Z/\
  cr k.n (fM k (100*(k.n+1)*(calls+1)) ⟨jT k init r7,fun _=>calls,0⟩).r.l=(fM k (100*(k.n+1)*(calls+1)) ⟨jT k init r7,fun _=>calls,0⟩).r.l.length
 re:k.n<=8->∀ (l:List kp) (t:Nat),t<k.n->∃ r2 r3 r4,fQ k 5000 (fp k (jT k init r7) l)=(V,r2)/\r2.bad=Z/\bq k t a (dO k r2 ⟨1,t,Z⟩)=r3/\r3.act t=2/\
  bq k t b (dO k r3 ⟨2,t,Z⟩)=r4/\r4.bad=Z/\r4.act t=0/\cr k.n r4.l=r4.l.length
