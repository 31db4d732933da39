import Derived.Test.YtieiifdhdjhnoaaGreatDoorQAsmF
import Derived.Test.YtieiifdhdjhnoaaGreatDoorQWdA
import Derived.Test.YtieiifdhdjhnoaaGreatDoorQAsmD
import Derived.Test.YtieiifdhdjhnoaaGreatDoorQArR
import Derived.BigQuiet
import Derived.Deep.DeepCutAuto
import Derived.Deep.CutBlock
set_option linter.unusedVariables false
set_option maxHeartbeats 4000000
set_option maxRecDepth 100000
open Go.Value renaming int->I,slice->K,pointer->J
open Go.IntKind renaming i64->Q,u32->N
open Option renaming none->O,some->Z
open Bool renaming false->V,true->T
open Go.Obj renaming cells->H
open Go.Lib renaming hid->G
open Go.RowKit.Below renaming refl->F
open Nat renaming le_refl->E
namespace Go.Proofs.YtieiifdhdjhnoaaGreatDoor
open Go.ChangeShapes Go.WideShapes Go.ChangeAt Go.RowKit
theorem aj (z:World)(n:Nat):Below z.heap.size z (z.drewN n):=⟨rfl,rfl,rfl,E _,fun _ _=>rfl⟩
structure Fl (w:World)(U:RP)(k:Lk)(r:Rn)(w':World)(U':RP):Prop where
 ru:Ru w' U' k r
 st:bi w k.n U w' U'
 few:ag w w' (fun i=>i=U.g\/U.lv.ownBlock=Z i)
section
variable {w:World}{U:RP}{k:Lk}{r:Rn}
theorem yj:(Tryz.prog.info? 93).map (fun i=>(i.zero,i.size,i.bytes))=Z (Z (.agg #[I Q 0,I Q 0,I Q 0]),3,24):=by kernel_rfl
theorem j8 (h:Ru w U k r)(kd:Int)(t:Nat)(hl:r.l.length<1000000000):
 Calls Tryz.prog 68 #[J (Z ⟨U.g,0,O⟩),I Q kd,I Q t] w fun e w'=>e=.returned (.tuple #[])/\∃ U',Fl w U k { r with l:=r.l++[⟨kd,t,0⟩] } w' U':=by
 have c2:=h.c2
 have HO:=G (World.ownsRow.alloc h.ja (H #[I Q kd,I Q (t:Int),I Q 0] 93))
 have HN:=G (fB (Nb.made 93 w kd (t:Int) 0))
 have HL:=G hl
 have HE:Hid (∀ w' v',w'.ownsRow 0 93 3 v' (r.l.length+1) (rJ r.l++Fp ⟨kd,(t:Int),0⟩)->(w.alloc (H #[I Q kd,I Q (t:Int),I Q 0] 93)).grownBy w' U.lv.ownBlock->(v'.ownBlock=U.lv.ownBlock\/v'.ownBlock=Z (w.alloc (H #[I Q kd,I Q (t:Int),I Q 0] 93)).heap.size)->
  (w'.cell? ⟨U.g,2,O⟩=Z U.lv/\w'.frozen? ⟨U.g,2,O⟩=V)/\∃ U',Fl w U k { r with l:=r.l++[⟨kd,(t:Int),0⟩] } (w'.setCell ⟨U.g,2,O⟩ v') U'):=G (fun w' v' ho hg hloc=>by
  have hw:ag w w' (fun b=>U.lv.ownBlock=Z b):=((ag.refl w (fun b=>U.lv.ownBlock=Z b)).alloc _).aJ (ag.aT (S:=fun b=>U.lv.ownBlock=Z b) hg (fun i e=>.inl e)) (fun i hi=>.inl hi)
  have hp:=h.ptr.within hw h.lg
  have hput:=h.putL (lv':=v') (l':=r.l++[⟨kd,(t:Int),0⟩]) hw ?_ ?_
  refine⟨⟨hp.cell 2,hp.free 2⟩,_,hput.1,hput.2,?_⟩
  ·exact(hw.wide (S':=fun i=>i=U.g\/U.lv.ownBlock=Z i) (fun i e _=>.inr e)).aJ ((ag.refl w' (fun b=>b=U.g)).put U.g 2 v' (.inl rfl)) (fun i e=>.inl (.inl e))
  ·unfold BP
   rw[yl,List.length_append]
   exact ho
  ·intro g e
   rcases hloc with e2 | e2
   ·exact .inl (by rw[<-e2];exact e)
   ·rw[e2] at e
    injection e with e
    right
    rw[World.size_alloc] at e
    omega)
 clear h hl
 generalize U.lv=lv at *
 go_enter Tryz.func68,Tryz.ntmps68
 go_wp2_with (at_builtin;refine D5 rfl _ _ 83 rfl _ 24 Tryz.underlying83 yj rfl (by omega) (by omega) HO.out rfl (Fp ⟨kd,(t:Int),0⟩) rfl (Dk _) w.heap.size rfl HN.out HL.out (Nat.zero_le _) ?_;intro v' w' hown hgr hloc;obtain⟨⟨c2',f2'⟩,hR⟩:=HE.out w' v' hown hgr hloc;obtain⟨a2,cap2,rfl,_,_,_⟩:=aX hown)
 go_end0
 exact⟨rfl,hR⟩
end
def gG (k:Lk):Prop:=∀ (w:World) (Y:YP) (m:Mc) (t:Nat) (L:Int),Ey w Y k m->t<k.n->
 Calls Tryz.prog 25 #[J (Z ⟨Y.y,0,O⟩),I Q t,I Q L] w (eF w Y k (bC k m t (decide (L≠0))))
structure SI (w:World)(Y0:YP)(k:Lk)(xs:List Int)(pc:Int)(Y:YP)(m:Mc)(W:World):Prop where
 ey:Ey W Y k m
 st:br w k.n Y0 W Y
 q:Bk W w.heap.size 64 #[K O 0 0,I Q 0,I Q 0,I Q 0,I Q 0,I Q 0]
 c:Rb W (w.heap.size+1) xs pc
 tr:Bk W (w.heap.size+1+1) 64 #[K O 0 0,I Q (-1),I Q (-1),I Q 0,I Q 0,I Q 11]
 mZ:∀ i,Y.Own k.n i->i<w.heap.size\/w.heap.size+4<=i
section
variable {w W W':World}{Y0 Y:YP}{k:Lk}{m:Mc}{xs:List Int}{pc:Int}
theorem SI.below (h:SI w Y0 k xs pc Y m W)(hb:Below W.heap.size W W'):SI w Y0 k xs pc Y m W':=
 ⟨h.ey.below hb,h.st.grown hb,(hb.block _ h.q.lt).trans h.q,h.c.below hb,(hb.block _ h.tr.lt).trans h.tr,h.mZ⟩
theorem SI.off (h:SI w Y0 k xs pc Y m W){b:Nat}(hW:ag W W' (fun i=>i=b))(h1:w.heap.size+1<b)(h2:b≠w.heap.size+1+1)(h3:∀ i,Y.Own k.n i->i≠b):SI w Y0 k xs pc Y m W':=
 ⟨h.ey.kept hW (fun i hi e=>h3 i hi e),h.st.BU hW (fun i e=>by omega),h.q.within hW (by omega),Bk.within h.c hW (by omega),h.tr.within hW (by omega),h.mZ⟩
theorem SI.core {ys:List Int}{pc':Int}(h:SI w Y0 k xs pc Y m W)(hW:ag W W' (fun i=>i=w.heap.size+1))(hc:Rb W' (w.heap.size+1) ys pc'):SI w Y0 k ys pc' Y m W':=
 ⟨h.ey.kept hW (fun i hi e=>by have:=h.mZ i hi;omega),h.st.BU hW (fun i e=>by omega),h.q.within hW (by omega),hc,h.tr.within hW (by omega),h.mZ⟩
theorem SI.Fn (h:SI w Y0 k xs pc Y m W)(h8:xs.length=8){d:Nat}(hd:d<8)(v:Int):SI w Y0 k (xs.set d v) pc Y m (W.setCell ⟨w.heap.size+1,d,O⟩ (I Q v)):=
 h.core ((ag.refl _ (fun i=>i=w.heap.size+1)).put _ _ _ (.inl rfl)) (h.c.set h8 hd v)
theorem SI.place (h:SI w Y0 k xs pc Y m W)(h8:xs.length=8)(v:Int):SI w Y0 k xs v Y m (W.setCell ⟨w.heap.size+1,8,O⟩ (I Q v)):=
 h.core ((ag.refl _ (fun i=>i=w.heap.size+1)).put _ _ _ (.inl rfl)) (h.c.zi h8 v)
theorem cT (W:World)(g o:Nat)(v:Value):ag W (W.setCell ⟨g,o,O⟩ v) (fun i=>i=g):=(ag.refl _ (fun i=>i=g)).put _ _ _ (.inl rfl)
theorem aO (x:World)(n:Nat):Below x.heap.size x (x.drewN n):=⟨rfl,rfl,rfl,E _,fun _ _=>rfl⟩
theorem bT {x:Int}(h:0<=x/\x<4294967296):x % 4294967296=x:=by omega
theorem Ev {i:aU}(h:Fr i)(hm:fp i.op=V):i.op<16:=by
 have ho:=h.op
 unfold fp at hm
 simp at hm
 omega
end
section
variable {w w':World}{Y:YP}{k:Lk}{m:Mc}
theorem Fv (h:Ey w Y k m)(t:Nat)(ht:t<k.n)(late:Int)(hm:ke k (m.cs t).pc=O):
 Calls Tryz.prog 25 #[J (Z ⟨Y.y,0,O⟩),I Q t,I Q late] w (eF w Y k (m,jK)):=by
 have hnn:=h.lk.n64
 have hl64:=h.lk.parts.2.1
 obtain⟨r0,r1,r2,r3,r4,r5,r6,r7,pc,ec⟩:=h.eb ht
 have hx8:cX [r0,r1,r2,r3,r4,r5,r6,r7]:=by have:=h.mc.cs t ht;rw[ec] at this;exact this
 have HX:=G h
 rw[ec] at hm
 have q0:=Bk.made w 64 #[K O 0 0,I Q 0,I Q 0,I Q 0,I Q 0,I Q 0]
 have b0:Below w.heap.size w (w.alloc (H #[K O 0 0,I Q 0,I Q 0,I Q 0,I Q 0,I Q 0] 64)):=(F _ _).alloc (E _) _
 have s0:(w.alloc (H #[K O 0 0,I Q 0,I Q 0,I Q 0,I Q 0,I Q 0] 64)).heap.size=w.heap.size+1:=by simp
 go_enter Tryz.func25,Tryz.ntmps25
 go_upto_region 1 with fail
 generalize w.alloc (H #[K O 0 0,I Q 0,I Q 0,I Q 0,I Q 0,I Q 0] 64)=y at *
 have h2:=h.below b0
 obtain⟨gk,capk,ek,hk1,hk2,hkb,hkf,-⟩:=h2.qk
 unfold maxLen at hk2
 have cx6:=h2.c6
 rw[ek] at cx6
 obtain⟨c0,c1,c2,c3,c4,c5,c6,c7,c8⟩:=h2.core ht ec ek
 go_upto_region 2 with fail
 have q1:=Rb.made y [r0,r1,r2,r3,r4,r5,r6,r7] pc
 have s1:(y.alloc (H #[I Q r0,I Q r1,I Q r2,I Q r3,I Q r4,I Q r5,I Q r6,I Q r7,I Q pc] 111)).heap.size=w.heap.size+1+1:=by rw[World.size_alloc,s0]
 rw[s0] at q1
 simp only[dE,List.map_cons,List.map_nil,List.cons_append,List.nil_append] at q1
 have b1:Below y.heap.size y (y.alloc (H #[I Q r0,I Q r1,I Q r2,I Q r3,I Q r4,I Q r5,I Q r6,I Q r7,I Q pc] 111)):=(F _ _).alloc (E _) _
 replace q0:=(b1.block _ q0.lt).trans q0
 have h3:=h2.below b1
 replace b0:=b0.trans (b1.mono b0.size)
 clear c0 c1 c2 c3 c4 c5 c6 c7 c8 cx6 h2 b1 hkf s0 h hk1 hk2 hkb ek
 generalize y.alloc (H #[I Q r0,I Q r1,I Q r2,I Q r3,I Q r4,I Q r5,I Q r6,I Q r7,I Q pc] 111)=z at *
 go_upto_region 3 with fail
 have b1:Below z.heap.size z (z.alloc (H #[K O 0 0,I Q (-1),I Q (-1),I Q 0,I Q 0,I Q 11] 64)):=(F _ _).alloc (E _) _
 have q2:=Bk.made z 64 #[K O 0 0,I Q (-1),I Q (-1),I Q 0,I Q 0,I Q 11]
 have s2:(z.alloc (H #[K O 0 0,I Q (-1),I Q (-1),I Q 0,I Q 0,I Q 11] 64)).heap.size=w.heap.size+1+1+1:=by rw[World.size_alloc,s1]
 rw[s1] at q2
 have hS:SI w Y k [r0,r1,r2,r3,r4,r5,r6,r7] pc Y m (z.alloc (H #[K O 0 0,I Q (-1),I Q (-1),I Q 0,I Q 0,I Q 11] 64)):=⟨h3.below b1,(br.aT b0).grown b1,(b1.block _ (Bk.lt q0)).trans q0,(b1.block _ (Bk.lt q1)).trans q1,q2,fun i hi=>.inl (HX.out.lt hi)⟩
 clear h3 b0 b1 q0 q1 q2 s1
 have HS2:=G s2
 clear s2
 generalize z.alloc (H #[K O 0 0,I Q (-1),I Q (-1),I Q 0,I Q 0,I Q 11] 64)=x at *
 have HS:=G hS
 have cx0:=hS.ey.c0
 obtain⟨hpv,aV,cV,eV⟩:=hS.ey.pv
 rw[eV] at cx0 hpv
 obtain⟨a2,ca2,e2,_,_,_,hsl⟩:=hpv
 simp only[Value.agg.injEq,Array.mk.injEq,List.cons.injEq,Value.slice.injEq,and_true,true_and] at e2
 obtain⟨rfl,rfl⟩:=e2
 have HV:=G eV
 clear eV
 obtain⟨c0,c1,c2,c3,c4,c5,c6,c7,c8⟩:=hS.c.cells
 rcases xK hm with h1 | h1 | ⟨j,h1,h2,h3,h4⟩
 ·clear hm
  simp only at h1
  clear hsl hS
  go_quiet (fail)
  go_upto_region 4 with fail
  have hS3:=HS.out.below (aO x nq)
  clear c0 c1 c2 c3 c4 c5 c6 c7 c8 cx0
  generalize x.drewN nq=v at *
  obtain⟨t0,t1,t2,t3,t4,t5⟩:=hS3.tr.pd
  have q5:=hS3.q
  have HT:=G hS3
  obtain⟨x0,x1,x2,x3,x4,x5⟩:=q5.pd
  have zf:=Bk.free q5
  have o1:=ep q5 (K O 0 0) (I Q (-1)) (I Q (-1)) (I Q 0) (I Q 0) (I Q 11)
  have o2:=bK (y:=v) (g:=w.heap.size) (K O 0 0) (I Q (-1)) (I Q (-1)) (I Q 0) (I Q 0) (I Q 11)
  have hC:=G (dj (Y:=Y) (r:=(m,jK)) (v:=K O 0 0) (ef.nil _ _ _) HT.out.ey HT.out.st HT.out.q (by decide) o2 (E _) (fun i hi e=>by have:=HT.out.mZ i hi;omega))
  clear hS3 o2 HT
  go_wp2_with (refine bodyPost_ret (v:=.agg #[K O 0 0,I Q (-1),I Q (-1),I Q 0,I Q 0,I Q 11]) (w:=eH v w.heap.size (K O 0 0) (I Q (-1)) (I Q (-1)) (I Q 0) (I Q 0) (I Q 11)) ?hres rfl ?hpost)
  case hpost=>exact hC.out
  case hres=>
   generalize eH v w.heap.size (K O 0 0) (I Q (-1)) (I Q (-1)) (I Q 0) (I Q 0) (I Q 11)=v9 at *
   obtain⟨o0,o1,o2,o3,o4,o5⟩:=o1.pd
   simp[results,Tryz.results25,go_sem,o0,o1,o2,o3,o4,o5]
 ·clear hm
  simp only at h1
  by_cases h0:pc<0
  ·clear h1
   have h1:=h0
   clear hsl hS
   go_quiet (fail)
   go_upto_region 4 with fail
   have hS3:=HS.out.below (aO x nq)
   clear c0 c1 c2 c3 c4 c5 c6 c7 c8 cx0
   generalize x.drewN nq=v at *
   obtain⟨t0,t1,t2,t3,t4,t5⟩:=hS3.tr.pd
   have q5:=hS3.q
   have HT:=G hS3
   obtain⟨x0,x1,x2,x3,x4,x5⟩:=q5.pd
   have zf:=Bk.free q5
   have o1:=ep q5 (K O 0 0) (I Q (-1)) (I Q (-1)) (I Q 0) (I Q 0) (I Q 11)
   have o2:=bK (y:=v) (g:=w.heap.size) (K O 0 0) (I Q (-1)) (I Q (-1)) (I Q 0) (I Q 0) (I Q 11)
   have hC:=G (dj (Y:=Y) (r:=(m,jK)) (v:=K O 0 0) (ef.nil _ _ _) HT.out.ey HT.out.st HT.out.q (by decide) o2 (E _) (fun i hi e=>by have:=HT.out.mZ i hi;omega))
   clear hS3 o2 HT
   go_wp2_with (refine bodyPost_ret (v:=.agg #[K O 0 0,I Q (-1),I Q (-1),I Q 0,I Q 0,I Q 11]) (w:=eH v w.heap.size (K O 0 0) (I Q (-1)) (I Q (-1)) (I Q 0) (I Q 0) (I Q 11)) ?hres rfl ?hpost)
   case hpost=>exact hC.out
   case hres=>
    generalize eH v w.heap.size (K O 0 0) (I Q (-1)) (I Q (-1)) (I Q 0) (I Q 0) (I Q 11)=v9 at *
    obtain⟨o0,o1,o2,o3,o4,o5⟩:=o1.pd
    simp[results,Tryz.results25,go_sem,o0,o1,o2,o3,o4,o5]
  have d0:decide (pc<0)=V:=by simp;omega
  have d1:pc>=(k.l.length:Int):=h1
  clear hsl hS
  go_quiet (fail)
  go_upto_region 4 with fail
  have hS3:=HS.out.below (aO x nq)
  clear c0 c1 c2 c3 c4 c5 c6 c7 c8 cx0
  generalize x.drewN nq=v at *
  obtain⟨t0,t1,t2,t3,t4,t5⟩:=hS3.tr.pd
  have q5:=hS3.q
  have HT:=G hS3
  obtain⟨x0,x1,x2,x3,x4,x5⟩:=q5.pd
  have zf:=Bk.free q5
  have o1:=ep q5 (K O 0 0) (I Q (-1)) (I Q (-1)) (I Q 0) (I Q 0) (I Q 11)
  have o2:=bK (y:=v) (g:=w.heap.size) (K O 0 0) (I Q (-1)) (I Q (-1)) (I Q 0) (I Q 0) (I Q 11)
  have hC:=G (dj (Y:=Y) (r:=(m,jK)) (v:=K O 0 0) (ef.nil _ _ _) HT.out.ey HT.out.st HT.out.q (by decide) o2 (E _) (fun i hi e=>by have:=HT.out.mZ i hi;omega))
  clear hS3 o2 HT
  go_wp2_with (refine bodyPost_ret (v:=.agg #[K O 0 0,I Q (-1),I Q (-1),I Q 0,I Q 0,I Q 11]) (w:=eH v w.heap.size (K O 0 0) (I Q (-1)) (I Q (-1)) (I Q 0) (I Q 0) (I Q 11)) ?hres rfl ?hpost)
  case hpost=>exact hC.out
  case hres=>
   generalize eH v w.heap.size (K O 0 0) (I Q (-1)) (I Q (-1)) (I Q 0) (I Q 0) (I Q 11)=v9 at *
   obtain⟨o0,o1,o2,o3,o4,o5⟩:=o1.pd
   simp[results,Tryz.results25,go_sem,o0,o1,o2,o3,o4,o5]
 ·clear hm
  simp only at h1 h2 h3
  obtain⟨n,rfl⟩:=Int.eq_ofNat_of_zero_le h1
  rw[Int.toNat_natCast] at h3
  obtain⟨g,off,rfl,hgl,f0,f1,f2,f3,f4,f5,f6,f7⟩:=hsl.at_ h3
  have d0:decide ((n:Int)<0)=V:=by simp
  have d1:decide ((n:Int)>=(k.l.length:Int))=V:=by simp;omega
  have d4:decide (k.l.length<=n)=V:=by simp;omega
  have d2:j.op<16:=Ev (HX.out.lk.ok j (List.mem_of_getElem? h3)) h4
  have d3:(n:Int)<k.l.length:=h2
  clear hsl hS f1 f2 f3 f4 f5 f6 f7 h3 h4 h1
  go_quiet (fail)
  go_upto_region 4 with fail
  have hS3:=HS.out.below (aO x nq)
  clear c0 c1 c2 c3 c4 c5 c6 c7 c8 cx0
  generalize x.drewN nq=v at *
  obtain⟨t0,t1,t2,t3,t4,t5⟩:=hS3.tr.pd
  have q5:=hS3.q
  have HT:=G hS3
  obtain⟨x0,x1,x2,x3,x4,x5⟩:=q5.pd
  have zf:=Bk.free q5
  have o1:=ep q5 (K O 0 0) (I Q (-1)) (I Q (-1)) (I Q 0) (I Q 0) (I Q 11)
  have o2:=bK (y:=v) (g:=w.heap.size) (K O 0 0) (I Q (-1)) (I Q (-1)) (I Q 0) (I Q 0) (I Q 11)
  have hC:=G (dj (Y:=Y) (r:=(m,jK)) (v:=K O 0 0) (ef.nil _ _ _) HT.out.ey HT.out.st HT.out.q (by decide) o2 (E _) (fun i hi e=>by have:=HT.out.mZ i hi;omega))
  clear hS3 o2 HT
  go_wp2_with (refine bodyPost_ret (v:=.agg #[K O 0 0,I Q (-1),I Q (-1),I Q 0,I Q 0,I Q 11]) (w:=eH v w.heap.size (K O 0 0) (I Q (-1)) (I Q (-1)) (I Q 0) (I Q 0) (I Q 11)) ?hres rfl ?hpost)
  case hpost=>exact hC.out
  case hres=>
   generalize eH v w.heap.size (K O 0 0) (I Q (-1)) (I Q (-1)) (I Q 0) (I Q 0) (I Q 11)=v9 at *
   obtain⟨o0,o1,o2,o3,o4,o5⟩:=o1.pd
   simp[results,Tryz.results25,go_sem,o0,o1,o2,o3,o4,o5]
end
def Ob (w:World)(b:Nat)(v:Value)(o:Ot):Prop:=Bk w b 64 #[v,I Q o.done,I Q o.addr,I Q (aH o.wrote),I Q (aH o.stay),I Q o.e]
def fQ (t:Nat)(ms:List Int):List En:=ms.map fun k=>⟨iX k,(t:Int),0⟩
theorem sr (t:Nat)(ms:List Int)(j:Nat)(h:j<ms.length):fQ t (ms.take (j+1))=fQ t (ms.take j)++[⟨iX (aD ms j),(t:Int),0⟩]:=by
 unfold fQ
 rw[kS ms j h,List.map_append,kb h];rfl
theorem uK (r:Rn)(t:Nat)(ms:List Int):{ r with l:=r.l++fQ t (ms.take ms.length) }=eU r t ms:=by
 unfold eU fQ;rw[List.take_length]
theorem Da (x y a b:Int):((x=a)↔(y=b))↔((x==a) != (y==b))=V:=by
 cases h1:(x==a) with
 | true=>
  have e1:=eq_of_beq h1
  cases h2:(y==b) with
  | true=>have e2:=eq_of_beq h2;exact⟨fun _=>rfl,fun _=>⟨fun _=>e2,fun _=>e1⟩⟩
  | false=>have e2:=ne_of_beq_false h2;exact⟨fun h=>absurd (h.1 e1) e2,fun h=>by cases h⟩
 | false=>
  have e1:=ne_of_beq_false h1
  cases h2:(y==b) with
  | true=>have e2:=eq_of_beq h2;exact⟨fun h=>absurd (h.2 e2) e1,fun h=>by cases h⟩
  | false=>have e2:=ne_of_beq_false h2;exact⟨fun _=>rfl,fun _=>⟨fun h=>absurd h e1,fun h=>absurd h e2⟩⟩
theorem CH (x:Int)(h0:0<=x)(h5:x<5):∀ W:World,Sem.run Tryz.prog (Instr.index 209 (.agg #[I Q 0,I Q 2,I Q 3,I Q 4,I Q 9]) (I Q x)) W=.ok (I Q (iX x)) W:=by
 intro W
 have hx:x=0\/x=1\/x=2\/x=3\/x=4:=by omega
 rcases hx with rfl|rfl|rfl|rfl|rfl <;> rfl
section
variable {w:World}{U:RP}{k:Lk}{r:Rn}
theorem zn (h:Ru w U k r)(t:Nat)(ht:t<k.n)(o:Ot)(mv:Value)(hm:ef .i64 3 w mv o.ms)(hmk:∀ x∈o.ms,0<=x/\x<5)(hl:r.l.length+o.ms.length+1<1000000000):
 Calls Tryz.prog 69 #[J (Z ⟨U.g,0,O⟩),I Q t,ro mv o] w fun e w'=>e=.returned (.tuple #[])/\vz w U k (bA r t o) w':=by
 have hbz:Below w.heap.size w (w.alloc (H #[mv,I Q o.done,I Q o.addr,I Q (aH o.wrote),I Q (aH o.stay),I Q o.e] 64)):=(F _ _).alloc (E _) _
 have hOb:Ob (w.alloc (H #[mv,I Q o.done,I Q o.addr,I Q (aH o.wrote),I Q (aH o.stay),I Q o.e] 64)) w.heap.size mv o:=Bk.made _ _ _
 have hz:=h.below hbz
 have hmz:=hm.within (af hbz) (fun _ _ h=>h)
 have HUZ:Hid (∀ u,vz (w.alloc (H #[mv,I Q o.done,I Q o.addr,I Q (aH o.wrote),I Q (aH o.stay),I Q o.e] 64)) U k (bA r t o) u->vz w U k (bA r t o) u):=G (fun u ⟨U',h1,h2⟩=>⟨U',h1,((bi.refl w k.n U).grown hbz).aJ h2⟩)
 have HCR:Hid (bA r t o=(let r:=eU r t o.ms
  if o.e≠0\/(0<=o.done/\¬ ((o.done=2)↔(r.act t=3))) then { r with bad:=T }
  else if o.done=0 then { enter r 6 t with act:=bp r.act t 0 }
  else if o.done=1 then { enter r 5 t with act:=bp r.act t 2 }
  else if o.done=2 then { enter r 10 t with act:=bp r.act t 0 }
  else if o.done=3 then { enter r 7 t with act:=bp r.act t 0 }
  else r)):=G rfl
 generalize bA r t o=CR at *
 have HMK:=G hmk
 have HNx:=G (fun j h=>sr t o.ms j h)
 have HAll:=G (uK r t o.ms)
 have HL:=G hl
 have HT:=G ht
 unfold ro
 obtain⟨am,cm,rfl,hm1,hm2,_⟩:=hm.is
 obtain⟨ms,dn,ad,wr_,sy,er⟩:=o
 simp only at *
 clear h hmk hm hl
 go_enter Tryz.func69,Tryz.ntmps69
 go_upto_region 1 with fail
 have hbl:w.heap.size<(w.alloc (H #[K am ms.length cm,I Q dn,I Q ad,I Q (aH wr_),I Q (aH sy),I Q er] 64)).heap.size:=Bk.lt hOb
 generalize w.alloc (H #[K am ms.length cm,I Q dn,I Q ad,I Q (aH wr_),I Q (aH sy),I Q er] 64)=z at *
 generalize w.heap.size=b at *
 simp only[maxLen] at hm2
 have HZ:=G hz
 have HM:=G hmz
 have HB:=G hOb
 obtain⟨e0,e1,e5⟩:z.cell? ⟨b,0,O⟩=Z (K am ms.length cm)/\z.cell? ⟨b,1,O⟩=Z (I Q dn)/\z.cell? ⟨b,5,O⟩=Z (I Q er):=⟨hOb.cell 0,hOb.cell 1,hOb.cell 5⟩
 clear hz hmz hOb hbz
 go_wp2
 go_loopw [11] (fun x wr=>∃ (j:Nat) (U':RP),x=I Q j/\j<=ms.length/\Hid (Ru wr U' k { r with l:=r.l++fQ t (ms.take j) }/\bi z k.n U wr U')/\Hid (ef .i64 3 wr (K am ms.length cm) ms)/\Hid (Ob wr b (K am ms.length cm) ⟨ms,dn,ad,wr_,sy,er⟩)) (fun x _=>ms.length-(intOf x).toNat)
 case atStart=>exact⟨0,U,rfl,Nat.zero_le _,G ⟨by have:=HZ.out;simpa [fQ] using this,bi.refl _ _ _⟩,HM,HB⟩
 case round=>
  obtain⟨j,U',rfl,hj,HR,HMr,HBr⟩:=hrel
  obtain⟨hRu,hSt⟩:=HR.out
  have hg:U'.g=U.g:=hSt.2.2.1
  have hd:U'.d=U.d:=hSt.2.2.2
  by_cases hlt:j<ms.length
  ·have hji:(j:Int)<ms.length:=by omega
   obtain⟨am2,cm2,hme,_,_,hmc⟩:=HMr.out.is
   obtain⟨gm,hgm,_,_,hcm⟩:=hmc (by omega)
   injection hme with hm1 hm2' hm3
   subst hm1
   subst hm3
   subst hgm
   have cx:=hcm j hlt
   have hx5:=HMK.out (aD ms j) (by rw[kb hlt];exact List.getElem_mem hlt)
   have hN:=HNx.out j hlt
   have hlen:(fQ t (ms.take j)).length<=ms.length:=by unfold fQ;rw[List.length_map,List.length_take];omega
   have HEn:=G (j8 hRu (iX (aD ms j)) t (by have:=HL.out;simp only[List.length_append] at this ⊢;omega))
   rw[hg] at HEn
   have HNx2:Hid (∀ w' U2,Fl wr U' k { r with l:=(r.l++fQ t (ms.take j))++[⟨iX (aD ms j),(t:Int),0⟩] } w' U2->(Ru w' U2 k { r with l:=r.l++fQ t (ms.take (j+1)) }/\bi z k.n U w' U2)/\ef .i64 3 w' (K (Z ⟨gm,0,O⟩) ms.length cm) ms/\Ob w' b (K (Z ⟨gm,0,O⟩) ms.length cm) ⟨ms,dn,ad,wr_,sy,er⟩):=G (fun w' U2 hE=>by
    have hru:=hE.ru
    rw[List.append_assoc,<-hN] at hru
    refine⟨⟨hru,hSt.aJ hE.st⟩,HMr.out.within hE.few (fun g e e2=>?_),Bk.within HBr.out hE.few (fun e2=>?_)⟩
    ·obtain⟨cs,hb⟩:=HMr.out.bk e
     rcases e2 with e2 | e2
     ·exact Bk.av hb hRu.ptr (by decide) e2
     ·obtain⟨D2,hb2⟩:=aY hRu.ja e2
      exact Bk.av hb hb2 (by decide) rfl
    ·rcases e2 with e2 | e2
     ·exact Bk.av HBr.out hRu.ptr (by decide) e2
     ·obtain⟨D2,hb2⟩:=aY hRu.ja e2
      exact Bk.av HBr.out hb2 (by decide) rfl)
   generalize hy:aD ms j=y at *
   have hix:=CH y hx5.1 hx5.2
   clear hcm hmc hx5 hN hRu hSt HR HMr HBr hy
   go_wp2_with fail
   refine HEn.out.mono ?_
   rintro e w' ⟨rfl,U2,hE⟩
   obtain⟨n1,n2,n3⟩:=HNx2.out w' U2 hE
   have N1:=G n1
   have N2:=G n2
   have N3:=G n3
   clear hE n1 n2 n3 HEn HNx2 hix cx
   go_wp2
   go_roundw
   case rel=>exact⟨j+1,U2,by go_num,by omega,N1,N2,N3⟩
   case measure=>simp[intOf];omega
  ·obtain rfl:j=ms.length:=by omega
   have hfe:({ r with l:=r.l++fQ t (ms.take ms.length) }:Rn)=eU r t ms:=HAll.out
   rw[hfe] at hRu
   have HLen:Hid ((eU r t ms).l.length=r.l.length+ms.length):=G (by unfold eU;simp)
   have e1r:wr.cell? ⟨b,1,O⟩=Z (I Q dn):=Bk.cell HBr.out 1
   have e5r:wr.cell? ⟨b,5,O⟩=Z (I Q er):=Bk.cell HBr.out 5
   have hc1:=hRu.c1
   have hx:=hRu.act HT.out
   rw[hg,hd] at hc1
   rw[hd] at hx
   have hax:(eU r t ms).act t=r.act t:=rfl
   rw[hax] at hx
   have hti:(t:Int)<(k.n:Int):=by have:=HT.out;omega
   have HC:=HCR.out
   generalize eU r t ms=rm at *
   rw[hax] at HC
   clear HR HMr HBr HNx HAll HMK hfe hax HCR
   by_cases h0:er=0
   ·have d0:(er != 0)=V:=by simpa using h0
    by_cases h1:0<=dn
    ·have d1:decide (dn>=0)=T:=decide_eq_true h1
     have d1':decide (0<=dn)=T:=decide_eq_true h1
     have hiff:=Da dn (r.act t) 2 3
     cases hb2:(dn==2) with
     | true=>
      cases hb3:(r.act t==3) with
      | true=>
       have k2:dn=2:=eq_of_beq hb2
       rw[hb2,hb3] at hiff
       have hcond:¬ (er≠0\/(0<=dn/\¬ ((dn=2)↔(r.act t=3)))):=fun e=>e.elim (fun e=>e h0) (fun e=>e.2 (hiff.2 rfl))
       rw[if_neg hcond,if_neg (by omega),if_neg (by omega),if_pos k2] at HC
       have HOK:Hid (CR={ enter rm 10 t with act:=bp rm.act t 0 }):=G HC
       have q0:(dn==0)=V:=beq_eq_false_iff_ne.2 (by omega)
       have q1:(dn==1)=V:=beq_eq_false_iff_ne.2 (by omega)
       clear HC hiff hcond k2
       go_upto_region 6 with fail
       go_quiet (fail)
       have h7:=hRu.below (aj wr nq)
       have hs7:=hSt.grown (aj wr nq)
       have e1q:(wr.drewN nq).cell? ⟨b,1,O⟩=Z (I Q dn):=e1r
       generalize wr.drewN nq=v at *
       have HEn:=G (j8 h7 10 t (by have:=HL.out;have:=HLen.out;omega))
       rw[hg] at HEn
       go_wp2_with fail
       refine HEn.out.mono ?_
       rintro e v2 ⟨rfl,U2,hE⟩
       have hru2:=hE.ru
       have hst2:=hs7.aJ hE.st
       have hg2:U2.g=U.g:=hE.st.2.2.1.trans hg
       have hd2:U2.d=U.d:=hE.st.2.2.2.trans hd
       have hput:=hru2.mp HT.out 0
       have hx:=hru2.act HT.out
       have hx2:=hru2.acts.free t
       have hc1:=hru2.c1
       rw[hg2,hd2] at hc1
       rw[hd2] at hx hx2 hput
       have hfin:=HUZ.out _ (by rw[HOK.out];exact⟨_,hput.1,hst2.aJ hput.2⟩)
       simp only at hx
       generalize rm.act t=at_ at hx
       clear hput hru2 hst2 hE HEn h7 hs7 HUZ hRu hSt HOK
       go_wp2
       go_end0
       exact⟨rfl,hfin⟩
      | false=>
       rw[hb2,hb3] at hiff
       have HBAD:Hid (CR={ rm with bad:=T }):=G (by rw[HC,if_pos (.inr ⟨h1,fun e=>by cases hiff.1 e⟩)])
       clear HC hiff
       go_upto_region 6 with fail
       go_quiet (fail)
       have h7:=hRu.below (aj wr nq)
       have hs7:=hSt.grown (aj wr nq)
       have e1q:(wr.drewN nq).cell? ⟨b,1,O⟩=Z (I Q dn):=e1r
       generalize wr.drewN nq=v at *
       obtain⟨hp1,hp2⟩:=h7.vF
       have c3:=h7.c3
       have f3:=h7.ptr.free 3
       rw[hg] at c3 f3 hp1 hp2
       have hfin:=HUZ.out _ (by rw[HBAD.out];exact⟨_,hp1,hs7.aJ hp2⟩)
       clear hp1 hp2 h7 hs7 HUZ HBAD hRu hSt
       go_wp2
       refine bodyPost_ret (results_none rfl _ _ _) rfl ?_
       exact⟨rfl,hfin⟩
     | false=>
      have k2:dn≠2:=ne_of_beq_false hb2
      cases hb3:(r.act t==3) with
      | true=>
       rw[hb2,hb3] at hiff
       have HBAD:Hid (CR={ rm with bad:=T }):=G (by rw[HC,if_pos (.inr ⟨h1,fun e=>by cases hiff.1 e⟩)])
       clear HC hiff k2
       go_upto_region 6 with fail
       go_quiet (fail)
       have h7:=hRu.below (aj wr nq)
       have hs7:=hSt.grown (aj wr nq)
       have e1q:(wr.drewN nq).cell? ⟨b,1,O⟩=Z (I Q dn):=e1r
       generalize wr.drewN nq=v at *
       obtain⟨hp1,hp2⟩:=h7.vF
       have c3:=h7.c3
       have f3:=h7.ptr.free 3
       rw[hg] at c3 f3 hp1 hp2
       have hfin:=HUZ.out _ (by rw[HBAD.out];exact⟨_,hp1,hs7.aJ hp2⟩)
       clear hp1 hp2 h7 hs7 HUZ HBAD hRu hSt
       go_wp2
       refine bodyPost_ret (results_none rfl _ _ _) rfl ?_
       exact⟨rfl,hfin⟩
      | false=>
       rw[hb2,hb3] at hiff
       have hcond:¬ (er≠0\/(0<=dn/\¬ ((dn=2)↔(r.act t=3)))):=fun e=>e.elim (fun e=>e h0) (fun e=>e.2 (hiff.2 rfl))
       rw[if_neg hcond] at HC
       clear hiff hcond
       by_cases k0:dn=0
       ·have HOK:Hid (CR={ enter rm 6 t with act:=bp rm.act t 0 }):=G (by rw[HC,if_pos k0])
        have q0:(dn==0)=T:=beq_iff_eq.2 k0
        clear HC k2 k0
        go_upto_region 6 with fail
        go_quiet (fail)
        have h7:=hRu.below (aj wr nq)
        have hs7:=hSt.grown (aj wr nq)
        have e1q:(wr.drewN nq).cell? ⟨b,1,O⟩=Z (I Q dn):=e1r
        generalize wr.drewN nq=v at *
        have HEn:=G (j8 h7 6 t (by have:=HL.out;have:=HLen.out;omega))
        rw[hg] at HEn
        go_wp2_with fail
        refine HEn.out.mono ?_
        rintro e v2 ⟨rfl,U2,hE⟩
        have hru2:=hE.ru
        have hst2:=hs7.aJ hE.st
        have hg2:U2.g=U.g:=hE.st.2.2.1.trans hg
        have hd2:U2.d=U.d:=hE.st.2.2.2.trans hd
        have hput:=hru2.mp HT.out 0
        have hx:=hru2.act HT.out
        have hx2:=hru2.acts.free t
        have hc1:=hru2.c1
        rw[hg2,hd2] at hc1
        rw[hd2] at hx hx2 hput
        have hfin:=HUZ.out _ (by rw[HOK.out];exact⟨_,hput.1,hst2.aJ hput.2⟩)
        simp only at hx
        generalize rm.act t=at_ at hx
        clear hput hru2 hst2 hE HEn h7 hs7 HUZ hRu hSt HOK
        go_wp2
        go_end0
        exact⟨rfl,hfin⟩
       by_cases k1:dn=1
       ·have HOK:Hid (CR={ enter rm 5 t with act:=bp rm.act t 2 }):=G (by rw[HC,if_neg (by omega),if_pos k1])
        have q1:(dn==1)=T:=beq_iff_eq.2 k1
        have q0:(dn==0)=V:=beq_eq_false_iff_ne.2 (by omega)
        clear HC k2 k1
        go_upto_region 6 with fail
        go_quiet (fail)
        have h7:=hRu.below (aj wr nq)
        have hs7:=hSt.grown (aj wr nq)
        have e1q:(wr.drewN nq).cell? ⟨b,1,O⟩=Z (I Q dn):=e1r
        generalize wr.drewN nq=v at *
        have HEn:=G (j8 h7 5 t (by have:=HL.out;have:=HLen.out;omega))
        rw[hg] at HEn
        go_wp2_with fail
        refine HEn.out.mono ?_
        rintro e v2 ⟨rfl,U2,hE⟩
        have hru2:=hE.ru
        have hst2:=hs7.aJ hE.st
        have hg2:U2.g=U.g:=hE.st.2.2.1.trans hg
        have hd2:U2.d=U.d:=hE.st.2.2.2.trans hd
        have hput:=hru2.mp HT.out 2
        have hx:=hru2.act HT.out
        have hx2:=hru2.acts.free t
        have hc1:=hru2.c1
        rw[hg2,hd2] at hc1
        rw[hd2] at hx hx2 hput
        have hfin:=HUZ.out _ (by rw[HOK.out];exact⟨_,hput.1,hst2.aJ hput.2⟩)
        simp only at hx
        generalize rm.act t=at_ at hx
        clear hput hru2 hst2 hE HEn h7 hs7 HUZ hRu hSt HOK
        go_wp2
        go_end0
        exact⟨rfl,hfin⟩
       by_cases k3:dn=3
       ·have HOK:Hid (CR={ enter rm 7 t with act:=bp rm.act t 0 }):=G (by rw[HC,if_neg (by omega),if_neg (by omega),if_neg (by omega),if_pos k3])
        have q3:(dn==3)=T:=beq_iff_eq.2 k3
        have q0:(dn==0)=V:=beq_eq_false_iff_ne.2 (by omega)
        have q1:(dn==1)=V:=beq_eq_false_iff_ne.2 (by omega)
        clear HC k2 k3
        go_upto_region 6 with fail
        go_quiet (fail)
        have h7:=hRu.below (aj wr nq)
        have hs7:=hSt.grown (aj wr nq)
        have e1q:(wr.drewN nq).cell? ⟨b,1,O⟩=Z (I Q dn):=e1r
        generalize wr.drewN nq=v at *
        have HEn:=G (j8 h7 7 t (by have:=HL.out;have:=HLen.out;omega))
        rw[hg] at HEn
        go_wp2_with fail
        refine HEn.out.mono ?_
        rintro e v2 ⟨rfl,U2,hE⟩
        have hru2:=hE.ru
        have hst2:=hs7.aJ hE.st
        have hg2:U2.g=U.g:=hE.st.2.2.1.trans hg
        have hd2:U2.d=U.d:=hE.st.2.2.2.trans hd
        have hput:=hru2.mp HT.out 0
        have hx:=hru2.act HT.out
        have hx2:=hru2.acts.free t
        have hc1:=hru2.c1
        rw[hg2,hd2] at hc1
        rw[hd2] at hx hx2 hput
        have hfin:=HUZ.out _ (by rw[HOK.out];exact⟨_,hput.1,hst2.aJ hput.2⟩)
        simp only at hx
        generalize rm.act t=at_ at hx
        clear hput hru2 hst2 hE HEn h7 hs7 HUZ hRu hSt HOK
        go_wp2
        go_end0
        exact⟨rfl,hfin⟩
       have HOK:Hid (CR=rm):=G (by rw[HC,if_neg k0,if_neg k1,if_neg k2,if_neg k3])
       have q0:(dn==0)=V:=beq_eq_false_iff_ne.2 k0
       have q1:(dn==1)=V:=beq_eq_false_iff_ne.2 k1
       have q3:(dn==3)=V:=beq_eq_false_iff_ne.2 k3
       clear HC k0 k1 k2 k3
       go_upto_region 6 with fail
       go_quiet (fail)
       have h7:=hRu.below (aj wr nq)
       have hs7:=hSt.grown (aj wr nq)
       have e1q:(wr.drewN nq).cell? ⟨b,1,O⟩=Z (I Q dn):=e1r
       generalize wr.drewN nq=v at *
       have hfin:=HUZ.out v (by rw[HOK.out];exact⟨_,h7,hs7⟩)
       clear h7 hs7 HUZ hRu hSt HOK
       go_wp2
       go_end0
       exact⟨rfl,hfin⟩
    ·have d1:decide (dn>=0)=V:=decide_eq_false h1
     have d1':decide (0<=dn)=V:=decide_eq_false h1
     have HOK:Hid (CR=rm):=G (by rw[HC,if_neg (fun e=>e.elim (fun e=>e h0) (fun e=>h1 e.1)),if_neg (by omega),if_neg (by omega),if_neg (by omega),if_neg (by omega)])
     have q0:(dn==0)=V:=beq_eq_false_iff_ne.2 (by omega)
     have q1:(dn==1)=V:=beq_eq_false_iff_ne.2 (by omega)
     have q2:(dn==2)=V:=beq_eq_false_iff_ne.2 (by omega)
     have q3:(dn==3)=V:=beq_eq_false_iff_ne.2 (by omega)
     clear HC
     go_upto_region 6 with fail
     go_quiet (fail)
     have h7:=hRu.below (aj wr nq)
     have hs7:=hSt.grown (aj wr nq)
     have e1q:(wr.drewN nq).cell? ⟨b,1,O⟩=Z (I Q dn):=e1r
     generalize wr.drewN nq=v at *
     have hfin:=HUZ.out v (by rw[HOK.out];exact⟨_,h7,hs7⟩)
     clear h7 hs7 HUZ hRu hSt HOK
     go_wp2
     go_end0
     exact⟨rfl,hfin⟩
   ·have d0:(er != 0)=T:=by simpa using h0
    have HBAD:Hid (CR={ rm with bad:=T }):=G (by rw[HC,if_pos (.inl h0)])
    clear HC
    go_upto_region 6 with fail
    go_quiet (fail)
    have h7:=hRu.below (aj wr nq)
    have hs7:=hSt.grown (aj wr nq)
    have e1q:(wr.drewN nq).cell? ⟨b,1,O⟩=Z (I Q dn):=e1r
    generalize wr.drewN nq=v at *
    obtain⟨hp1,hp2⟩:=h7.vF
    have c3:=h7.c3
    have f3:=h7.ptr.free 3
    rw[hg] at c3 f3 hp1 hp2
    have hfin:=HUZ.out _ (by rw[HBAD.out];exact⟨_,hp1,hs7.aJ hp2⟩)
    clear hp1 hp2 h7 hs7 HUZ HBAD hRu hSt
    go_wp2
    refine bodyPost_ret (results_none rfl _ _ _) rfl ?_
    exact⟨rfl,hfin⟩
end
structure DD (k:Lk)(init r7:List Int)(tg:aU->Bool):Prop where
 al:k.l.all tg=T
 st:gG k
 e0:k.each=0
 wf:∀ i∈k.l,i.Wf
 ok:gH k
 iu:gF init
 il:init.length=jP k.zs
 rl:r7.length=k.n
 ru:gF r7
theorem DD.sv {k:Lk}{init r7:List Int}{tg:aU->Bool}(h:DD k init r7 tg):GB ⟨k.l,k.lo,k.un⟩ k.zs init r7 k.each k.n where
 rz:=h.ok.zs
 few:=h.ok.few
 len:=h.il
 n1:=by have:=h.ok.n1;omega
 n64:=by have:=h.ok.n64;omega
 e0:=by have:=h.e0;omega
 e8:=by have:=h.e0;omega
 rl:=by rw[h.rl]
 code:=h.ok.code
section
variable {w w' W W':World}{Y Y0 Y':YP}{k:Lk}{m m':Mc}{xs:List Int}{pc:Int}
theorem SI.gy (h:SI w Y0 k xs pc Y m W)(hz:w.heap.size+4<=W.heap.size)(e:Ey W' Y' k m')(s:br W k.n Y W' Y'):SI w Y0 k xs pc Y' m' W':=
 ⟨e,h.st.aJ s,h.q.within s.1 (fun e=>by have:=h.mZ _ e;omega),Bk.within h.c s.1 (fun e=>by have:=h.mZ _ e;omega),h.tr.within s.1 (fun e=>by have:=h.mZ _ e;omega),fun i hi=>by
  rcases s.2.1 i hi with q | q
  ·exact h.mZ i q
  ·exact .inr (by omega)⟩
theorem lm {zs:List Int}{area x:Int}{A:Nat}(h:gC zs area x=Z A):A<jP zs:=by
 unfold gC at h
 split at h
 ·rename_i hc
  injection h with h
  obtain⟨B,rfl⟩:=Int.eq_ofNat_of_zero_le hc.1
  have:=Bi (zs:=zs) (a:=B) (p:=(x % 4096).toNat) (by omega) (by have:=hc.2.2;rw[Int.toNat_natCast] at this;omega)
  rw[Int.toNat_natCast] at h
  omega
 ·cases h
def So (W:World)(b A:Nat)(WR ST D:Int):Prop:=Bk W b 64 #[K O 0 0,I Q D,I Q A,I Q WR,I Q ST,I Q 0]
theorem So.cells {b A:Nat}{WR ST D:Int}(h:So W b A WR ST D):W.cell? ⟨b,0,O⟩=Z (K O 0 0)/\W.cell? ⟨b,1,O⟩=Z (I Q D)/\W.cell? ⟨b,2,O⟩=Z (I Q A)/\W.cell? ⟨b,3,O⟩=Z (I Q WR)/\W.cell? ⟨b,4,O⟩=Z (I Q ST)/\W.cell? ⟨b,5,O⟩=Z (I Q 0):=
 ⟨Bk.cell h 0,Bk.cell h 1,Bk.cell h 2,Bk.cell h 3,Bk.cell h 4,Bk.cell h 5⟩
end
section
variable {k:Lk}{m:Mc}{t:Nat}{c:zE}{late:Bool}{i:aU}{a:Nat}
theorem Ba (h:i.op=16):oY k m t c late i a=iD k m t ⟨c.xs.set i.d.toNat (aD m.ws a),c.pc+1⟩ ⟨[],0,a,V,V,0⟩:=by
 unfold oY;simp[h]
theorem ze (h:i.op=17):oY k m t c late i a=iD k { m with ws:=m.ws.set a (aD c.xs i.t.toNat) } t ⟨c.xs,c.pc+1⟩ ⟨[],0,a,T,V,0⟩:=by
 unfold oY;simp[h]
theorem A9 (h:i.op=18):oY k m t c late i a=iD k { m with ws:=m.ws.set a (aD c.xs i.t.toNat) } t ⟨c.xs.set i.d.toNat (aD m.ws a),c.pc+1⟩ ⟨[],0,a,T,V,0⟩:=by
 unfold oY;simp[h]
theorem qe (h:i.op=21):oY k m t c late i a=if (decide (aD m.ws a=aD c.xs i.t.toNat) != decide (i.k=1))=T then iD k m t ⟨c.xs.set i.d.toNat (aD m.ws a),c.pc+1⟩ ⟨[],0,a,V,V,0⟩
 else if late=V\/i.pl<0 then ({ m with cs:=bp m.cs t ⟨c.xs.set i.d.toNat (aD m.ws a),c.pc⟩ },⟨[],-1,a,V,T,0⟩)
 else iD k m t ⟨c.xs.set i.d.toNat (aD m.ws a),i.pl⟩ ⟨[],0,a,V,V,0⟩:=by
 unfold oY;simp[h]
end
theorem zZ {W:World}{cap0:Nat}{a0:Option Addr}{xs:List Int}(h:dQ .u32 W a0 xs)(hm:xs.length<=100000):
 ∃ v' W',(Builtin.append_ #[26,26] 26 #[K O 0 0,K a0 xs.length cap0]).run Tryz.prog W=.ok v' W'/\ef .u32 70 W' v' xs/\Below W.heap.size W W'/\∀ g,v'.ownBlock=Z g->W.heap.size<=g:=by
 obtain⟨i0,hi0,hz0,hz1,hz2⟩:=info_parts B3
 by_cases h0:xs=[]
 ·subst h0
  refine⟨K O 0 0,W,?_,ef.nil _ _ _,F _ _,fun g e=>by cases e⟩
  have hu:Tryz.prog.underlying 26=Z (.slice 70):=Tryz.underlying26
  have hl:∀ (x:Addr),(loadCells x 0).run Tryz.prog W=.ok #[] W:=fun x=>by simpa using run_loadCells_list (P:=Tryz.prog) W x [] (by simp)
  cases a0 <;> simp[Builtin.append_,run_underlying hu,sizeOf,typeInfo,hi0,Builtin.lenOf,Builtin.firstCells,hl]
 ·obtain⟨b',off,rfl,hlt,hc⟩:=h (List.length_pos_iff.2 h0)
  obtain⟨v',W',hr,ho,hg,_⟩:=run_append_own (P:=Tryz.prog) W W.heap.size 26 26 70 i0 _ 1 4 Tryz.underlying26 hi0 hz0 hz1 hz2 rfl (by omega) (K O 0 0) 0 [] (World.ownsRow_nil _ _ _ _) ⟨b',off,O⟩ xs.length cap0 (xs.map (Value.int .u32)) (by simp) (ye hc) (by intro u hu;simp at hu;obtain⟨x,_,rfl⟩:=hu;rfl) (by unfold maxLen;omega) (by omega) (E _)
  rw[Nat.zero_add,List.nil_append] at ho
  exact⟨v',W',hr,World.ownsRow.mono (base':=0) ho (Nat.zero_le _),aQ hg,fun g e=>(World.ownsRow.lt ho g e).1⟩
structure ud (w:World)(base:Nat)(k:Lk)(Y:YP)(ws:List Int)(cs:Nat->zE)(j:Nat)(W:World):Prop where
 ptr:Bk W Y.y 90 #[Y.cv,I Q k.lo,I Q k.un,Y.cl,Y.wl,J (Z ⟨Y.x,0,O⟩),Y.kl,I Q Y.ac]
 code:W.ownsRow 0 123 8 Y.cv k.l.length (bu k.l)
 cells:Cs 0 W Y.cl (oX k.zs)
 words:ef .u32 70 W Y.wl ws
 gy:Rf W Y.x k.n k.each Y.R (rG k.n k.each).free (rG k.n k.each).gen (rG k.n k.each).out
 cores:W.ownsRow w.heap.size 111 9 Y.kl j (fH cs j)
 gr:Below w.heap.size w W
 newy:w.heap.size<=Y.y
 new:∀ i,Y.Own k.n i->base<=i/\(Y.cv.ownBlock=Z i\/w.heap.size<=i)
section
variable {w W W':World}{base:Nat}{k:Lk}{Y:YP}{ws:List Int}{cs:Nat->zE}{j:Nat}
theorem ud.kept (h:ud w base k Y ws cs j W){S:Nat->Prop}(hw:ag W W' S)(hn:∀ i,S i->w.heap.size<=i)(h1:¬ S Y.y)(h2:∀ g,Y.cv.ownBlock=Z g->¬ S g)(h3:∀ g,Y.cl.ownBlock=Z g->¬ S g)(h4:∀ g,Y.wl.ownBlock=Z g->¬ S g)(h5:¬ S Y.x)(h6:∀ g,Y.kl.ownBlock=Z g->¬ S g)(h7:∀ i,Y.R.Has k.n i->¬ S i):ud w base k Y ws cs j W':=
 ⟨h.ptr.within hw h1,ar h.code hw h2,h.cells.within hw h3,h.words.within hw h4,h.gy.kept hw h5 h7,ar h.cores hw h6,
  ⟨hw.os.trans h.gr.os,hw.tape.trans h.gr.tape,hw.output.trans h.gr.output,Nat.le_trans h.gr.size hw.size,fun i hi=>(hw.block i (Nat.lt_of_lt_of_le hi h.gr.size) (fun e=>by have:=hn i e;omega)).trans (h.gr.block i hi)⟩,h.newy,h.new⟩
theorem ud.below (h:ud w base k Y ws cs j W)(hb:Below W.heap.size W W'):ud w base k Y ws cs j W':=
 h.kept (af hb) (by simp) (by simp) (by simp) (by simp) (by simp) (by simp) (by simp) (by simp)
theorem ud.D6 (h:ud w base k Y [] cs j W){v:Value}(hl:ef .u32 70 W v ws)(hn:∀ g,v.ownBlock=Z g->base<=g/\w.heap.size<=g):ud w base k { Y with wl:=v } ws cs j (W.setCell ⟨Y.y,4,O⟩ v):=by
 have hW:=cT W Y.y 4 v
 have mZ:∀ {g:Nat} {t:TypeId} {c:Array Value},Bk W g t c->t≠90->g≠Y.y:=fun hb ht e=>Bk.av hb h.ptr ht e
 refine⟨h.ptr.put 4 v,ar h.code hW (fun g e=>?_),h.cells.within hW (fun g e=>?_),hl.within hW (fun g e=>?_),h.gy.kept hW (mZ h.gy.ptr (by decide)) (fun i hi e=>Rf.fX h.gy h.ptr (by decide) (by decide) (e ▸ hi)),ar h.cores hW (fun g e=>?_),
  h.gr.setCell (p:=⟨Y.y,4,O⟩) h.newy v,h.newy,fun i hi=>?_⟩
 ·obtain⟨c,hc⟩:=aY h.code e;exact mZ hc (by decide)
 ·obtain⟨c,hc⟩:=aY h.cells e;exact mZ hc (by decide)
 ·obtain⟨c,hc⟩:=hl.bk e;exact mZ hc (by decide)
 ·obtain⟨c,hc⟩:=aY h.cores e;exact mZ hc (by decide)
 ·rcases hi with e | e | e | e | e | e | e
  ·exact h.new i (.inl e)
  ·exact h.new i (.inr (.inl e))
  ·exact h.new i (.inr (.inr (.inl e)))
  ·exact⟨(hn i e).1,.inr (hn i e).2⟩
  ·exact h.new i (.inr (.inr (.inr (.inr (.inl e)))))
  ·exact h.new i (.inr (.inr (.inr (.inr (.inr (.inl e))))))
  ·exact h.new i (.inr (.inr (.inr (.inr (.inr (.inr e))))))
theorem ud.grow (h:ud w base k Y ws cs j W)(hg:W.grownBy W' Y.kl.ownBlock)(hn:∀ g,Y.kl.ownBlock=Z g->w.heap.size<=g):
 Bk W' Y.y 90 #[Y.cv,I Q k.lo,I Q k.un,Y.cl,Y.wl,J (Z ⟨Y.x,0,O⟩),Y.kl,I Q Y.ac]/\∀ v,W'.ownsRow w.heap.size 111 9 v (j+1) (fH cs (j+1))->base<=w.heap.size->ud w base k { Y with kl:=v } ws cs (j+1) (W'.setCell ⟨Y.y,6,O⟩ v):=by
 have hw:ag W W' (fun i=>Y.kl.ownBlock=Z i):=.aT hg (fun i e=>.inl e)
 have mZ:∀ {g:Nat} {t:TypeId} {c:Array Value},Bk W g t c->t≠111->¬ Y.kl.ownBlock=Z g:=fun hb ht e=>by
  obtain⟨c,hc⟩:=aY h.cores e
  exact Bk.av hb hc ht rfl
 have hp:=h.ptr.within hw (mZ h.ptr (by decide))
 refine⟨hp,fun v hv hbase=>?_⟩
 have hW:=cT W' Y.y 6 v
 have far2:∀ {g:Nat} {t:TypeId} {c:Array Value},Bk W' g t c->t≠90->g≠Y.y:=fun hb ht e=>Bk.av hb hp ht e
 have k1:W'.ownsRow 0 123 8 Y.cv k.l.length (bu k.l):=ar h.code hw (fun g e=>by obtain⟨c,hc⟩:=aY h.code e;exact mZ hc (by decide))
 have k2:Cs 0 W' Y.cl (oX k.zs):=h.cells.within hw (fun g e=>by obtain⟨c,hc⟩:=aY h.cells e;exact mZ hc (by decide))
 have k3:ef .u32 70 W' Y.wl ws:=h.words.within hw (fun g e=>by obtain⟨c,hc⟩:=h.words.bk e;exact mZ hc (by decide))
 have k4:=h.gy.kept hw (mZ h.gy.ptr (by decide)) (fun i hi=>by
  obtain⟨t,c,hb,ht⟩:=h.gy.bk hi
  exact mZ hb (by rcases ht with rfl|rfl <;> decide))
 refine⟨hp.put 6 v,ar k1 hW (fun g e=>?_),k2.within hW (fun g e=>?_),k3.within hW (fun g e=>?_),k4.kept hW (far2 k4.ptr (by decide)) (fun i hi e=>Rf.fX k4 hp (by decide) (by decide) (e ▸ hi)),ar hv hW (fun g e=>?_),?_,h.newy,fun i hi=>?_⟩
 ·obtain⟨c,hc⟩:=aY k1 e;exact far2 hc (by decide)
 ·obtain⟨c,hc⟩:=aY k2 e;exact far2 hc (by decide)
 ·obtain⟨c,hc⟩:=k3.bk e;exact far2 hc (by decide)
 ·obtain⟨c,hc⟩:=aY hv e;exact far2 hc (by decide)
 ·have hb:Below w.heap.size w W':=⟨hw.os.trans h.gr.os,hw.tape.trans h.gr.tape,hw.output.trans h.gr.output,Nat.le_trans h.gr.size hw.size,fun i hi=>(hw.block i (Nat.lt_of_lt_of_le hi h.gr.size) (fun e=>by have:=hn i e;omega)).trans (h.gr.block i hi)⟩
  exact hb.setCell (p:=⟨Y.y,6,O⟩) h.newy v
 ·rcases hi with e | e | e | e | e | e | e
  ·exact h.new i (.inl e)
  ·exact h.new i (.inr (.inl e))
  ·exact h.new i (.inr (.inr (.inl e)))
  ·exact h.new i (.inr (.inr (.inr (.inl e))))
  ·exact h.new i (.inr (.inr (.inr (.inr (.inl e)))))
  ·exact⟨Nat.le_trans hbase (World.ownsRow.lt hv i e).1,.inr (World.ownsRow.lt hv i e).1⟩
  ·exact h.new i (.inr (.inr (.inr (.inr (.inr (.inr e))))))
theorem ud.ey {init r7:List Int}(h:ud w base k Y init (zA k init r7).cs k.n W)(hk:gH k)(hi:init.length=jP k.zs)(hiu:gF init)(hru:gF r7):Ey W Y k (zA k init r7):=by
 refine⟨h.ptr,h.code,h.cells,h.words,h.gy,⟨_,_,_,zV k.n k.each hk.n64 hk.each⟩,oh h.cores,hk,⟨hiu,hi,fun t ht=>⟨rfl,?_⟩⟩⟩
 intro x hx
 simp only[zA,List.mem_cons,List.not_mem_nil,or_false] at hx
 have:=hru.at_ t
 omega
end
section
variable {w w' W W':World}{Y Y0 Y':YP}{k:Lk}{m m':Mc}{xs:List Int}{pc:Int}
theorem D4 (h:Ey w Y k m)(t:Nat)(ht:t<k.n)(late:Bool)(L:Int){i:aU}(hm:ke k (m.cs t).pc=Z i)(hi:i.op=16){A:Nat}(hf:gC k.zs i.a (aD (m.cs t).xs i.s.toNat)=Z A):
 Calls Tryz.prog 25 #[J (Z ⟨Y.y,0,O⟩),I Q t,I Q L] w (eF w Y k (bC k m t late)):=by
 have HB0:=fV (late:=late) hm (by rw[hi];decide) (by rw[hi];decide)
 rw[hf] at HB0
 simp only at HB0
 have HF0:=G hf
 clear hf
 obtain⟨BB,hBB⟩:∃ B,B=bC k m t late:=⟨_,rfl⟩
 rw[<-hBB] at HB0 ⊢
 have HB:=G HB0
 clear HB0 hBB
 have hnn:=h.lk.n64
 have hl64:=h.lk.parts.2.1
 obtain⟨r0,r1,r2,r3,r4,r5,r6,r7,pc,ec⟩:=h.eb ht
 have hx8:cX [r0,r1,r2,r3,r4,r5,r6,r7]:=by have:=h.mc.cs t ht;rw[ec] at this;exact this
 have HX:=G h
 rw[ec] at hm
 have q0:=Bk.made w 64 #[K O 0 0,I Q 0,I Q 0,I Q 0,I Q 0,I Q 0]
 have b0:Below w.heap.size w (w.alloc (H #[K O 0 0,I Q 0,I Q 0,I Q 0,I Q 0,I Q 0] 64)):=(F _ _).alloc (E _) _
 have s0:(w.alloc (H #[K O 0 0,I Q 0,I Q 0,I Q 0,I Q 0,I Q 0] 64)).heap.size=w.heap.size+1:=by simp
 go_enter Tryz.func25,Tryz.ntmps25
 go_upto_region 1 with fail
 generalize w.alloc (H #[K O 0 0,I Q 0,I Q 0,I Q 0,I Q 0,I Q 0] 64)=y at *
 have h2:=h.below b0
 obtain⟨gk,capk,ek,hk1,hk2,hkb,hkf,-⟩:=h2.qk
 unfold maxLen at hk2
 have cx6:=h2.c6
 rw[ek] at cx6
 obtain⟨c0,c1,c2,c3,c4,c5,c6,c7,c8⟩:=h2.core ht ec ek
 go_upto_region 2 with fail
 have q1:=Rb.made y [r0,r1,r2,r3,r4,r5,r6,r7] pc
 have s1:(y.alloc (H #[I Q r0,I Q r1,I Q r2,I Q r3,I Q r4,I Q r5,I Q r6,I Q r7,I Q pc] 111)).heap.size=w.heap.size+1+1:=by rw[World.size_alloc,s0]
 rw[s0] at q1
 simp only[dE,List.map_cons,List.map_nil,List.cons_append,List.nil_append] at q1
 have b1:Below y.heap.size y (y.alloc (H #[I Q r0,I Q r1,I Q r2,I Q r3,I Q r4,I Q r5,I Q r6,I Q r7,I Q pc] 111)):=(F _ _).alloc (E _) _
 replace q0:=(b1.block _ q0.lt).trans q0
 have h3:=h2.below b1
 replace b0:=b0.trans (b1.mono b0.size)
 clear c0 c1 c2 c3 c4 c5 c6 c7 c8 cx6 h2 b1 hkf s0 h hk1 hk2 hkb ek
 generalize y.alloc (H #[I Q r0,I Q r1,I Q r2,I Q r3,I Q r4,I Q r5,I Q r6,I Q r7,I Q pc] 111)=z at *
 go_upto_region 3 with fail
 have b1:Below z.heap.size z (z.alloc (H #[K O 0 0,I Q (-1),I Q (-1),I Q 0,I Q 0,I Q 11] 64)):=(F _ _).alloc (E _) _
 have q2:=Bk.made z 64 #[K O 0 0,I Q (-1),I Q (-1),I Q 0,I Q 0,I Q 11]
 have s2:(z.alloc (H #[K O 0 0,I Q (-1),I Q (-1),I Q 0,I Q 0,I Q 11] 64)).heap.size=w.heap.size+1+1+1:=by rw[World.size_alloc,s1]
 rw[s1] at q2
 have hS:SI w Y k [r0,r1,r2,r3,r4,r5,r6,r7] pc Y m (z.alloc (H #[K O 0 0,I Q (-1),I Q (-1),I Q 0,I Q 0,I Q 11] 64)):=⟨h3.below b1,(br.aT b0).grown b1,(b1.block _ (Bk.lt q0)).trans q0,(b1.block _ (Bk.lt q1)).trans q1,q2,fun i hi=>.inl (HX.out.lt hi)⟩
 clear h3 b0 b1 q0 q1 q2 s1
 have HS2:=G s2
 clear s2
 generalize z.alloc (H #[K O 0 0,I Q (-1),I Q (-1),I Q 0,I Q 0,I Q 11] 64)=x at *
 have HS:=G hS
 have cx0:=hS.ey.c0
 obtain⟨hpv,aV,cV,eV⟩:=hS.ey.pv
 rw[eV] at cx0 hpv
 obtain⟨a2,ca2,e2,_,_,_,hsl⟩:=hpv
 simp only[Value.agg.injEq,Array.mk.injEq,List.cons.injEq,Value.slice.injEq,and_true,true_and] at e2
 obtain⟨rfl,rfl⟩:=e2
 have HV:=G eV
 clear eV
 obtain⟨c0,c1,c2,c3,c4,c5,c6,c7,c8⟩:=hS.c.cells
 obtain⟨hp0,hp1,hj,hmj⟩:=gR hm
 have hOM:=HX.out.lk.Gl hm
 simp only at hp0 hp1 hj hOM
 obtain⟨n,rfl⟩:=Int.eq_ofNat_of_zero_le hp0
 rw[Int.toNat_natCast] at hj
 obtain⟨op,di,si,ti,ui,ai,k2,pl⟩:=i
 obtain⟨hop,hd,hs,ht2,hu,ha,hk,haw⟩:=hOM
 simp only at hop hd hs ht2 hu ha hk haw hmj hi ⊢
 obtain⟨d,rfl⟩:=Int.eq_ofNat_of_zero_le hd.1
 obtain⟨s,rfl⟩:=Int.eq_ofNat_of_zero_le hs.1
 obtain⟨t2,rfl⟩:=Int.eq_ofNat_of_zero_le ht2.1
 obtain⟨u,rfl⟩:=Int.eq_ofNat_of_zero_le hu.1
 obtain⟨a,rfl⟩:=Int.eq_ofNat_of_zero_le ha.1
 have hd8:d<8:=by omega
 have hs8:s<8:=by omega
 have ht8:t2<8:=by omega
 have hu8:u<8:=by omega
 subst hi
 obtain⟨g,off,rfl,hgl,f0,f1,f2,f3,f4,f5,f6,f7⟩:=hsl.at_ hj
 simp only at f0 f1 f2 f3 f4 f5 f6 f7
 have d0:decide ((n:Int)<0)=V:=by simp
 have d1:decide ((n:Int)>=(k.l.length:Int))=V:=by simp;omega
 have d4:decide (k.l.length<=n)=V:=by simp;omega
 have d2:decide (16<(16:Int))=V:=by first | decide | (simp;omega)
 have d3:(n:Int)<k.l.length:=hp1
 have HAW:=G (And.intro hk haw)
 clear hsl hS hj hm hmj hp0 hp1 hd hs ht2 hu ha haw hk
 go_quiet (fail)
 have hS3:=HS.out.below (aO x nq)
 have hsz:(x.drewN nq).heap.size=w.heap.size+1+1+1:=HS2.out
 replace cx0:(x.drewN nq).cell? ⟨Y.y,0,O⟩=_:=cx0
 replace f0:(x.drewN nq).cell? ⟨g,off+n*8,O⟩=_:=f0
 replace f1:(x.drewN nq).cell? ⟨g,off+n*8+1,O⟩=_:=f1
 replace f2:(x.drewN nq).cell? ⟨g,off+n*8+2,O⟩=_:=f2
 replace f3:(x.drewN nq).cell? ⟨g,off+n*8+3,O⟩=_:=f3
 replace f4:(x.drewN nq).cell? ⟨g,off+n*8+4,O⟩=_:=f4
 replace f5:(x.drewN nq).cell? ⟨g,off+n*8+5,O⟩=_:=f5
 replace f6:(x.drewN nq).cell? ⟨g,off+n*8+6,O⟩=_:=f6
 replace f7:(x.drewN nq).cell? ⟨g,off+n*8+7,O⟩=_:=f7
 have hgl':g<(x.drewN nq).heap.size:=hgl
 clear c0 c1 c2 c3 c4 c5 c6 c7 c8 HS HS2 hgl
 go_upto_region 5 with fail
 generalize x.drewN nq=x2 at *
 obtain⟨c0,c1,c2,c3,c4,c5,c6,c7,c8⟩:=hS3.c.cells
 have hA:Below x2.heap.size x2 (x2.alloc (H #[I Q 0,I Q 0,I Q 0,I Q 0,I Q 0,I Q 0,I N 0,I Q 0] 123)):=(F _ _).alloc (E _) _
 have cx0':(x2.alloc (H #[I Q 0,I Q 0,I Q 0,I Q 0,I Q 0,I Q 0,I N 0,I Q 0] 123)).cell? ⟨Y.y,0,O⟩=Z (K (Z ⟨g,off,O⟩) k.l.length cV):=(hA.cell (p:=⟨Y.y,0,O⟩) hS3.ey.ptr.lt).trans cx0
 have c8':(x2.alloc (H #[I Q 0,I Q 0,I Q 0,I Q 0,I Q 0,I Q 0,I N 0,I Q 0] 123)).cell? ⟨w.heap.size+1,8,O⟩=Z (I Q n):=(hA.cell (p:=⟨w.heap.size+1,8,O⟩) (Bk.lt hS3.c)).trans c8
 have f0':(x2.alloc (H #[I Q 0,I Q 0,I Q 0,I Q 0,I Q 0,I Q 0,I N 0,I Q 0] 123)).cell? ⟨g,off+n*8,O⟩=Z (I Q 16):=(hA.cell (p:=⟨g,off+n*8,O⟩) hgl').trans f0
 have f1':(x2.alloc (H #[I Q 0,I Q 0,I Q 0,I Q 0,I Q 0,I Q 0,I N 0,I Q 0] 123)).cell? ⟨g,off+n*8+1,O⟩=Z (I Q (d:Nat)):=(hA.cell (p:=⟨g,off+n*8+1,O⟩) hgl').trans f1
 have f2':(x2.alloc (H #[I Q 0,I Q 0,I Q 0,I Q 0,I Q 0,I Q 0,I N 0,I Q 0] 123)).cell? ⟨g,off+n*8+2,O⟩=Z (I Q (s:Nat)):=(hA.cell (p:=⟨g,off+n*8+2,O⟩) hgl').trans f2
 have f3':(x2.alloc (H #[I Q 0,I Q 0,I Q 0,I Q 0,I Q 0,I Q 0,I N 0,I Q 0] 123)).cell? ⟨g,off+n*8+3,O⟩=Z (I Q (t2:Nat)):=(hA.cell (p:=⟨g,off+n*8+3,O⟩) hgl').trans f3
 have f4':(x2.alloc (H #[I Q 0,I Q 0,I Q 0,I Q 0,I Q 0,I Q 0,I N 0,I Q 0] 123)).cell? ⟨g,off+n*8+4,O⟩=Z (I Q (u:Nat)):=(hA.cell (p:=⟨g,off+n*8+4,O⟩) hgl').trans f4
 have f5':(x2.alloc (H #[I Q 0,I Q 0,I Q 0,I Q 0,I Q 0,I Q 0,I N 0,I Q 0] 123)).cell? ⟨g,off+n*8+5,O⟩=Z (I Q (a:Nat)):=(hA.cell (p:=⟨g,off+n*8+5,O⟩) hgl').trans f5
 have f6':(x2.alloc (H #[I Q 0,I Q 0,I Q 0,I Q 0,I Q 0,I Q 0,I N 0,I Q 0] 123)).cell? ⟨g,off+n*8+6,O⟩=Z (I N k2):=(hA.cell (p:=⟨g,off+n*8+6,O⟩) hgl').trans f6
 have f7':(x2.alloc (H #[I Q 0,I Q 0,I Q 0,I Q 0,I Q 0,I Q 0,I N 0,I Q 0] 123)).cell? ⟨g,off+n*8+7,O⟩=Z (I Q pl):=(hA.cell (p:=⟨g,off+n*8+7,O⟩) hgl').trans f7
 go_region
 have hJ:=Jb.made x2 16 d s t2 u a k2 pl
 rw[hsz] at hJ
 have hb5:Below x2.heap.size x2 (x2.alloc (H #[I Q 16,I Q (d:Nat),I Q (s:Nat),I Q (t2:Nat),I Q (u:Nat),I Q (a:Nat),I N k2,I Q pl] 123)).drew:=((F _ _).alloc (E _) _).drew
 have hS4:=hS3.below hb5
 replace hJ:Jb (x2.alloc (H #[I Q 16,I Q (d:Nat),I Q (s:Nat),I Q (t2:Nat),I Q (u:Nat),I Q (a:Nat),I N k2,I Q pl] 123)).drew _ _:=hJ
 have hsz4:w.heap.size+4<=(x2.alloc (H #[I Q 16,I Q (d:Nat),I Q (s:Nat),I Q (t2:Nat),I Q (u:Nat),I Q (a:Nat),I N k2,I Q pl] 123)).drew.heap.size:=by
  have e:(x2.alloc (H #[I Q 16,I Q (d:Nat),I Q (s:Nat),I Q (t2:Nat),I Q (u:Nat),I Q (a:Nat),I N k2,I Q pl] 123)).drew.heap.size=x2.heap.size+1:=by simp
  omega
 clear cx0 cx0' c8' c0 c1 c2 c3 c4 c5 c6 c7 c8 hA hgl' hsz hb5 hS3 f0 f1 f2 f3 f4 f5 f6 f7 f0' f1' f2' f3' f4' f5' f6' f7'
 generalize (x2.alloc (H #[I Q 16,I Q (d:Nat),I Q (s:Nat),I Q (t2:Nat),I Q (u:Nat),I Q (a:Nat),I N k2,I Q pl] 123)).drew=x3 at *
 obtain⟨VS,hVS⟩:∃ v,v=aD [r0,r1,r2,r3,r4,r5,r6,r7] s:=⟨_,rfl⟩
 obtain⟨VT,hVT⟩:∃ v,v=aD [r0,r1,r2,r3,r4,r5,r6,r7] t2:=⟨_,rfl⟩
 obtain⟨VU,hVU⟩:∃ v,v=aD [r0,r1,r2,r3,r4,r5,r6,r7] u:=⟨_,rfl⟩
 have cs:=hS4.c.at_ hx8.1 hs8
 have ct:=hS4.c.at_ hx8.1 ht8
 have cu:=hS4.c.at_ hx8.1 hu8
 have rs:=hx8.2.at_ s
 have rt:=hx8.2.at_ t2
 have ru:=hx8.2.at_ u
 rw[<-hVS] at cs rs
 rw[<-hVT] at ct rt
 rw[<-hVU] at cu ru
 have HV3:=G (And.intro hVS (And.intro hVT hVU))
 clear hVS hVT hVU
 have ws:=bT rs
 have wt:=bT rt
 have wu:=bT ru
 have is8:(s:Int)<8:=by omega
 have it8:(t2:Int)<8:=by omega
 have iu8:(u:Int)<8:=by omega
 have id8:(d:Int)<8:=by omega
 obtain⟨e0,e1,e2,e3,e4,e5,e6,e7⟩:=hJ.cells
 simp only at e0 e1 e2 e3 e4 e5 e6 e7
 go_upto_region 6 with fail
 go_quiet (fail)
 have hS5:=hS4.below (aO x3 nq)
 replace hJ:=hJ.below (aO x3 nq)
 replace hsz4:w.heap.size+4<=(x3.drewN nq).heap.size:=hsz4
 clear hS4 cs ct cu e0 e1 e2 e3 e4 e5 e6 e7
 generalize x3.drewN nq=x4 at *
 obtain⟨e0,e1,e2,e3,e4,e5,e6,e7⟩:=hJ.cells
 simp only at e0 e1 e2 e3 e4 e5 e6 e7
 have cx3:=hS5.ey.c3
 have hf2:=HF0.out
 rw[ec] at hf2
 simp only[Int.toNat_natCast] at hf2
 rw[<-HV3.out.1] at hf2
 go_upto_region 17 with fail
 have g3:=fun g:fL x4=>g.cell cx3
 have g5:=fun g:fL x4=>g.cell e5
 have HFi:Hid (∀ g:fL x4,Calls Tryz.prog 54 #[Y.cl,I Q (a:Nat),I N VS] g.x fun e y=>e=.returned (I Q (A:Nat))/\Below g.x.heap.size g.x y):=G fun g=>by
  have h1:=rd (hS5.ey.below g.ok) a VS rs.1 rs.2
  rw[hf2] at h1
  exact h1.mono fun e y ⟨q1,q2⟩=>⟨q1,aQ q2⟩
 clear cx3 e0 e1 e2 e3 e4 e5 e6 e7
 refine ap (by kernel_rfl) (by kernel_rfl) ?_
 repeat (go_big_quiet_step ((go_at_call 54;with_reducible exact ao (HFi.out _))))
 refine wpQuiet_nil ?_
 rintro x5 ⟨⟨_,hy5⟩,rfl⟩
 replace hJ:=hJ.below hy5
 have hS6:=hS5.below hy5
 have hsz5:=Nat.le_trans hsz4 hy5.size
 clear hS5 hy5 HFi g3 g5 hsz4
 have hAl:A<m.ws.length:=by rw[HX.out.mc.len];exact lm hf2
 have rw0:=HX.out.mc.ws.at_ A
 have c7:=hS6.ey.c7
 have zf:=hS6.ey.ptr.free
 go_upto_region 21 with fail
 obtain⟨hE7,st7⟩:=hS6.ey.more (wrap64 (Y.ac+1))
 have hS7:=hS6.gy hsz5 hE7 st7
 replace hJ:Jb (x5.setCell ⟨Y.y,7,O⟩ (I Q (wrap64 (Y.ac+1)))) _ _:=Bk.within hJ st7.1 (fun e=>by have:=hS6.mZ _ e;omega)
 have hsz7:w.heap.size+4<=(x5.setCell ⟨Y.y,7,O⟩ (I Q (wrap64 (Y.ac+1)))).heap.size:=Nat.le_trans hsz5 st7.1.size
 clear hS6 c7 zf hE7 st7 hsz5
 generalize (x5.setCell ⟨Y.y,7,O⟩ (I Q (wrap64 (Y.ac+1))))=x6 at *
 obtain⟨aw,capw,ew0,hw1,hw2,hw3⟩:=hS7.ey.zy
 obtain⟨gw,ewa,hwb,hwf,hwc⟩:=hw3 (Nat.lt_of_le_of_lt (Nat.zero_le _) hAl)
 subst ewa
 have ew:Y.wl=K (Z ⟨gw,0,O⟩) m.ws.length capw:=ew0
 have hgw:gw<w.heap.size:=HX.out.lt (.inr (.inr (.inr (.inl hwb))))
 have cx4:x6.cell? ⟨Y.y,2+2,O⟩=Z (K (Z ⟨gw,0,O⟩) m.ws.length capw):=by rw[<-ew];exact hS7.ey.c4
 simp only[Nat.reduceAdd] at cx4
 have cwA:=hwc A hAl
 obtain⟨WA,hWA⟩:∃ v,v=aD m.ws A:=⟨_,rfl⟩
 rw[<-hWA] at cwA rw0
 have HWA:=G hWA
 clear hWA hwc hwf hw3 ew0 hw1
 unfold maxLen at hw2
 have iA:(A:Int)<m.ws.length:=by omega
 go_upto_region 23 with fail
 have hO:So (x6.alloc (H #[K O 0 0,I Q 0,I Q (A:Nat),I Q 0,I Q 0,I Q 0] 64)) x6.heap.size A 0 0 0:=Bk.made _ _ _
 have hb7:Below x6.heap.size x6 (x6.alloc (H #[K O 0 0,I Q 0,I Q (A:Nat),I Q 0,I Q 0,I Q 0] 64)):=(F _ _).alloc (E _) _
 replace hJ:=hJ.below hb7
 have hS8:=hS7.below hb7
 have hsz8:w.heap.size+4<=(x6.alloc (H #[K O 0 0,I Q 0,I Q (A:Nat),I Q 0,I Q 0,I Q 0] 64)).heap.size:=Nat.le_trans hsz7 hb7.size
 clear hS7 hb7 cx4 cwA
 generalize (x6.alloc (H #[K O 0 0,I Q 0,I Q (A:Nat),I Q 0,I Q 0,I Q 0] 64))=x7 at *
 generalize x6.heap.size=b at *
 have hOwn:Hid (∀ i,Y.Own k.n i->i<w.heap.size):=G fun i hi=>HX.out.lt hi
 obtain⟨c0,c1,c2,c3,c4,c5,c6,c7,c8⟩:=Rb.cells hS8.c
 obtain⟨e0,e1,e2,e3,e4,e5,e6,e7⟩:=hJ.cells
 simp only at e0 e1 e2 e3 e4 e5 e6 e7
 go_upto_region 26 with fail
 have cd:=hS8.c.at_ hx8.1 hd8
 have zf:=Bk.free hS8.c
 have hSr:=hS8.Fn hx8.1 hd8 WA
 have hXr:cX ([r0,r1,r2,r3,r4,r5,r6,r7].set d WA):=hx8.put d rw0
 obtain⟨u0,u1,u2,u3,u4,u5,u6,u7,hu8'⟩:=cG hXr.1
 have hOr:So (x7.setCell ⟨w.heap.size+1,d,O⟩ (I Q WA)) b A 0 0 0:=Bk.off hO (p:=⟨w.heap.size+1,d,O⟩) (by show b≠w.heap.size+1;omega) _
 have hJr:Jb (x7.setCell ⟨w.heap.size+1,d,O⟩ (I Q WA)) (w.heap.size+1+1+1) _:=Bk.off hJ (p:=⟨w.heap.size+1,d,O⟩) (by show w.heap.size+1+1+1≠w.heap.size+1;omega) _
 have hsz8r:w.heap.size+4<=(x7.setCell ⟨w.heap.size+1,d,O⟩ (I Q WA)).heap.size:=Nat.le_trans hsz8 (cT x7 (w.heap.size+1) d (I Q WA)).size
 go_upto_region 51 with fail
 rw[hu8'] at hSr hXr
 have HU8:=G hu8'
 clear hu8'
 clear cd zf c0 c1 c2 c3 c4 c5 c6 c7 c8 e0 e1 e2 e3 e4 e5 e6 e7 hS8 hO hJ hsz8
 generalize x7.setCell ⟨w.heap.size+1,d,O⟩ (I Q WA)=xr at *
 have hJ:=hJr
 have hO:=hOr
 have hsz8:=hsz8r
 clear hJr hOr hsz8r
 obtain⟨c0,c1,c2,c3,c4,c5,c6,c7,c8⟩:=Rb.cells hSr.c
 obtain⟨e0,e1,e2,e3,e4,e5,e6,e7⟩:=hJ.cells
 simp only at e0 e1 e2 e3 e4 e5 e6 e7
 have zf:=Bk.free hSr.c
 have hSp:=hSr.place rfl ((n:Int)+1)
 have hOp:So (xr.setCell ⟨w.heap.size+1,8,O⟩ (I Q ((n:Int)+1))) b A 0 0 0:=Bk.off hO (p:=⟨w.heap.size+1,8,O⟩) (by show b≠w.heap.size+1;omega) _
 go_upto_region 52 with fail
 generalize xr.setCell ⟨w.heap.size+1,8,O⟩ (I Q ((n:Int)+1))=v at *
 clear c0 c1 c2 c3 c4 c5 c6 c7 c8 zf hSr e0 e1 e2 e3 e4 e5 e6 e7 hJ hO
 obtain⟨c0,c1,c2,c3,c4,c5,c6,c7,c8⟩:=Rb.cells hSp.c
 obtain⟨q0,q1,q2,q3,q4,q5⟩:=hOp.cells
 have hR:Calls Tryz.prog 48 #[J (Z ⟨Y.y,0,O⟩),I Q t,.agg #[I Q u0,I Q u1,I Q u2,I Q u3,I Q u4,I Q u5,I Q u6,I Q u7,I Q ((n:Int)+1)],.agg #[K O 0 0,I Q 0,I Q (A:Nat),I Q 0,I Q 0,I Q 0]] v (eF v { Y with ac:=wrap64 (Y.ac+1) } k BB):=by
  have h9:=BQ hSp.ey t ht ⟨[u0,u1,u2,u3,u4,u5,u6,u7],((n:Int)+1)⟩ hXr ⟨[],0,A,V,V,0⟩ _ rfl
  have hb:=HB.out
  rw[Ba rfl,ec] at hb
  simp only[Int.toNat_natCast] at hb
  rw[<-HWA.out,HU8.out] at hb
  rw[hb]
  exact h9
 have st:=hSp.st
 have q02:=hSp.q
 have hf0:∀ i,({ Y with ac:=wrap64 (Y.ac+1) }:YP).Own k.n i->i≠w.heap.size:=fun i hi e=>by have:=hSp.mZ i hi;omega
 have hlt:w.heap.size<v.heap.size:=hSp.q.lt
 clear hOp
 go_wp2_with fail
 refine hR.mono ?_
 rintro e v5 ⟨mv,Y',rfl,hl5,h5,hs5⟩
 obtain⟨a9,c9,e9,-⟩:=hl5.is
 subst e9
 have q5:=Bk.within q02 hs5.1 (fun e=>hf0 _ e rfl)
 have st5:=st.aJ hs5
 have hfar:∀ i,Y'.Own k.n i->i≠w.heap.size:=fun i hi e=>by
  rcases hs5.2.1 i hi with e2 | e2
  ·exact hf0 i e2 e
  ·omega
 unfold ro
 obtain⟨x0,x1,x2,x3,x4,x5⟩:=q5.pd
 have zf:=Bk.free q5
 have o1:=ep q5 (K a9 BB.2.ms.length c9) (I Q BB.2.done) (I Q BB.2.addr) (I Q (aH BB.2.wrote)) (I Q (aH BB.2.stay)) (I Q BB.2.e)
 have o2:=bK (y:=v5) (g:=w.heap.size) (K a9 BB.2.ms.length c9) (I Q BB.2.done) (I Q BB.2.addr) (I Q (aH BB.2.wrote)) (I Q (aH BB.2.stay)) (I Q BB.2.e)
 have hC:=G (dj (Y:=Y) (r:=BB) hl5 h5 st5 q5 (by decide) o2 (E _) hfar)
 clear q02 hl5 h5 hs5 st5 st o2 hR hSp c0 c1 c2 c3 c4 c5 c6 c7 c8 q0 q1 q2 q3 q4 q5
 go_wp2_with (refine bodyPost_ret (v:=.agg #[K a9 BB.2.ms.length c9,I Q BB.2.done,I Q BB.2.addr,I Q (aH BB.2.wrote),I Q (aH BB.2.stay),I Q BB.2.e]) (w:=eH v5 w.heap.size (K a9 BB.2.ms.length c9) (I Q BB.2.done) (I Q BB.2.addr) (I Q (aH BB.2.wrote)) (I Q (aH BB.2.stay)) (I Q BB.2.e)) ?hres rfl ?hpost)
 case hpost=>exact hC.out
 case hres=>
  generalize eH v5 w.heap.size (K a9 BB.2.ms.length c9) (I Q BB.2.done) (I Q BB.2.addr) (I Q (aH BB.2.wrote)) (I Q (aH BB.2.stay)) (I Q BB.2.e)=v9 at *
  obtain⟨o0,o1,o2,o3,o4,o5⟩:=o1.pd
  simp[results,Tryz.results25,go_sem,o0,o1,o2,o3,o4,o5]
end
section
variable {w w' W W':World}{Y Y0 Y':YP}{k:Lk}{m m':Mc}{xs:List Int}{pc:Int}
theorem D3 (h:Ey w Y k m)(t:Nat)(ht:t<k.n)(late:Bool)(L:Int){i:aU}(hm:ke k (m.cs t).pc=Z i)(hi:i.op=18){A:Nat}(hf:gC k.zs i.a (aD (m.cs t).xs i.s.toNat)=Z A):
 Calls Tryz.prog 25 #[J (Z ⟨Y.y,0,O⟩),I Q t,I Q L] w (eF w Y k (bC k m t late)):=by
 have HB0:=fV (late:=late) hm (by rw[hi];decide) (by rw[hi];decide)
 rw[hf] at HB0
 simp only at HB0
 have HF0:=G hf
 clear hf
 obtain⟨BB,hBB⟩:∃ B,B=bC k m t late:=⟨_,rfl⟩
 rw[<-hBB] at HB0 ⊢
 have HB:=G HB0
 clear HB0 hBB
 have hnn:=h.lk.n64
 have hl64:=h.lk.parts.2.1
 obtain⟨r0,r1,r2,r3,r4,r5,r6,r7,pc,ec⟩:=h.eb ht
 have hx8:cX [r0,r1,r2,r3,r4,r5,r6,r7]:=by have:=h.mc.cs t ht;rw[ec] at this;exact this
 have HX:=G h
 rw[ec] at hm
 have q0:=Bk.made w 64 #[K O 0 0,I Q 0,I Q 0,I Q 0,I Q 0,I Q 0]
 have b0:Below w.heap.size w (w.alloc (H #[K O 0 0,I Q 0,I Q 0,I Q 0,I Q 0,I Q 0] 64)):=(F _ _).alloc (E _) _
 have s0:(w.alloc (H #[K O 0 0,I Q 0,I Q 0,I Q 0,I Q 0,I Q 0] 64)).heap.size=w.heap.size+1:=by simp
 go_enter Tryz.func25,Tryz.ntmps25
 go_upto_region 1 with fail
 generalize w.alloc (H #[K O 0 0,I Q 0,I Q 0,I Q 0,I Q 0,I Q 0] 64)=y at *
 have h2:=h.below b0
 obtain⟨gk,capk,ek,hk1,hk2,hkb,hkf,-⟩:=h2.qk
 unfold maxLen at hk2
 have cx6:=h2.c6
 rw[ek] at cx6
 obtain⟨c0,c1,c2,c3,c4,c5,c6,c7,c8⟩:=h2.core ht ec ek
 go_upto_region 2 with fail
 have q1:=Rb.made y [r0,r1,r2,r3,r4,r5,r6,r7] pc
 have s1:(y.alloc (H #[I Q r0,I Q r1,I Q r2,I Q r3,I Q r4,I Q r5,I Q r6,I Q r7,I Q pc] 111)).heap.size=w.heap.size+1+1:=by rw[World.size_alloc,s0]
 rw[s0] at q1
 simp only[dE,List.map_cons,List.map_nil,List.cons_append,List.nil_append] at q1
 have b1:Below y.heap.size y (y.alloc (H #[I Q r0,I Q r1,I Q r2,I Q r3,I Q r4,I Q r5,I Q r6,I Q r7,I Q pc] 111)):=(F _ _).alloc (E _) _
 replace q0:=(b1.block _ q0.lt).trans q0
 have h3:=h2.below b1
 replace b0:=b0.trans (b1.mono b0.size)
 clear c0 c1 c2 c3 c4 c5 c6 c7 c8 cx6 h2 b1 hkf s0 h hk1 hk2 hkb ek
 generalize y.alloc (H #[I Q r0,I Q r1,I Q r2,I Q r3,I Q r4,I Q r5,I Q r6,I Q r7,I Q pc] 111)=z at *
 go_upto_region 3 with fail
 have b1:Below z.heap.size z (z.alloc (H #[K O 0 0,I Q (-1),I Q (-1),I Q 0,I Q 0,I Q 11] 64)):=(F _ _).alloc (E _) _
 have q2:=Bk.made z 64 #[K O 0 0,I Q (-1),I Q (-1),I Q 0,I Q 0,I Q 11]
 have s2:(z.alloc (H #[K O 0 0,I Q (-1),I Q (-1),I Q 0,I Q 0,I Q 11] 64)).heap.size=w.heap.size+1+1+1:=by rw[World.size_alloc,s1]
 rw[s1] at q2
 have hS:SI w Y k [r0,r1,r2,r3,r4,r5,r6,r7] pc Y m (z.alloc (H #[K O 0 0,I Q (-1),I Q (-1),I Q 0,I Q 0,I Q 11] 64)):=⟨h3.below b1,(br.aT b0).grown b1,(b1.block _ (Bk.lt q0)).trans q0,(b1.block _ (Bk.lt q1)).trans q1,q2,fun i hi=>.inl (HX.out.lt hi)⟩
 clear h3 b0 b1 q0 q1 q2 s1
 have HS2:=G s2
 clear s2
 generalize z.alloc (H #[K O 0 0,I Q (-1),I Q (-1),I Q 0,I Q 0,I Q 11] 64)=x at *
 have HS:=G hS
 have cx0:=hS.ey.c0
 obtain⟨hpv,aV,cV,eV⟩:=hS.ey.pv
 rw[eV] at cx0 hpv
 obtain⟨a2,ca2,e2,_,_,_,hsl⟩:=hpv
 simp only[Value.agg.injEq,Array.mk.injEq,List.cons.injEq,Value.slice.injEq,and_true,true_and] at e2
 obtain⟨rfl,rfl⟩:=e2
 have HV:=G eV
 clear eV
 obtain⟨c0,c1,c2,c3,c4,c5,c6,c7,c8⟩:=hS.c.cells
 obtain⟨hp0,hp1,hj,hmj⟩:=gR hm
 have hOM:=HX.out.lk.Gl hm
 simp only at hp0 hp1 hj hOM
 obtain⟨n,rfl⟩:=Int.eq_ofNat_of_zero_le hp0
 rw[Int.toNat_natCast] at hj
 obtain⟨op,di,si,ti,ui,ai,k2,pl⟩:=i
 obtain⟨hop,hd,hs,ht2,hu,ha,hk,haw⟩:=hOM
 simp only at hop hd hs ht2 hu ha hk haw hmj hi ⊢
 obtain⟨d,rfl⟩:=Int.eq_ofNat_of_zero_le hd.1
 obtain⟨s,rfl⟩:=Int.eq_ofNat_of_zero_le hs.1
 obtain⟨t2,rfl⟩:=Int.eq_ofNat_of_zero_le ht2.1
 obtain⟨u,rfl⟩:=Int.eq_ofNat_of_zero_le hu.1
 obtain⟨a,rfl⟩:=Int.eq_ofNat_of_zero_le ha.1
 have hd8:d<8:=by omega
 have hs8:s<8:=by omega
 have ht8:t2<8:=by omega
 have hu8:u<8:=by omega
 subst hi
 obtain⟨g,off,rfl,hgl,f0,f1,f2,f3,f4,f5,f6,f7⟩:=hsl.at_ hj
 simp only at f0 f1 f2 f3 f4 f5 f6 f7
 have d0:decide ((n:Int)<0)=V:=by simp
 have d1:decide ((n:Int)>=(k.l.length:Int))=V:=by simp;omega
 have d4:decide (k.l.length<=n)=V:=by simp;omega
 have d2:decide (18<(16:Int))=V:=by first | decide | (simp;omega)
 have d3:(n:Int)<k.l.length:=hp1
 have HAW:=G (And.intro hk haw)
 clear hsl hS hj hm hmj hp0 hp1 hd hs ht2 hu ha haw hk
 go_quiet (fail)
 have hS3:=HS.out.below (aO x nq)
 have hsz:(x.drewN nq).heap.size=w.heap.size+1+1+1:=HS2.out
 replace cx0:(x.drewN nq).cell? ⟨Y.y,0,O⟩=_:=cx0
 replace f0:(x.drewN nq).cell? ⟨g,off+n*8,O⟩=_:=f0
 replace f1:(x.drewN nq).cell? ⟨g,off+n*8+1,O⟩=_:=f1
 replace f2:(x.drewN nq).cell? ⟨g,off+n*8+2,O⟩=_:=f2
 replace f3:(x.drewN nq).cell? ⟨g,off+n*8+3,O⟩=_:=f3
 replace f4:(x.drewN nq).cell? ⟨g,off+n*8+4,O⟩=_:=f4
 replace f5:(x.drewN nq).cell? ⟨g,off+n*8+5,O⟩=_:=f5
 replace f6:(x.drewN nq).cell? ⟨g,off+n*8+6,O⟩=_:=f6
 replace f7:(x.drewN nq).cell? ⟨g,off+n*8+7,O⟩=_:=f7
 have hgl':g<(x.drewN nq).heap.size:=hgl
 clear c0 c1 c2 c3 c4 c5 c6 c7 c8 HS HS2 hgl
 go_upto_region 5 with fail
 generalize x.drewN nq=x2 at *
 obtain⟨c0,c1,c2,c3,c4,c5,c6,c7,c8⟩:=hS3.c.cells
 have hA:Below x2.heap.size x2 (x2.alloc (H #[I Q 0,I Q 0,I Q 0,I Q 0,I Q 0,I Q 0,I N 0,I Q 0] 123)):=(F _ _).alloc (E _) _
 have cx0':(x2.alloc (H #[I Q 0,I Q 0,I Q 0,I Q 0,I Q 0,I Q 0,I N 0,I Q 0] 123)).cell? ⟨Y.y,0,O⟩=Z (K (Z ⟨g,off,O⟩) k.l.length cV):=(hA.cell (p:=⟨Y.y,0,O⟩) hS3.ey.ptr.lt).trans cx0
 have c8':(x2.alloc (H #[I Q 0,I Q 0,I Q 0,I Q 0,I Q 0,I Q 0,I N 0,I Q 0] 123)).cell? ⟨w.heap.size+1,8,O⟩=Z (I Q n):=(hA.cell (p:=⟨w.heap.size+1,8,O⟩) (Bk.lt hS3.c)).trans c8
 have f0':(x2.alloc (H #[I Q 0,I Q 0,I Q 0,I Q 0,I Q 0,I Q 0,I N 0,I Q 0] 123)).cell? ⟨g,off+n*8,O⟩=Z (I Q 18):=(hA.cell (p:=⟨g,off+n*8,O⟩) hgl').trans f0
 have f1':(x2.alloc (H #[I Q 0,I Q 0,I Q 0,I Q 0,I Q 0,I Q 0,I N 0,I Q 0] 123)).cell? ⟨g,off+n*8+1,O⟩=Z (I Q (d:Nat)):=(hA.cell (p:=⟨g,off+n*8+1,O⟩) hgl').trans f1
 have f2':(x2.alloc (H #[I Q 0,I Q 0,I Q 0,I Q 0,I Q 0,I Q 0,I N 0,I Q 0] 123)).cell? ⟨g,off+n*8+2,O⟩=Z (I Q (s:Nat)):=(hA.cell (p:=⟨g,off+n*8+2,O⟩) hgl').trans f2
 have f3':(x2.alloc (H #[I Q 0,I Q 0,I Q 0,I Q 0,I Q 0,I Q 0,I N 0,I Q 0] 123)).cell? ⟨g,off+n*8+3,O⟩=Z (I Q (t2:Nat)):=(hA.cell (p:=⟨g,off+n*8+3,O⟩) hgl').trans f3
 have f4':(x2.alloc (H #[I Q 0,I Q 0,I Q 0,I Q 0,I Q 0,I Q 0,I N 0,I Q 0] 123)).cell? ⟨g,off+n*8+4,O⟩=Z (I Q (u:Nat)):=(hA.cell (p:=⟨g,off+n*8+4,O⟩) hgl').trans f4
 have f5':(x2.alloc (H #[I Q 0,I Q 0,I Q 0,I Q 0,I Q 0,I Q 0,I N 0,I Q 0] 123)).cell? ⟨g,off+n*8+5,O⟩=Z (I Q (a:Nat)):=(hA.cell (p:=⟨g,off+n*8+5,O⟩) hgl').trans f5
 have f6':(x2.alloc (H #[I Q 0,I Q 0,I Q 0,I Q 0,I Q 0,I Q 0,I N 0,I Q 0] 123)).cell? ⟨g,off+n*8+6,O⟩=Z (I N k2):=(hA.cell (p:=⟨g,off+n*8+6,O⟩) hgl').trans f6
 have f7':(x2.alloc (H #[I Q 0,I Q 0,I Q 0,I Q 0,I Q 0,I Q 0,I N 0,I Q 0] 123)).cell? ⟨g,off+n*8+7,O⟩=Z (I Q pl):=(hA.cell (p:=⟨g,off+n*8+7,O⟩) hgl').trans f7
 go_region
 have hJ:=Jb.made x2 18 d s t2 u a k2 pl
 rw[hsz] at hJ
 have hb5:Below x2.heap.size x2 (x2.alloc (H #[I Q 18,I Q (d:Nat),I Q (s:Nat),I Q (t2:Nat),I Q (u:Nat),I Q (a:Nat),I N k2,I Q pl] 123)).drew:=((F _ _).alloc (E _) _).drew
 have hS4:=hS3.below hb5
 replace hJ:Jb (x2.alloc (H #[I Q 18,I Q (d:Nat),I Q (s:Nat),I Q (t2:Nat),I Q (u:Nat),I Q (a:Nat),I N k2,I Q pl] 123)).drew _ _:=hJ
 have hsz4:w.heap.size+4<=(x2.alloc (H #[I Q 18,I Q (d:Nat),I Q (s:Nat),I Q (t2:Nat),I Q (u:Nat),I Q (a:Nat),I N k2,I Q pl] 123)).drew.heap.size:=by
  have e:(x2.alloc (H #[I Q 18,I Q (d:Nat),I Q (s:Nat),I Q (t2:Nat),I Q (u:Nat),I Q (a:Nat),I N k2,I Q pl] 123)).drew.heap.size=x2.heap.size+1:=by simp
  omega
 clear cx0 cx0' c8' c0 c1 c2 c3 c4 c5 c6 c7 c8 hA hgl' hsz hb5 hS3 f0 f1 f2 f3 f4 f5 f6 f7 f0' f1' f2' f3' f4' f5' f6' f7'
 generalize (x2.alloc (H #[I Q 18,I Q (d:Nat),I Q (s:Nat),I Q (t2:Nat),I Q (u:Nat),I Q (a:Nat),I N k2,I Q pl] 123)).drew=x3 at *
 obtain⟨VS,hVS⟩:∃ v,v=aD [r0,r1,r2,r3,r4,r5,r6,r7] s:=⟨_,rfl⟩
 obtain⟨VT,hVT⟩:∃ v,v=aD [r0,r1,r2,r3,r4,r5,r6,r7] t2:=⟨_,rfl⟩
 obtain⟨VU,hVU⟩:∃ v,v=aD [r0,r1,r2,r3,r4,r5,r6,r7] u:=⟨_,rfl⟩
 have cs:=hS4.c.at_ hx8.1 hs8
 have ct:=hS4.c.at_ hx8.1 ht8
 have cu:=hS4.c.at_ hx8.1 hu8
 have rs:=hx8.2.at_ s
 have rt:=hx8.2.at_ t2
 have ru:=hx8.2.at_ u
 rw[<-hVS] at cs rs
 rw[<-hVT] at ct rt
 rw[<-hVU] at cu ru
 have HV3:=G (And.intro hVS (And.intro hVT hVU))
 clear hVS hVT hVU
 have ws:=bT rs
 have wt:=bT rt
 have wu:=bT ru
 have is8:(s:Int)<8:=by omega
 have it8:(t2:Int)<8:=by omega
 have iu8:(u:Int)<8:=by omega
 have id8:(d:Int)<8:=by omega
 obtain⟨e0,e1,e2,e3,e4,e5,e6,e7⟩:=hJ.cells
 simp only at e0 e1 e2 e3 e4 e5 e6 e7
 go_upto_region 6 with fail
 go_quiet (fail)
 have hS5:=hS4.below (aO x3 nq)
 replace hJ:=hJ.below (aO x3 nq)
 replace hsz4:w.heap.size+4<=(x3.drewN nq).heap.size:=hsz4
 clear hS4 cs ct cu e0 e1 e2 e3 e4 e5 e6 e7
 generalize x3.drewN nq=x4 at *
 obtain⟨e0,e1,e2,e3,e4,e5,e6,e7⟩:=hJ.cells
 simp only at e0 e1 e2 e3 e4 e5 e6 e7
 have cx3:=hS5.ey.c3
 have hf2:=HF0.out
 rw[ec] at hf2
 simp only[Int.toNat_natCast] at hf2
 rw[<-HV3.out.1] at hf2
 go_upto_region 17 with fail
 have g3:=fun g:fL x4=>g.cell cx3
 have g5:=fun g:fL x4=>g.cell e5
 have HFi:Hid (∀ g:fL x4,Calls Tryz.prog 54 #[Y.cl,I Q (a:Nat),I N VS] g.x fun e y=>e=.returned (I Q (A:Nat))/\Below g.x.heap.size g.x y):=G fun g=>by
  have h1:=rd (hS5.ey.below g.ok) a VS rs.1 rs.2
  rw[hf2] at h1
  exact h1.mono fun e y ⟨q1,q2⟩=>⟨q1,aQ q2⟩
 clear cx3 e0 e1 e2 e3 e4 e5 e6 e7
 refine ap (by kernel_rfl) (by kernel_rfl) ?_
 repeat (go_big_quiet_step ((go_at_call 54;with_reducible exact ao (HFi.out _))))
 refine wpQuiet_nil ?_
 rintro x5 ⟨⟨_,hy5⟩,rfl⟩
 replace hJ:=hJ.below hy5
 have hS6:=hS5.below hy5
 have hsz5:=Nat.le_trans hsz4 hy5.size
 clear hS5 hy5 HFi g3 g5 hsz4
 have hAl:A<m.ws.length:=by rw[HX.out.mc.len];exact lm hf2
 have rw0:=HX.out.mc.ws.at_ A
 have c7:=hS6.ey.c7
 have zf:=hS6.ey.ptr.free
 go_upto_region 21 with fail
 obtain⟨hE7,st7⟩:=hS6.ey.more (wrap64 (Y.ac+1))
 have hS7:=hS6.gy hsz5 hE7 st7
 replace hJ:Jb (x5.setCell ⟨Y.y,7,O⟩ (I Q (wrap64 (Y.ac+1)))) _ _:=Bk.within hJ st7.1 (fun e=>by have:=hS6.mZ _ e;omega)
 have hsz7:w.heap.size+4<=(x5.setCell ⟨Y.y,7,O⟩ (I Q (wrap64 (Y.ac+1)))).heap.size:=Nat.le_trans hsz5 st7.1.size
 clear hS6 c7 zf hE7 st7 hsz5
 generalize (x5.setCell ⟨Y.y,7,O⟩ (I Q (wrap64 (Y.ac+1))))=x6 at *
 obtain⟨aw,capw,ew0,hw1,hw2,hw3⟩:=hS7.ey.zy
 obtain⟨gw,ewa,hwb,hwf,hwc⟩:=hw3 (Nat.lt_of_le_of_lt (Nat.zero_le _) hAl)
 subst ewa
 have ew:Y.wl=K (Z ⟨gw,0,O⟩) m.ws.length capw:=ew0
 have hgw:gw<w.heap.size:=HX.out.lt (.inr (.inr (.inr (.inl hwb))))
 have cx4:x6.cell? ⟨Y.y,2+2,O⟩=Z (K (Z ⟨gw,0,O⟩) m.ws.length capw):=by rw[<-ew];exact hS7.ey.c4
 simp only[Nat.reduceAdd] at cx4
 have cwA:=hwc A hAl
 obtain⟨WA,hWA⟩:∃ v,v=aD m.ws A:=⟨_,rfl⟩
 rw[<-hWA] at cwA rw0
 have HWA:=G hWA
 clear hWA hwc hwf hw3 ew0 hw1
 unfold maxLen at hw2
 have iA:(A:Int)<m.ws.length:=by omega
 go_upto_region 23 with fail
 have hO:So (x6.alloc (H #[K O 0 0,I Q 0,I Q (A:Nat),I Q 0,I Q 0,I Q 0] 64)) x6.heap.size A 0 0 0:=Bk.made _ _ _
 have hb7:Below x6.heap.size x6 (x6.alloc (H #[K O 0 0,I Q 0,I Q (A:Nat),I Q 0,I Q 0,I Q 0] 64)):=(F _ _).alloc (E _) _
 replace hJ:=hJ.below hb7
 have hS8:=hS7.below hb7
 have hsz8:w.heap.size+4<=(x6.alloc (H #[K O 0 0,I Q 0,I Q (A:Nat),I Q 0,I Q 0,I Q 0] 64)).heap.size:=Nat.le_trans hsz7 hb7.size
 clear hS7 hb7 cx4 cwA
 generalize (x6.alloc (H #[K O 0 0,I Q 0,I Q (A:Nat),I Q 0,I Q 0,I Q 0] 64))=x7 at *
 generalize x6.heap.size=b at *
 have hOwn:Hid (∀ i,Y.Own k.n i->i<w.heap.size):=G fun i hi=>HX.out.lt hi
 obtain⟨c0,c1,c2,c3,c4,c5,c6,c7,c8⟩:=Rb.cells hS8.c
 obtain⟨e0,e1,e2,e3,e4,e5,e6,e7⟩:=hJ.cells
 simp only at e0 e1 e2 e3 e4 e5 e6 e7
 go_upto_region 30 with fail
 have cx4:x7.cell? ⟨Y.y,2+2,O⟩=Z (K (Z ⟨gw,0,O⟩) m.ws.length capw):=by rw[<-ew];exact hS8.ey.c4
 simp only[Nat.reduceAdd] at cx4
 obtain⟨aw2,capw2,ew2,-,-,hw32⟩:=hS8.ey.zy
 obtain⟨gw2,ewa2,hwb2,hwf2,hwc2⟩:=hw32 (Nat.lt_of_le_of_lt (Nat.zero_le _) hAl)
 have egw:gw2=gw:=by rw[hwb] at hwb2;injection hwb2 with e;exact e.symm
 subst egw
 have cwA:=hwc2 A hAl
 rw[<-HWA.out] at cwA
 have zf2:=Bk.free hO
 obtain⟨q0,q1,q2,q3,q4,q5⟩:=hO.cells
 obtain⟨hE9,st9⟩:=hS8.ey.word ew A (v:=VT) rt
 have hS9:=hS8.gy hsz8 hE9 st9
 have hO9:So (x7.setCell ⟨gw2,A,O⟩ (I N VT)) b A 0 0 0:=Bk.off hO (p:=⟨gw2,A,O⟩) (by show b≠gw2;omega) _
 have hJ9:Jb (x7.setCell ⟨gw2,A,O⟩ (I N VT)) (w.heap.size+1+1+1) _:=Bk.off hJ (p:=⟨gw2,A,O⟩) (by show w.heap.size+1+1+1≠gw2;omega) _
 have hO10:So ((x7.setCell ⟨gw2,A,O⟩ (I N VT)).setCell ⟨b,3,O⟩ (I Q 1)) b A 1 0 0:=Bk.put hO9 3 (I Q 1)
 have hW10:=cT (x7.setCell ⟨gw2,A,O⟩ (I N VT)) b 3 (I Q 1)
 have hSw:=hS9.off hW10 (by omega) (by omega) (fun i hi e=>by have:=hOwn.out i hi;omega)
 have hJ10:Jb ((x7.setCell ⟨gw2,A,O⟩ (I N VT)).setCell ⟨b,3,O⟩ (I Q 1)) (w.heap.size+1+1+1) _:=Bk.off hJ9 (p:=⟨b,3,O⟩) (by show w.heap.size+1+1+1≠b;omega) _
 have hsz10:w.heap.size+4<=((x7.setCell ⟨gw2,A,O⟩ (I N VT)).setCell ⟨b,3,O⟩ (I Q 1)).heap.size:=Nat.le_trans hsz8 (Nat.le_trans st9.1.size hW10.size)
 clear hS9 hO9 hJ9 hE9 st9 hW10
 go_upto_region 31 with fail
 clear cx4 cwA zf2 q0 q1 q2 q3 q4 q5 c0 c1 c2 c3 c4 c5 c6 c7 c8 e0 e1 e2 e3 e4 e5 e6 e7 hS8 hO hJ hsz8 hwf2 hwc2 hw32 ew2
 generalize ((x7.setCell ⟨gw2,A,O⟩ (I N VT)).setCell ⟨b,3,O⟩ (I Q 1))=xw at *
 have hJ:=hJ10
 have hO:=hO10
 have hsz8:=hsz10
 clear hJ10 hO10 hsz10
 obtain⟨c0,c1,c2,c3,c4,c5,c6,c7,c8⟩:=Rb.cells hSw.c
 obtain⟨e0,e1,e2,e3,e4,e5,e6,e7⟩:=hJ.cells
 simp only at e0 e1 e2 e3 e4 e5 e6 e7
 have cd:=hSw.c.at_ hx8.1 hd8
 have zf:=Bk.free hSw.c
 have hSr:=hSw.Fn hx8.1 hd8 WA
 have hXr:cX ([r0,r1,r2,r3,r4,r5,r6,r7].set d WA):=hx8.put d rw0
 obtain⟨u0,u1,u2,u3,u4,u5,u6,u7,hu8'⟩:=cG hXr.1
 have hOr:So (xw.setCell ⟨w.heap.size+1,d,O⟩ (I Q WA)) b A 1 0 0:=Bk.off hO (p:=⟨w.heap.size+1,d,O⟩) (by show b≠w.heap.size+1;omega) _
 have hJr:Jb (xw.setCell ⟨w.heap.size+1,d,O⟩ (I Q WA)) (w.heap.size+1+1+1) _:=Bk.off hJ (p:=⟨w.heap.size+1,d,O⟩) (by show w.heap.size+1+1+1≠w.heap.size+1;omega) _
 have hsz8r:w.heap.size+4<=(xw.setCell ⟨w.heap.size+1,d,O⟩ (I Q WA)).heap.size:=Nat.le_trans hsz8 (cT xw (w.heap.size+1) d (I Q WA)).size
 go_upto_region 51 with fail
 rw[hu8'] at hSr hXr
 have HU8:=G hu8'
 clear hu8'
 clear cd zf c0 c1 c2 c3 c4 c5 c6 c7 c8 e0 e1 e2 e3 e4 e5 e6 e7 hSw hO hJ hsz8
 generalize xw.setCell ⟨w.heap.size+1,d,O⟩ (I Q WA)=xr at *
 have hJ:=hJr
 have hO:=hOr
 have hsz8:=hsz8r
 clear hJr hOr hsz8r
 obtain⟨c0,c1,c2,c3,c4,c5,c6,c7,c8⟩:=Rb.cells hSr.c
 obtain⟨e0,e1,e2,e3,e4,e5,e6,e7⟩:=hJ.cells
 simp only at e0 e1 e2 e3 e4 e5 e6 e7
 have zf:=Bk.free hSr.c
 have hSp:=hSr.place rfl ((n:Int)+1)
 have hOp:So (xr.setCell ⟨w.heap.size+1,8,O⟩ (I Q ((n:Int)+1))) b A 1 0 0:=Bk.off hO (p:=⟨w.heap.size+1,8,O⟩) (by show b≠w.heap.size+1;omega) _
 go_upto_region 52 with fail
 generalize xr.setCell ⟨w.heap.size+1,8,O⟩ (I Q ((n:Int)+1))=v at *
 clear c0 c1 c2 c3 c4 c5 c6 c7 c8 zf hSr e0 e1 e2 e3 e4 e5 e6 e7 hJ hO
 obtain⟨c0,c1,c2,c3,c4,c5,c6,c7,c8⟩:=Rb.cells hSp.c
 obtain⟨q0,q1,q2,q3,q4,q5⟩:=hOp.cells
 have hR:Calls Tryz.prog 48 #[J (Z ⟨Y.y,0,O⟩),I Q t,.agg #[I Q u0,I Q u1,I Q u2,I Q u3,I Q u4,I Q u5,I Q u6,I Q u7,I Q ((n:Int)+1)],.agg #[K O 0 0,I Q 0,I Q (A:Nat),I Q 1,I Q 0,I Q 0]] v (eF v { Y with ac:=wrap64 (Y.ac+1) } k BB):=by
  have h9:=BQ hSp.ey t ht ⟨[u0,u1,u2,u3,u4,u5,u6,u7],((n:Int)+1)⟩ hXr ⟨[],0,A,T,V,0⟩ _ rfl
  have hb:=HB.out
  rw[A9 rfl,ec] at hb
  simp only[Int.toNat_natCast] at hb
  rw[<-HV3.out.2.1,<-HWA.out,HU8.out] at hb
  rw[hb]
  exact h9
 have st:=hSp.st
 have q02:=hSp.q
 have hf0:∀ i,({ Y with ac:=wrap64 (Y.ac+1) }:YP).Own k.n i->i≠w.heap.size:=fun i hi e=>by have:=hSp.mZ i hi;omega
 have hlt:w.heap.size<v.heap.size:=hSp.q.lt
 clear hOp
 go_wp2_with fail
 refine hR.mono ?_
 rintro e v5 ⟨mv,Y',rfl,hl5,h5,hs5⟩
 obtain⟨a9,c9,e9,-⟩:=hl5.is
 subst e9
 have q5:=Bk.within q02 hs5.1 (fun e=>hf0 _ e rfl)
 have st5:=st.aJ hs5
 have hfar:∀ i,Y'.Own k.n i->i≠w.heap.size:=fun i hi e=>by
  rcases hs5.2.1 i hi with e2 | e2
  ·exact hf0 i e2 e
  ·omega
 unfold ro
 obtain⟨x0,x1,x2,x3,x4,x5⟩:=q5.pd
 have zf:=Bk.free q5
 have o1:=ep q5 (K a9 BB.2.ms.length c9) (I Q BB.2.done) (I Q BB.2.addr) (I Q (aH BB.2.wrote)) (I Q (aH BB.2.stay)) (I Q BB.2.e)
 have o2:=bK (y:=v5) (g:=w.heap.size) (K a9 BB.2.ms.length c9) (I Q BB.2.done) (I Q BB.2.addr) (I Q (aH BB.2.wrote)) (I Q (aH BB.2.stay)) (I Q BB.2.e)
 have hC:=G (dj (Y:=Y) (r:=BB) hl5 h5 st5 q5 (by decide) o2 (E _) hfar)
 clear q02 hl5 h5 hs5 st5 st o2 hR hSp c0 c1 c2 c3 c4 c5 c6 c7 c8 q0 q1 q2 q3 q4 q5
 go_wp2_with (refine bodyPost_ret (v:=.agg #[K a9 BB.2.ms.length c9,I Q BB.2.done,I Q BB.2.addr,I Q (aH BB.2.wrote),I Q (aH BB.2.stay),I Q BB.2.e]) (w:=eH v5 w.heap.size (K a9 BB.2.ms.length c9) (I Q BB.2.done) (I Q BB.2.addr) (I Q (aH BB.2.wrote)) (I Q (aH BB.2.stay)) (I Q BB.2.e)) ?hres rfl ?hpost)
 case hpost=>exact hC.out
 case hres=>
  generalize eH v5 w.heap.size (K a9 BB.2.ms.length c9) (I Q BB.2.done) (I Q BB.2.addr) (I Q (aH BB.2.wrote)) (I Q (aH BB.2.stay)) (I Q BB.2.e)=v9 at *
  obtain⟨o0,o1,o2,o3,o4,o5⟩:=o1.pd
  simp[results,Tryz.results25,go_sem,o0,o1,o2,o3,o4,o5]
end
structure GE (k:Lk)(init r7:List Int)(a b:Nat)(tg:aU->Bool):Prop extends DD k init r7 tg where
 sa:a<=100
 sb:b<=100
 pl:∀ l:List ki,decide ((fo k (jM k init r7) l).bad=V/\cj k.n (fo k (jM k init r7) l).l=(fo k (jM k init r7) l).l.length)=T
 se:∀ calls:Nat,(fJ k (100*(k.n+1)*(calls+1)) ⟨jM k init r7,fun _=>calls,0⟩).got=k.n*calls/\
  (fJ k (100*(k.n+1)*(calls+1)) ⟨jM k init r7,fun _=>calls,0⟩).r.bad=V/\
  cj k.n (fJ k (100*(k.n+1)*(calls+1)) ⟨jM k init r7,fun _=>calls,0⟩).r.l=(fJ k (100*(k.n+1)*(calls+1)) ⟨jM k init r7,fun _=>calls,0⟩).r.l.length
 re:k.n<=8->∀ (l:List ki) (t:Nat),t<k.n->∃ r2 r3 r4,fO k 5000 (fo k (jM k init r7) l)=(T,r2)/\r2.bad=V/\bt k t a (dN k r2 ⟨1,t,V⟩)=r3/\r3.act t=2/\
  bt k t b (dN k r3 ⟨2,t,V⟩)=r4/\r4.bad=V/\r4.act t=0/\cj k.n r4.l=r4.l.length
