import Derived.Test.YtbgaaclplgghcaaGreatDoorWAsmF
import Derived.Test.YtbgaaclplgghcaaGreatDoorWExL
import Derived.Test.YtbgaaclplgghcaaGreatDoorWArR
import Derived.BigQuiet
set_option linter.unusedVariables false
set_option maxHeartbeats 2000000
set_option maxRecDepth 100000
open Go.Value renaming int->I,slice->V,pointer->T
open Go.IntKind renaming i64->Q
open Option renaming none->N,some->O
open Bool renaming false->Z
open Go.Obj renaming cells->U
open Go.Lib renaming hid->K
open Go.RowKit.Below renaming refl->J
open Nat renaming le_refl->H
namespace Go.Proofs.YtbgaaclplgghcaaGreatDoor
open Go.ChangeShapes Go.WideShapes Go.ChangeAt Go.RowKit
section
variable {w w':World}{Y:YP}{k:Lk}{m:Mc}
theorem fC.mono {k:Lk}{v0 v1:World}{Y0 Y1:YP}{r:Mc×Ot}{e:Ending}{w':World}(h:fC v1 Y1 k r e w')(s:bA v0 k.n Y0 v1 Y1):fC v0 Y0 k r e w':=by
 obtain⟨v,Y',h1,h2,h3,h4⟩:=h
 exact⟨v,Y',h1,h2,h3,s.bx h4⟩
theorem dm {q:Nat}{t:TypeId}{cs:Array Value}{v:Value}{r:Mc×Ot}{Y':YP}{W W':World}(hl:eG .i64 3 W v r.2.ms)(h:Ey W Y' k r.1)(s:bA w k.n Y W Y')(hq:Bk W q t cs)(ht:t≠3)(hw:ab W W' (fun i=>i=q))(hn:w.heap.size<=q)(hfar:∀ i,Y'.Own k.n i->i≠q):
 fC w Y k r (.returned (Bs v r.2)) W':=
 ⟨v,Y',rfl,fT hl hw (by rintro b' rfl;exact⟨_,_,hq,ht⟩),h.kept hw (fun i hi e=>hfar i hi e),s.oD hw (fun i e=>by omega)⟩
theorem yK (h:Ey w Y k m)(t:Nat)(ht:t<k.n)(un:Bool):
 Calls Tryz.prog 23 #[T (O ⟨Y.y,0,N⟩),I Q t,I Q (aK un)] w (fC w Y k (co k m t un)):=by
 have hnn:=h.lk.n64
 obtain⟨r0,r1,r2,r3,r4,r5,r6,r7,pc,ec⟩:=h.bC ht
 have hc8:bg [r0,r1,r2,r3,r4,r5,r6,r7]:=by have:=h.mc.cs t ht;rw[ec] at this;exact this
 have HRun:Hid (∀ W,Ey W Y k m->Calls Tryz.prog 52 #[T (O ⟨Y.y,0,N⟩),I Q t,.agg #[I Q r0,I Q r1,I Q r2,I Q r3,I Q r4,I Q r5,I Q r6,I Q r7,I Q (if un then k.un else k.lo)],.agg #[V N 0 0,I Q 0,I Q (-1),I Q 0,I Q 0,I Q 0]] W (fC W Y k (co k m t un))):=K fun W hW=>by
  have:=Bx hW t ht ⟨[r0,r1,r2,r3,r4,r5,r6,r7],if un then k.un else k.lo⟩ hc8 ⟨[],0,-1,Z,Z,0⟩ _ rfl
  unfold co
  rw[ec]
  exact this
 obtain⟨BB,hBB⟩:∃ B,B=co k m t un:=⟨_,rfl⟩
 rw[<-hBB] at HRun ⊢
 clear hBB
 have HX:=K h
 have q0:=Bk.made w 67 #[V N 0 0,I Q 0,I Q 0,I Q 0,I Q 0,I Q 0]
 have b0:Below w.heap.size w (w.alloc (U #[V N 0 0,I Q 0,I Q 0,I Q 0,I Q 0,I Q 0] 67)):=(J _ _).alloc (H _) _
 have s0:(w.alloc (U #[V N 0 0,I Q 0,I Q 0,I Q 0,I Q 0,I Q 0] 67)).heap.size=w.heap.size+1:=by simp
 go_enter Tryz.func23,Tryz.ntmps23
 go_upto_region 1 with fail
 generalize w.alloc (U #[V N 0 0,I Q 0,I Q 0,I Q 0,I Q 0,I Q 0] 67)=y at *
 have h2:=h.below b0
 obtain⟨gk,capk,ek,hk1,hk2,hkb,hkf,-⟩:=h2.oC
 unfold maxLen at hk2
 have cx6:=h2.c6
 rw[ek] at cx6
 obtain⟨c0,c1,c2,c3,c4,c5,c6,c7,c8⟩:=h2.core ht ec ek
 go_upto_region 2 with fail
 have q1:=Rb.made y [r0,r1,r2,r3,r4,r5,r6,r7] pc
 rw[s0] at q1
 simp only[cW,List.map_cons,List.map_nil,List.cons_append,List.nil_append] at q1
 have b1:Below y.heap.size y (y.alloc (U #[I Q r0,I Q r1,I Q r2,I Q r3,I Q r4,I Q r5,I Q r6,I Q r7,I Q pc] 115)):=(J _ _).alloc (H _) _
 replace q0:=(b1.block _ q0.lt).trans q0
 have h3:=h2.below b1
 replace b0:=b0.trans (b1.mono b0.size)
 have HS0:=K s0
 clear c0 c1 c2 c3 c4 c5 c6 c7 c8 cx6 h2 b1 hkf s0 h
 generalize y.alloc (U #[I Q r0,I Q r1,I Q r2,I Q r3,I Q r4,I Q r5,I Q r6,I Q r7,I Q pc] 115)=z at *
 have hOwn:Hid (∀ i,Y.Own k.n i->i<w.heap.size):=K fun i hi=>HX.out.lt hi
 have k1:=h3.c1
 have k2:=h3.c2
 obtain⟨c0,c1,c2,c3,c4,c5,c6,c7,c8⟩:=Rb.cells q1
 have zf:=Bk.free q1
 have ne1:Y.y≠w.heap.size+1:=by have:=hOwn.out _ (.inl rfl);omega
 have q2:Rb (z.setCell ⟨w.heap.size+1,8,N⟩ (I Q k.lo)) (w.heap.size+1) [r0,r1,r2,r3,r4,r5,r6,r7] k.lo:=Rb.wi q1 rfl k.lo
 have hw1:ab z (z.setCell ⟨w.heap.size+1,8,N⟩ (I Q k.lo)) (fun i=>i=w.heap.size+1):=(ab.refl z (fun i=>i=w.heap.size+1)).put _ _ _ (.inl rfl)
 have h4:=h3.kept hw1 (fun i hi e=>by have:=hOwn.out i hi;omega)
 have q02:=Bk.within q0 hw1 (by omega)
 have b2:=b0.setCell (p:=⟨w.heap.size+1,8,N⟩) (by show w.heap.size<=w.heap.size+1;omega) (I Q k.lo)
 cases un with
 | false=>
  simp only[Bool.false_eq_true,if_false] at HRun
  unfold aK
  simp only[Bool.false_eq_true,if_false]
  go_upto_region 5 with fail
  clear c0 c1 c2 c3 c4 c5 c6 c7 c8 zf k1 k2 h3 q0 b0 q1 hw1
  generalize z.setCell ⟨w.heap.size+1,8,N⟩ (I Q k.lo)=v at *
  obtain⟨c0,c1,c2,c3,c4,c5,c6,c7,c8⟩:=Rb.cells q2
  have hR:=HRun.out v h4
  have st:=bA.ay (n:=k.n) (Y:=Y) b2
  have hf0:∀ i,Y.Own k.n i->i≠w.heap.size:=fun i hi e=>by have:=hOwn.out _ hi;omega
  have hlt:w.heap.size<v.heap.size:=by have:=Bk.lt q2;omega
  go_wp2_with fail
  refine hR.mono ?_
  rintro e v5 ⟨mv,Y',rfl,hl5,h5,hs5⟩
  obtain⟨a9,c9,e9,-⟩:=hl5.is
  subst e9
  have q5:=Bk.within q02 hs5.1 (fun e=>hf0 _ e rfl)
  have st5:=st.bx hs5
  have hfar:∀ i,Y'.Own k.n i->i≠w.heap.size:=fun i hi e=>by
   rcases hs5.2.1 i hi with e2 | e2
   ·exact hf0 i e2 e
   ·omega
  unfold Bs
  obtain⟨x0,x1,x2,x3,x4,x5⟩:=q5.ia
  have zf:=Bk.free q5
  have o1:=cx q5 (V a9 BB.2.ms.length c9) (I Q BB.2.done) (I Q BB.2.addr) (I Q (aK BB.2.wrote)) (I Q (aK BB.2.stay)) (I Q BB.2.e)
  have o2:=ba (y:=v5) (g:=w.heap.size) (V a9 BB.2.ms.length c9) (I Q BB.2.done) (I Q BB.2.addr) (I Q (aK BB.2.wrote)) (I Q (aK BB.2.stay)) (I Q BB.2.e)
  have hC:=K (dm (Y:=Y) (r:=BB) hl5 h5 st5 q5 (by decide) o2 (H _) hfar)
  clear q02 hl5 h5 hs5 st5 st o2 hR q2 c0 c1 c2 c3 c4 c5 c6 c7 c8 h4 HRun
  go_wp2_with (refine bodyPost_ret (v:=.agg #[V a9 BB.2.ms.length c9,I Q BB.2.done,I Q BB.2.addr,I Q (aK BB.2.wrote),I Q (aK BB.2.stay),I Q BB.2.e]) (w:=cr v5 w.heap.size (V a9 BB.2.ms.length c9) (I Q BB.2.done) (I Q BB.2.addr) (I Q (aK BB.2.wrote)) (I Q (aK BB.2.stay)) (I Q BB.2.e)) ?hres rfl ?hpost)
  case hpost=>exact hC.out
  case hres=>
   generalize cr v5 w.heap.size (V a9 BB.2.ms.length c9) (I Q BB.2.done) (I Q BB.2.addr) (I Q (aK BB.2.wrote)) (I Q (aK BB.2.stay)) (I Q BB.2.e)=v9 at *
   obtain⟨o0,o1,o2,o3,o4,o5⟩:=o1.ia
   simp[results,Tryz.results23,go_sem,o0,o1,o2,o3,o4,o5]
 | true=>
  simp only[if_true] at HRun
  unfold aK
  simp only[if_true]
  have zf2:=Bk.free q2
  go_upto_region 4 with fail
  clear c0 c1 c2 c3 c4 c5 c6 c7 c8 zf k1 k2 h3 q0 b0 q1 hw1
  generalize z.setCell ⟨w.heap.size+1,8,N⟩ (I Q k.lo)=z2 at *
  have k2:=h4.c2
  obtain⟨c0,c1,c2,c3,c4,c5,c6,c7,c8⟩:=Rb.cells q2
  have q3:Rb (z2.setCell ⟨w.heap.size+1,8,N⟩ (I Q k.un)) (w.heap.size+1) [r0,r1,r2,r3,r4,r5,r6,r7] k.un:=Rb.wi q2 rfl k.un
  have hw1:ab z2 (z2.setCell ⟨w.heap.size+1,8,N⟩ (I Q k.un)) (fun i=>i=w.heap.size+1):=(ab.refl z2 (fun i=>i=w.heap.size+1)).put _ _ _ (.inl rfl)
  have h5:=h4.kept hw1 (fun i hi e=>by have:=hOwn.out i hi;omega)
  replace q02:=Bk.within q02 hw1 (by omega)
  replace b2:=b2.setCell (p:=⟨w.heap.size+1,8,N⟩) (by show w.heap.size<=w.heap.size+1;omega) (I Q k.un)
  go_upto_region 5 with fail
  clear c0 c1 c2 c3 c4 c5 c6 c7 c8 zf2 k2 h4 q2 hw1
  generalize z2.setCell ⟨w.heap.size+1,8,N⟩ (I Q k.un)=v at *
  obtain⟨c0,c1,c2,c3,c4,c5,c6,c7,c8⟩:=Rb.cells q3
  have hR:=HRun.out v h5
  have st:=bA.ay (n:=k.n) (Y:=Y) b2
  have hf0:∀ i,Y.Own k.n i->i≠w.heap.size:=fun i hi e=>by have:=hOwn.out _ hi;omega
  have hlt:w.heap.size<v.heap.size:=by have:=Bk.lt q3;omega
  have h4:=h5
  have q2:=q3
  clear h5 q3
  go_wp2_with fail
  refine hR.mono ?_
  rintro e v5 ⟨mv,Y',rfl,hl5,h5,hs5⟩
  obtain⟨a9,c9,e9,-⟩:=hl5.is
  subst e9
  have q5:=Bk.within q02 hs5.1 (fun e=>hf0 _ e rfl)
  have st5:=st.bx hs5
  have hfar:∀ i,Y'.Own k.n i->i≠w.heap.size:=fun i hi e=>by
   rcases hs5.2.1 i hi with e2 | e2
   ·exact hf0 i e2 e
   ·omega
  unfold Bs
  obtain⟨x0,x1,x2,x3,x4,x5⟩:=q5.ia
  have zf:=Bk.free q5
  have o1:=cx q5 (V a9 BB.2.ms.length c9) (I Q BB.2.done) (I Q BB.2.addr) (I Q (aK BB.2.wrote)) (I Q (aK BB.2.stay)) (I Q BB.2.e)
  have o2:=ba (y:=v5) (g:=w.heap.size) (V a9 BB.2.ms.length c9) (I Q BB.2.done) (I Q BB.2.addr) (I Q (aK BB.2.wrote)) (I Q (aK BB.2.stay)) (I Q BB.2.e)
  have hC:=K (dm (Y:=Y) (r:=BB) hl5 h5 st5 q5 (by decide) o2 (H _) hfar)
  clear q02 hl5 h5 hs5 st5 st o2 hR q2 c0 c1 c2 c3 c4 c5 c6 c7 c8 h4 HRun
  go_wp2_with (refine bodyPost_ret (v:=.agg #[V a9 BB.2.ms.length c9,I Q BB.2.done,I Q BB.2.addr,I Q (aK BB.2.wrote),I Q (aK BB.2.stay),I Q BB.2.e]) (w:=cr v5 w.heap.size (V a9 BB.2.ms.length c9) (I Q BB.2.done) (I Q BB.2.addr) (I Q (aK BB.2.wrote)) (I Q (aK BB.2.stay)) (I Q BB.2.e)) ?hres rfl ?hpost)
  case hpost=>exact hC.out
  case hres=>
   generalize cr v5 w.heap.size (V a9 BB.2.ms.length c9) (I Q BB.2.done) (I Q BB.2.addr) (I Q (aK BB.2.wrote)) (I Q (aK BB.2.stay)) (I Q BB.2.e)=v9 at *
   obtain⟨o0,o1,o2,o3,o4,o5⟩:=o1.ia
   simp[results,Tryz.results23,go_sem,o0,o1,o2,o3,o4,o5]
end
def zj (k:Lk):Prop:=∀ (w:World) (Y:YP) (m:Mc) (t:Nat) (L:Int),Ey w Y k m->t<k.n->
 Calls Tryz.prog 25 #[T (O ⟨Y.y,0,N⟩),I Q t,I Q L] w (fC w Y k (dw k m t (decide (L≠0))))
structure SI (w:World)(Y0:YP)(k:Lk)(xs:List Int)(pc:Int)(Y:YP)(m:Mc)(W:World):Prop where
 ey:Ey W Y k m
 st:bA w k.n Y0 W Y
 q:Bk W w.heap.size 67 #[V N 0 0,I Q 0,I Q 0,I Q 0,I Q 0,I Q 0]
 c:Rb W (w.heap.size+1) xs pc
 tr:Bk W (w.heap.size+1+1) 67 #[V N 0 0,I Q (-1),I Q (-1),I Q 0,I Q 0,I Q 11]
 iP:∀ i,Y.Own k.n i->i<w.heap.size\/w.heap.size+4<=i
section
variable {w W W':World}{Y0 Y:YP}{k:Lk}{m:Mc}{xs:List Int}{pc:Int}
theorem SI.below (h:SI w Y0 k xs pc Y m W)(hb:Below W.heap.size W W'):SI w Y0 k xs pc Y m W':=
 ⟨h.ey.below hb,h.st.grown hb,(hb.block _ h.q.lt).trans h.q,h.c.below hb,(hb.block _ h.tr.lt).trans h.tr,h.iP⟩
theorem SI.off (h:SI w Y0 k xs pc Y m W){b:Nat}(hW:ab W W' (fun i=>i=b))(h1:w.heap.size+1<b)(h2:b≠w.heap.size+1+1)(h3:∀ i,Y.Own k.n i->i≠b):SI w Y0 k xs pc Y m W':=
 ⟨h.ey.kept hW (fun i hi e=>h3 i hi e),h.st.oD hW (fun i e=>by omega),h.q.within hW (by omega),Bk.within h.c hW (by omega),h.tr.within hW (by omega),h.iP⟩
theorem SI.core {ys:List Int}{pc':Int}(h:SI w Y0 k xs pc Y m W)(hW:ab W W' (fun i=>i=w.heap.size+1))(hc:Rb W' (w.heap.size+1) ys pc'):SI w Y0 k ys pc' Y m W':=
 ⟨h.ey.kept hW (fun i hi e=>by have:=h.iP i hi;omega),h.st.oD hW (fun i e=>by omega),h.q.within hW (by omega),hc,h.tr.within hW (by omega),h.iP⟩
theorem SI.DB (h:SI w Y0 k xs pc Y m W)(h8:xs.length=8){d:Nat}(hd:d<8)(v:Int):SI w Y0 k (xs.set d v) pc Y m (W.setCell ⟨w.heap.size+1,d,N⟩ (I Q v)):=
 h.core ((ab.refl _ (fun i=>i=w.heap.size+1)).put _ _ _ (.inl rfl)) (h.c.set h8 hd v)
theorem SI.place (h:SI w Y0 k xs pc Y m W)(h8:xs.length=8)(v:Int):SI w Y0 k xs v Y m (W.setCell ⟨w.heap.size+1,8,N⟩ (I Q v)):=
 h.core ((ab.refl _ (fun i=>i=w.heap.size+1)).put _ _ _ (.inl rfl)) (h.c.wi h8 v)
theorem SI.jb {b:Nat}{i:aM}(hJ:Jb W b i)(hW:ab W W' (fun i=>i=w.heap.size+1))(hb:w.heap.size+1<b):Jb W' b i:=Bk.within hJ hW (by omega)
theorem da (W:World)(g o:Nat)(v:Value):ab W (W.setCell ⟨g,o,N⟩ v) (fun i=>i=g):=(ab.refl _ (fun i=>i=g)).put _ _ _ (.inl rfl)
theorem bc (x:World)(n:Nat):Below x.heap.size x (x.drewN n):=⟨rfl,rfl,rfl,H _,fun _ _=>rfl⟩
theorem wrap_u32 {x:Int}(h:0<=x/\x<4294967296):x % 4294967296=x:=by omega
theorem Cy {i:aM}(h:Bu i)(hm:cN i.op=Z):i.op<16:=by
 have ho:=h.op
 unfold cN at hm
 simp at hm
 omega
end
section
variable {w w':World}{Y:YP}{k:Lk}{m:Mc}
theorem DL (h:Ey w Y k m)(t:Nat)(ht:t<k.n)(late:Int)(hm:gW k (m.cs t).pc=N):
 Calls Tryz.prog 25 #[T (O ⟨Y.y,0,N⟩),I Q t,I Q late] w (fC w Y k (m,eX)):=by
 have hnn:=h.lk.n64
 have hl64:=h.lk.parts.2.1
 obtain⟨r0,r1,r2,r3,r4,r5,r6,r7,pc,ec⟩:=h.bC ht
 have hx8:bg [r0,r1,r2,r3,r4,r5,r6,r7]:=by have:=h.mc.cs t ht;rw[ec] at this;exact this
 have HX:=K h
 rw[ec] at hm
 have q0:=Bk.made w 67 #[V N 0 0,I Q 0,I Q 0,I Q 0,I Q 0,I Q 0]
 have b0:Below w.heap.size w (w.alloc (U #[V N 0 0,I Q 0,I Q 0,I Q 0,I Q 0,I Q 0] 67)):=(J _ _).alloc (H _) _
 have s0:(w.alloc (U #[V N 0 0,I Q 0,I Q 0,I Q 0,I Q 0,I Q 0] 67)).heap.size=w.heap.size+1:=by simp
 go_enter Tryz.func25,Tryz.ntmps25
 go_upto_region 1 with fail
 generalize w.alloc (U #[V N 0 0,I Q 0,I Q 0,I Q 0,I Q 0,I Q 0] 67)=y at *
 have h2:=h.below b0
 obtain⟨gk,capk,ek,hk1,hk2,hkb,hkf,-⟩:=h2.oC
 unfold maxLen at hk2
 have cx6:=h2.c6
 rw[ek] at cx6
 obtain⟨c0,c1,c2,c3,c4,c5,c6,c7,c8⟩:=h2.core ht ec ek
 go_upto_region 2 with fail
 have q1:=Rb.made y [r0,r1,r2,r3,r4,r5,r6,r7] pc
 have s1:(y.alloc (U #[I Q r0,I Q r1,I Q r2,I Q r3,I Q r4,I Q r5,I Q r6,I Q r7,I Q pc] 115)).heap.size=w.heap.size+1+1:=by rw[World.size_alloc,s0]
 rw[s0] at q1
 simp only[cW,List.map_cons,List.map_nil,List.cons_append,List.nil_append] at q1
 have b1:Below y.heap.size y (y.alloc (U #[I Q r0,I Q r1,I Q r2,I Q r3,I Q r4,I Q r5,I Q r6,I Q r7,I Q pc] 115)):=(J _ _).alloc (H _) _
 replace q0:=(b1.block _ q0.lt).trans q0
 have h3:=h2.below b1
 replace b0:=b0.trans (b1.mono b0.size)
 clear c0 c1 c2 c3 c4 c5 c6 c7 c8 cx6 h2 b1 hkf s0 h hk1 hk2 hkb ek
 generalize y.alloc (U #[I Q r0,I Q r1,I Q r2,I Q r3,I Q r4,I Q r5,I Q r6,I Q r7,I Q pc] 115)=z at *
 go_upto_region 3 with fail
 have b1:Below z.heap.size z (z.alloc (U #[V N 0 0,I Q (-1),I Q (-1),I Q 0,I Q 0,I Q 11] 67)):=(J _ _).alloc (H _) _
 have q2:=Bk.made z 67 #[V N 0 0,I Q (-1),I Q (-1),I Q 0,I Q 0,I Q 11]
 have s2:(z.alloc (U #[V N 0 0,I Q (-1),I Q (-1),I Q 0,I Q 0,I Q 11] 67)).heap.size=w.heap.size+1+1+1:=by rw[World.size_alloc,s1]
 rw[s1] at q2
 have hS:SI w Y k [r0,r1,r2,r3,r4,r5,r6,r7] pc Y m (z.alloc (U #[V N 0 0,I Q (-1),I Q (-1),I Q 0,I Q 0,I Q 11] 67)):=⟨h3.below b1,(bA.ay b0).grown b1,(b1.block _ (Bk.lt q0)).trans q0,(b1.block _ (Bk.lt q1)).trans q1,q2,fun i hi=>.inl (HX.out.lt hi)⟩
 clear h3 b0 b1 q0 q1 q2 s1
 have HS2:=K s2
 clear s2
 generalize z.alloc (U #[V N 0 0,I Q (-1),I Q (-1),I Q 0,I Q 0,I Q 11] 67)=x at *
 have HS:=K hS
 have cx0:=hS.ey.c0
 obtain⟨hpv,aV,cV,eV⟩:=hS.ey.pv
 rw[eV] at cx0 hpv
 obtain⟨a2,ca2,e2,_,_,_,hsl⟩:=hpv
 simp only[Value.agg.injEq,Array.mk.injEq,List.cons.injEq,Value.slice.injEq,and_true,true_and] at e2
 obtain⟨rfl,rfl⟩:=e2
 have HV:=K eV
 clear eV
 obtain⟨c0,c1,c2,c3,c4,c5,c6,c7,c8⟩:=hS.c.cells
 rcases nQ hm with h1 | h1 | ⟨j,h1,h2,h3,h4⟩
 ·clear hm
  simp only at h1
  clear hsl hS
  go_quiet (fail)
  go_upto_region 4 with fail
  have hS3:=HS.out.below (bc x nq)
  clear c0 c1 c2 c3 c4 c5 c6 c7 c8 cx0
  generalize x.drewN nq=v at *
  obtain⟨t0,t1,t2,t3,t4,t5⟩:=hS3.tr.ia
  have q5:=hS3.q
  have HT:=K hS3
  obtain⟨x0,x1,x2,x3,x4,x5⟩:=q5.ia
  have zf:=Bk.free q5
  have o1:=cx q5 (V N 0 0) (I Q (-1)) (I Q (-1)) (I Q 0) (I Q 0) (I Q 11)
  have o2:=ba (y:=v) (g:=w.heap.size) (V N 0 0) (I Q (-1)) (I Q (-1)) (I Q 0) (I Q 0) (I Q 11)
  have hC:=K (dm (Y:=Y) (r:=(m,eX)) (v:=V N 0 0) (eG.nil _ _ _) HT.out.ey HT.out.st HT.out.q (by decide) o2 (H _) (fun i hi e=>by have:=HT.out.iP i hi;omega))
  clear hS3 o2 HT
  go_wp2_with (refine bodyPost_ret (v:=.agg #[V N 0 0,I Q (-1),I Q (-1),I Q 0,I Q 0,I Q 11]) (w:=cr v w.heap.size (V N 0 0) (I Q (-1)) (I Q (-1)) (I Q 0) (I Q 0) (I Q 11)) ?hres rfl ?hpost)
  case hpost=>exact hC.out
  case hres=>
   generalize cr v w.heap.size (V N 0 0) (I Q (-1)) (I Q (-1)) (I Q 0) (I Q 0) (I Q 11)=v9 at *
   obtain⟨o0,o1,o2,o3,o4,o5⟩:=o1.ia
   simp[results,Tryz.results25,go_sem,o0,o1,o2,o3,o4,o5]
 ·clear hm
  simp only at h1
  by_cases h0:pc<0
  ·clear h1
   have h1:=h0
   clear hsl hS
   go_quiet (fail)
   go_upto_region 4 with fail
   have hS3:=HS.out.below (bc x nq)
   clear c0 c1 c2 c3 c4 c5 c6 c7 c8 cx0
   generalize x.drewN nq=v at *
   obtain⟨t0,t1,t2,t3,t4,t5⟩:=hS3.tr.ia
   have q5:=hS3.q
   have HT:=K hS3
   obtain⟨x0,x1,x2,x3,x4,x5⟩:=q5.ia
   have zf:=Bk.free q5
   have o1:=cx q5 (V N 0 0) (I Q (-1)) (I Q (-1)) (I Q 0) (I Q 0) (I Q 11)
   have o2:=ba (y:=v) (g:=w.heap.size) (V N 0 0) (I Q (-1)) (I Q (-1)) (I Q 0) (I Q 0) (I Q 11)
   have hC:=K (dm (Y:=Y) (r:=(m,eX)) (v:=V N 0 0) (eG.nil _ _ _) HT.out.ey HT.out.st HT.out.q (by decide) o2 (H _) (fun i hi e=>by have:=HT.out.iP i hi;omega))
   clear hS3 o2 HT
   go_wp2_with (refine bodyPost_ret (v:=.agg #[V N 0 0,I Q (-1),I Q (-1),I Q 0,I Q 0,I Q 11]) (w:=cr v w.heap.size (V N 0 0) (I Q (-1)) (I Q (-1)) (I Q 0) (I Q 0) (I Q 11)) ?hres rfl ?hpost)
   case hpost=>exact hC.out
   case hres=>
    generalize cr v w.heap.size (V N 0 0) (I Q (-1)) (I Q (-1)) (I Q 0) (I Q 0) (I Q 11)=v9 at *
    obtain⟨o0,o1,o2,o3,o4,o5⟩:=o1.ia
    simp[results,Tryz.results25,go_sem,o0,o1,o2,o3,o4,o5]
  have d0:decide (pc<0)=Z:=by simp;omega
  have d1:pc>=(k.l.length:Int):=h1
  clear hsl hS
  go_quiet (fail)
  go_upto_region 4 with fail
  have hS3:=HS.out.below (bc x nq)
  clear c0 c1 c2 c3 c4 c5 c6 c7 c8 cx0
  generalize x.drewN nq=v at *
  obtain⟨t0,t1,t2,t3,t4,t5⟩:=hS3.tr.ia
  have q5:=hS3.q
  have HT:=K hS3
  obtain⟨x0,x1,x2,x3,x4,x5⟩:=q5.ia
  have zf:=Bk.free q5
  have o1:=cx q5 (V N 0 0) (I Q (-1)) (I Q (-1)) (I Q 0) (I Q 0) (I Q 11)
  have o2:=ba (y:=v) (g:=w.heap.size) (V N 0 0) (I Q (-1)) (I Q (-1)) (I Q 0) (I Q 0) (I Q 11)
  have hC:=K (dm (Y:=Y) (r:=(m,eX)) (v:=V N 0 0) (eG.nil _ _ _) HT.out.ey HT.out.st HT.out.q (by decide) o2 (H _) (fun i hi e=>by have:=HT.out.iP i hi;omega))
  clear hS3 o2 HT
  go_wp2_with (refine bodyPost_ret (v:=.agg #[V N 0 0,I Q (-1),I Q (-1),I Q 0,I Q 0,I Q 11]) (w:=cr v w.heap.size (V N 0 0) (I Q (-1)) (I Q (-1)) (I Q 0) (I Q 0) (I Q 11)) ?hres rfl ?hpost)
  case hpost=>exact hC.out
  case hres=>
   generalize cr v w.heap.size (V N 0 0) (I Q (-1)) (I Q (-1)) (I Q 0) (I Q 0) (I Q 11)=v9 at *
   obtain⟨o0,o1,o2,o3,o4,o5⟩:=o1.ia
   simp[results,Tryz.results25,go_sem,o0,o1,o2,o3,o4,o5]
 ·clear hm
  simp only at h1 h2 h3
  obtain⟨n,rfl⟩:=Int.eq_ofNat_of_zero_le h1
  rw[Int.toNat_natCast] at h3
  obtain⟨g,off,rfl,hgl,f0,f1,f2,f3,f4,f5,f6,f7⟩:=hsl.at_ h3
  have d0:decide ((n:Int)<0)=Z:=by simp
  have d1:decide ((n:Int)>=(k.l.length:Int))=Z:=by simp;omega
  have d4:decide (k.l.length<=n)=Z:=by simp;omega
  have d2:j.op<16:=Cy (HX.out.lk.ok j (List.mem_of_getElem? h3)) h4
  have d3:(n:Int)<k.l.length:=h2
  clear hsl hS f1 f2 f3 f4 f5 f6 f7 h3 h4 h1
  go_quiet (fail)
  go_upto_region 4 with fail
  have hS3:=HS.out.below (bc x nq)
  clear c0 c1 c2 c3 c4 c5 c6 c7 c8 cx0
  generalize x.drewN nq=v at *
  obtain⟨t0,t1,t2,t3,t4,t5⟩:=hS3.tr.ia
  have q5:=hS3.q
  have HT:=K hS3
  obtain⟨x0,x1,x2,x3,x4,x5⟩:=q5.ia
  have zf:=Bk.free q5
  have o1:=cx q5 (V N 0 0) (I Q (-1)) (I Q (-1)) (I Q 0) (I Q 0) (I Q 11)
  have o2:=ba (y:=v) (g:=w.heap.size) (V N 0 0) (I Q (-1)) (I Q (-1)) (I Q 0) (I Q 0) (I Q 11)
  have hC:=K (dm (Y:=Y) (r:=(m,eX)) (v:=V N 0 0) (eG.nil _ _ _) HT.out.ey HT.out.st HT.out.q (by decide) o2 (H _) (fun i hi e=>by have:=HT.out.iP i hi;omega))
  clear hS3 o2 HT
  go_wp2_with (refine bodyPost_ret (v:=.agg #[V N 0 0,I Q (-1),I Q (-1),I Q 0,I Q 0,I Q 11]) (w:=cr v w.heap.size (V N 0 0) (I Q (-1)) (I Q (-1)) (I Q 0) (I Q 0) (I Q 11)) ?hres rfl ?hpost)
  case hpost=>exact hC.out
  case hres=>
   generalize cr v w.heap.size (V N 0 0) (I Q (-1)) (I Q (-1)) (I Q 0) (I Q 0) (I Q 11)=v9 at *
   obtain⟨o0,o1,o2,o3,o4,o5⟩:=o1.ia
   simp[results,Tryz.results25,go_sem,o0,o1,o2,o3,o4,o5]
end
structure BD (k:Lk)(init r7:List Int)(tg:aM->Bool):Prop where
 al:k.l.all tg=true
 st:zj k
 e0:k.each=0
 wf:∀ i∈k.l,i.Wf
 ok:lu k
 iu:fz init
 il:init.length=jf k.zs
 rl:r7.length=k.n
 ru:fz r7
theorem BD.sv {k:Lk}{init r7:List Int}{tg:aM->Bool}(h:BD k init r7 tg):FF ⟨k.l,k.lo,k.un⟩ k.zs init r7 k.each k.n where
 rz:=h.ok.zs
 few:=h.ok.few
 len:=h.il
 n1:=by have:=h.ok.n1;omega
 n64:=by have:=h.ok.n64;omega
 e0:=by have:=h.e0;omega
 e8:=by have:=h.e0;omega
 rl:=by rw[h.rl]
 code:=h.ok.code
section
variable {w w' W W':World}{Y Y0 Y':YP}{k:Lk}{m m':Mc}{xs:List Int}{pc:Int}
theorem SI.dZ (h:SI w Y0 k xs pc Y m W)(hz:w.heap.size+4<=W.heap.size)(e:Ey W' Y' k m')(s:bA W k.n Y W' Y'):SI w Y0 k xs pc Y' m' W':=
 ⟨e,h.st.bx s,h.q.within s.1 (fun e=>by have:=h.iP _ e;omega),Bk.within h.c s.1 (fun e=>by have:=h.iP _ e;omega),h.tr.within s.1 (fun e=>by have:=h.iP _ e;omega),fun i hi=>by
  rcases s.2.1 i hi with q | q
  ·exact h.iP i q
  ·exact .inr (by omega)⟩
theorem lU {zs:List Int}{area x:Int}{A:Nat}(h:fA zs area x=O A):A<jf zs:=by
 unfold fA at h
 split at h
 ·rename_i hc
  injection h with h
  obtain⟨B,rfl⟩:=Int.eq_ofNat_of_zero_le hc.1
  have:=s9 (zs:=zs) (a:=B) (p:=(x % 4096).toNat) (by omega) (by have:=hc.2.2;rw[Int.toNat_natCast] at this;omega)
  rw[Int.toNat_natCast] at h
  omega
 ·cases h
def So (W:World)(b A:Nat)(WR ST D:Int):Prop:=Bk W b 67 #[V N 0 0,I Q D,I Q A,I Q WR,I Q ST,I Q 0]
theorem So.cells {b A:Nat}{WR ST D:Int}(h:So W b A WR ST D):W.cell? ⟨b,0,N⟩=O (V N 0 0)/\W.cell? ⟨b,1,N⟩=O (I Q D)/\W.cell? ⟨b,2,N⟩=O (I Q A)/\W.cell? ⟨b,3,N⟩=O (I Q WR)/\W.cell? ⟨b,4,N⟩=O (I Q ST)/\W.cell? ⟨b,5,N⟩=O (I Q 0):=
 ⟨Bk.cell h 0,Bk.cell h 1,Bk.cell h 2,Bk.cell h 3,Bk.cell h 4,Bk.cell h 5⟩
end
section
variable {k:Lk}{m:Mc}{t:Nat}{c:kg}{late:Bool}{i:aM}{a:Nat}
theorem vX (h:i.op=17):pN k m t c late i a=im k { m with ws:=m.ws.set a (aG c.xs i.t.toNat) } t ⟨c.xs,c.pc+1⟩ ⟨[],0,a,true,Z,0⟩:=by
 unfold pN;simp[h]
theorem yG (h:i.op=20):pN k m t c late i a=im k { m with ws:=m.ws.set a ((aG m.ws a+i.k) % 4294967296) } t ⟨c.xs.set i.d.toNat (aG m.ws a),c.pc+1⟩ ⟨[],0,a,true,Z,0⟩:=by
 unfold pN;simp[h]
theorem oy (h:i.op=21):pN k m t c late i a=if (decide (aG m.ws a=aG c.xs i.t.toNat) != decide (i.k=1))=true then im k m t ⟨c.xs.set i.d.toNat (aG m.ws a),c.pc+1⟩ ⟨[],0,a,Z,Z,0⟩
 else if late=Z\/i.pl<0 then ({ m with cs:=eL m.cs t ⟨c.xs.set i.d.toNat (aG m.ws a),c.pc⟩ },⟨[],-1,a,Z,true,0⟩)
 else im k m t ⟨c.xs.set i.d.toNat (aG m.ws a),i.pl⟩ ⟨[],0,a,Z,Z,0⟩:=by
 unfold pN;simp[h]
end
theorem wZ {W:World}{cap0:Nat}{a0:Option Addr}{xs:List Int}(h:dJ .u32 W a0 xs)(hm:xs.length<=100000):
 ∃ v' W',(Builtin.append_ #[27,27] 27 #[V N 0 0,V a0 xs.length cap0]).run Tryz.prog W=.ok v' W'/\eG .u32 22 W' v' xs/\Below W.heap.size W W'/\∀ g,v'.ownBlock=O g->W.heap.size<=g:=by
 obtain⟨i0,hi0,hz0,hz1,hz2⟩:=info_parts tH
 by_cases h0:xs=[]
 ·subst h0
  refine⟨V N 0 0,W,?_,eG.nil _ _ _,J _ _,fun g e=>by cases e⟩
  have hu:Tryz.prog.underlying 27=O (.slice 22):=Tryz.underlying27
  have hl:∀ (x:Addr),(loadCells x 0).run Tryz.prog W=.ok #[] W:=fun x=>by simpa using run_loadCells_list (P:=Tryz.prog) W x [] (by simp)
  cases a0 <;> simp[Builtin.append_,run_underlying hu,sizeOf,typeInfo,hi0,Builtin.lenOf,Builtin.firstCells,hl]
 ·obtain⟨b',off,rfl,hlt,hc⟩:=h (List.length_pos_iff.2 h0)
  obtain⟨v',W',hr,ho,hg,_⟩:=run_append_own (P:=Tryz.prog) W W.heap.size 27 27 22 i0 _ 1 4 Tryz.underlying27 hi0 hz0 hz1 hz2 rfl (by omega) (V N 0 0) 0 [] (World.ownsRow_nil _ _ _ _) ⟨b',off,N⟩ xs.length cap0 (xs.map (Value.int .u32)) (by simp) (ob hc) (by intro u hu;simp at hu;obtain⟨x,_,rfl⟩:=hu;rfl) (by unfold maxLen;omega) (by omega) (H _)
  rw[Nat.zero_add,List.nil_append] at ho
  exact⟨v',W',hr,World.ownsRow.mono (base':=0) ho (Nat.zero_le _),aP hg,fun g e=>(World.ownsRow.lt ho g e).1⟩
structure rk (w:World)(base:Nat)(k:Lk)(Y:YP)(ws:List Int)(cs:Nat->kg)(j:Nat)(W:World):Prop where
 ptr:Bk W Y.y 94 #[Y.cv,I Q k.lo,I Q k.un,Y.cl,Y.wl,T (O ⟨Y.x,0,N⟩),Y.kl,I Q Y.ac]
 code:W.ownsRow 0 127 8 Y.cv k.l.length (bD k.l)
 cells:Cs 0 W Y.cl (nA k.zs)
 words:eG .u32 22 W Y.wl ws
 dZ:Rf W Y.x k.n k.each Y.R (oA k.n k.each).free (oA k.n k.each).gen (oA k.n k.each).out
 cores:W.ownsRow w.heap.size 115 9 Y.kl j (fx cs j)
 gr:Below w.heap.size w W
 newy:w.heap.size<=Y.y
 new:∀ i,Y.Own k.n i->base<=i/\(Y.cv.ownBlock=O i\/w.heap.size<=i)
section
variable {w W W':World}{base:Nat}{k:Lk}{Y:YP}{ws:List Int}{cs:Nat->kg}{j:Nat}
theorem rk.kept (h:rk w base k Y ws cs j W){S:Nat->Prop}(hw:ab W W' S)(hn:∀ i,S i->w.heap.size<=i)(h1:¬ S Y.y)(h2:∀ g,Y.cv.ownBlock=O g->¬ S g)(h3:∀ g,Y.cl.ownBlock=O g->¬ S g)(h4:∀ g,Y.wl.ownBlock=O g->¬ S g)(h5:¬ S Y.x)(h6:∀ g,Y.kl.ownBlock=O g->¬ S g)(h7:∀ i,Y.R.Has k.n i->¬ S i):rk w base k Y ws cs j W':=
 ⟨h.ptr.within hw h1,aq h.code hw h2,h.cells.within hw h3,h.words.within hw h4,h.dZ.kept hw h5 h7,aq h.cores hw h6,
  ⟨hw.os.trans h.gr.os,hw.tape.trans h.gr.tape,hw.output.trans h.gr.output,Nat.le_trans h.gr.size hw.size,fun i hi=>(hw.block i (Nat.lt_of_lt_of_le hi h.gr.size) (fun e=>by have:=hn i e;omega)).trans (h.gr.block i hi)⟩,h.newy,h.new⟩
theorem rk.below (h:rk w base k Y ws cs j W)(hb:Below W.heap.size W W'):rk w base k Y ws cs j W':=
 h.kept (av hb) (by simp) (by simp) (by simp) (by simp) (by simp) (by simp) (by simp) (by simp)
theorem rk.B4 (h:rk w base k Y [] cs j W){v:Value}(hl:eG .u32 22 W v ws)(hn:∀ g,v.ownBlock=O g->base<=g/\w.heap.size<=g):rk w base k { Y with wl:=v } ws cs j (W.setCell ⟨Y.y,4,N⟩ v):=by
 have hW:=da W Y.y 4 v
 have iP:∀ {g:Nat} {t:TypeId} {c:Array Value},Bk W g t c->t≠94->g≠Y.y:=fun hb ht e=>Bk.aj hb h.ptr ht e
 refine⟨h.ptr.put 4 v,aq h.code hW (fun g e=>?_),h.cells.within hW (fun g e=>?_),hl.within hW (fun g e=>?_),h.dZ.kept hW (iP h.dZ.ptr (by decide)) (fun i hi e=>Rf.dF h.dZ h.ptr (by decide) (by decide) (e ▸ hi)),aq h.cores hW (fun g e=>?_),
  h.gr.setCell (p:=⟨Y.y,4,N⟩) h.newy v,h.newy,fun i hi=>?_⟩
 ·obtain⟨c,hc⟩:=aZ h.code e;exact iP hc (by decide)
 ·obtain⟨c,hc⟩:=aZ h.cells e;exact iP hc (by decide)
 ·obtain⟨c,hc⟩:=hl.bk e;exact iP hc (by decide)
 ·obtain⟨c,hc⟩:=aZ h.cores e;exact iP hc (by decide)
 ·rcases hi with e | e | e | e | e | e | e
  ·exact h.new i (.inl e)
  ·exact h.new i (.inr (.inl e))
  ·exact h.new i (.inr (.inr (.inl e)))
  ·exact⟨(hn i e).1,.inr (hn i e).2⟩
  ·exact h.new i (.inr (.inr (.inr (.inr (.inl e)))))
  ·exact h.new i (.inr (.inr (.inr (.inr (.inr (.inl e))))))
  ·exact h.new i (.inr (.inr (.inr (.inr (.inr (.inr e))))))
theorem rk.grow (h:rk w base k Y ws cs j W)(hg:W.grownBy W' Y.kl.ownBlock)(hn:∀ g,Y.kl.ownBlock=O g->w.heap.size<=g):
 Bk W' Y.y 94 #[Y.cv,I Q k.lo,I Q k.un,Y.cl,Y.wl,T (O ⟨Y.x,0,N⟩),Y.kl,I Q Y.ac]/\∀ v,W'.ownsRow w.heap.size 115 9 v (j+1) (fx cs (j+1))->base<=w.heap.size->rk w base k { Y with kl:=v } ws cs (j+1) (W'.setCell ⟨Y.y,6,N⟩ v):=by
 have hw:ab W W' (fun i=>Y.kl.ownBlock=O i):=.ay hg (fun i e=>.inl e)
 have iP:∀ {g:Nat} {t:TypeId} {c:Array Value},Bk W g t c->t≠115->¬ Y.kl.ownBlock=O g:=fun hb ht e=>by
  obtain⟨c,hc⟩:=aZ h.cores e
  exact Bk.aj hb hc ht rfl
 have hp:=h.ptr.within hw (iP h.ptr (by decide))
 refine⟨hp,fun v hv hbase=>?_⟩
 have hW:=da W' Y.y 6 v
 have far2:∀ {g:Nat} {t:TypeId} {c:Array Value},Bk W' g t c->t≠94->g≠Y.y:=fun hb ht e=>Bk.aj hb hp ht e
 have k1:W'.ownsRow 0 127 8 Y.cv k.l.length (bD k.l):=aq h.code hw (fun g e=>by obtain⟨c,hc⟩:=aZ h.code e;exact iP hc (by decide))
 have k2:Cs 0 W' Y.cl (nA k.zs):=h.cells.within hw (fun g e=>by obtain⟨c,hc⟩:=aZ h.cells e;exact iP hc (by decide))
 have k3:eG .u32 22 W' Y.wl ws:=h.words.within hw (fun g e=>by obtain⟨c,hc⟩:=h.words.bk e;exact iP hc (by decide))
 have k4:=h.dZ.kept hw (iP h.dZ.ptr (by decide)) (fun i hi=>by
  obtain⟨t,c,hb,ht⟩:=h.dZ.bk hi
  exact iP hb (by rcases ht with rfl|rfl <;> decide))
 refine⟨hp.put 6 v,aq k1 hW (fun g e=>?_),k2.within hW (fun g e=>?_),k3.within hW (fun g e=>?_),k4.kept hW (far2 k4.ptr (by decide)) (fun i hi e=>Rf.dF k4 hp (by decide) (by decide) (e ▸ hi)),aq hv hW (fun g e=>?_),?_,h.newy,fun i hi=>?_⟩
 ·obtain⟨c,hc⟩:=aZ k1 e;exact far2 hc (by decide)
 ·obtain⟨c,hc⟩:=aZ k2 e;exact far2 hc (by decide)
 ·obtain⟨c,hc⟩:=k3.bk e;exact far2 hc (by decide)
 ·obtain⟨c,hc⟩:=aZ hv e;exact far2 hc (by decide)
 ·have hb:Below w.heap.size w W':=⟨hw.os.trans h.gr.os,hw.tape.trans h.gr.tape,hw.output.trans h.gr.output,Nat.le_trans h.gr.size hw.size,fun i hi=>(hw.block i (Nat.lt_of_lt_of_le hi h.gr.size) (fun e=>by have:=hn i e;omega)).trans (h.gr.block i hi)⟩
  exact hb.setCell (p:=⟨Y.y,6,N⟩) h.newy v
 ·rcases hi with e | e | e | e | e | e | e
  ·exact h.new i (.inl e)
  ·exact h.new i (.inr (.inl e))
  ·exact h.new i (.inr (.inr (.inl e)))
  ·exact h.new i (.inr (.inr (.inr (.inl e))))
  ·exact h.new i (.inr (.inr (.inr (.inr (.inl e)))))
  ·exact⟨Nat.le_trans hbase (World.ownsRow.lt hv i e).1,.inr (World.ownsRow.lt hv i e).1⟩
  ·exact h.new i (.inr (.inr (.inr (.inr (.inr (.inr e))))))
theorem rk.ey {init r7:List Int}(h:rk w base k Y init (oB k init r7).cs k.n W)(hk:lu k)(hi:init.length=jf k.zs)(hiu:fz init)(hru:fz r7):Ey W Y k (oB k init r7):=by
 refine⟨h.ptr,h.code,h.cells,h.words,h.dZ,⟨_,_,_,qj k.n k.each hk.n64 hk.each⟩,mU h.cores,hk,⟨hiu,hi,fun t ht=>⟨rfl,?_⟩⟩⟩
 intro x hx
 simp only[oB,List.mem_cons,List.not_mem_nil,or_false] at hx
 have:=hru.at_ t
 omega
end
