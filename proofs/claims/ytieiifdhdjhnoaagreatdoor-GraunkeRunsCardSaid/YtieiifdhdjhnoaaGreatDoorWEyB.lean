import Derived.Test.YtieiifdhdjhnoaaGreatDoorWAsmF
import Derived.Test.YtieiifdhdjhnoaaGreatDoorWExG
import Derived.Test.YtieiifdhdjhnoaaGreatDoorWCoreP
import Derived.BigQuiet
set_option linter.unusedVariables false
set_option maxHeartbeats 2000000
set_option maxRecDepth 100000
open Go.Value renaming int->I,slice->T,pointer->U
open Go.IntKind renaming i64->Q,u32->N
open Option renaming none->O,some->Z
open Bool renaming false->V
open Go.Obj renaming cells->K
open Go.Lib renaming hid->J
open Go.RowKit.Below renaming refl->H
open Nat renaming le_refl->G
namespace Go.Proofs.YtieiifdhdjhnoaaGreatDoor
open Go.ChangeShapes Go.WideShapes Go.ChangeAt Go.RowKit
section
variable {w w':World}{Y:YP}{k:Lk}{m:Mc}
theorem eP.mono {k:Lk}{v0 v1:World}{Y0 Y1:YP}{r:Mc×Ot}{e:Ending}{w':World}(h:eP v1 Y1 k r e w')(s:bC v0 k.n Y0 v1 Y1):eP v0 Y0 k r e w':=by
 obtain⟨v,Y',h1,h2,h3,h4⟩:=h
 exact⟨v,Y',h1,h2,h3,s.bp h4⟩
theorem dh {q:Nat}{t:TypeId}{cs:Array Value}{v:Value}{r:Mc×Ot}{Y':YP}{W W':World}(hl:eH .i64 3 W v r.2.ms)(h:Ey W Y' k r.1)(s:bC w k.n Y W Y')(hq:Bk W q t cs)(ht:t≠3)(hw:ab W W' (fun i=>i=q))(hn:w.heap.size<=q)(hfar:∀ i,Y'.Own k.n i->i≠q):
 eP w Y k r (.returned (BJ v r.2)) W':=
 ⟨v,Y',rfl,fW hl hw (by rintro b' rfl;exact⟨_,_,hq,ht⟩),h.kept hw (fun i hi e=>hfar i hi e),s.oU hw (fun i e=>by omega)⟩
theorem yW (h:Ey w Y k m)(t:Nat)(ht:t<k.n)(un:Bool):
 Calls Tryz.prog 23 #[U (Z ⟨Y.y,0,O⟩),I Q t,I Q (aG un)] w (eP w Y k (cJ k m t un)):=by
 have hnn:=h.lk.n64
 obtain⟨r0,r1,r2,r3,r4,r5,r6,r7,pc,ec⟩:=h.bA ht
 have hc8:bh [r0,r1,r2,r3,r4,r5,r6,r7]:=by have:=h.mc.cs t ht;rw[ec] at this;exact this
 have HRun:Hid (∀ W,Ey W Y k m->Calls Tryz.prog 48 #[U (Z ⟨Y.y,0,O⟩),I Q t,.agg #[I Q r0,I Q r1,I Q r2,I Q r3,I Q r4,I Q r5,I Q r6,I Q r7,I Q (if un then k.un else k.lo)],.agg #[T O 0 0,I Q 0,I Q (-1),I Q 0,I Q 0,I Q 0]] W (eP W Y k (cJ k m t un))):=J fun W hW=>by
  have:=zQ hW t ht ⟨[r0,r1,r2,r3,r4,r5,r6,r7],if un then k.un else k.lo⟩ hc8 ⟨[],0,-1,V,V,0⟩ _ rfl
  unfold cJ
  rw[ec]
  exact this
 obtain⟨BB,hBB⟩:∃ B,B=cJ k m t un:=⟨_,rfl⟩
 rw[<-hBB] at HRun ⊢
 clear hBB
 have HX:=J h
 have q0:=Bk.made w 64 #[T O 0 0,I Q 0,I Q 0,I Q 0,I Q 0,I Q 0]
 have b0:Below w.heap.size w (w.alloc (K #[T O 0 0,I Q 0,I Q 0,I Q 0,I Q 0,I Q 0] 64)):=(H _ _).alloc (G _) _
 have s0:(w.alloc (K #[T O 0 0,I Q 0,I Q 0,I Q 0,I Q 0,I Q 0] 64)).heap.size=w.heap.size+1:=by simp
 go_enter Tryz.func23,Tryz.ntmps23
 go_upto_region 1 with fail
 generalize w.alloc (K #[T O 0 0,I Q 0,I Q 0,I Q 0,I Q 0,I Q 0] 64)=y at *
 have h2:=h.below b0
 obtain⟨gk,capk,ek,hk1,hk2,hkb,hkf,-⟩:=h2.nN
 unfold maxLen at hk2
 have cx6:=h2.c6
 rw[ek] at cx6
 obtain⟨c0,c1,c2,c3,c4,c5,c6,c7,c8⟩:=h2.core ht ec ek
 go_upto_region 2 with fail
 have q1:=Rb.made y [r0,r1,r2,r3,r4,r5,r6,r7] pc
 rw[s0] at q1
 simp only[dd,List.map_cons,List.map_nil,List.cons_append,List.nil_append] at q1
 have b1:Below y.heap.size y (y.alloc (K #[I Q r0,I Q r1,I Q r2,I Q r3,I Q r4,I Q r5,I Q r6,I Q r7,I Q pc] 111)):=(H _ _).alloc (G _) _
 replace q0:=(b1.block _ q0.lt).trans q0
 have h3:=h2.below b1
 replace b0:=b0.trans (b1.mono b0.size)
 have HS0:=J s0
 clear c0 c1 c2 c3 c4 c5 c6 c7 c8 cx6 h2 b1 hkf s0 h
 generalize y.alloc (K #[I Q r0,I Q r1,I Q r2,I Q r3,I Q r4,I Q r5,I Q r6,I Q r7,I Q pc] 111)=z at *
 have hOwn:Hid (∀ i,Y.Own k.n i->i<w.heap.size):=J fun i hi=>HX.out.lt hi
 have k1:=h3.c1
 have k2:=h3.c2
 obtain⟨c0,c1,c2,c3,c4,c5,c6,c7,c8⟩:=Rb.cells q1
 have zf:=Bk.free q1
 have ne1:Y.y≠w.heap.size+1:=by have:=hOwn.out _ (.inl rfl);omega
 have q2:Rb (z.setCell ⟨w.heap.size+1,8,O⟩ (I Q k.lo)) (w.heap.size+1) [r0,r1,r2,r3,r4,r5,r6,r7] k.lo:=Rb.wF q1 rfl k.lo
 have hw1:ab z (z.setCell ⟨w.heap.size+1,8,O⟩ (I Q k.lo)) (fun i=>i=w.heap.size+1):=(ab.refl z (fun i=>i=w.heap.size+1)).put _ _ _ (.inl rfl)
 have h4:=h3.kept hw1 (fun i hi e=>by have:=hOwn.out i hi;omega)
 have q02:=Bk.within q0 hw1 (by omega)
 have b2:=b0.setCell (p:=⟨w.heap.size+1,8,O⟩) (by show w.heap.size<=w.heap.size+1;omega) (I Q k.lo)
 cases un with
 | false=>
  simp only[Bool.false_eq_true,if_false] at HRun
  unfold aG
  simp only[Bool.false_eq_true,if_false]
  go_upto_region 5 with fail
  clear c0 c1 c2 c3 c4 c5 c6 c7 c8 zf k1 k2 h3 q0 b0 q1 hw1
  generalize z.setCell ⟨w.heap.size+1,8,O⟩ (I Q k.lo)=v at *
  obtain⟨c0,c1,c2,c3,c4,c5,c6,c7,c8⟩:=Rb.cells q2
  have hR:=HRun.out v h4
  have st:=bC.az (n:=k.n) (Y:=Y) b2
  have hf0:∀ i,Y.Own k.n i->i≠w.heap.size:=fun i hi e=>by have:=hOwn.out _ hi;omega
  have hlt:w.heap.size<v.heap.size:=by have:=Bk.lt q2;omega
  go_wp2_with fail
  refine hR.mono ?_
  rintro e v5 ⟨mv,Y',rfl,hl5,h5,hs5⟩
  obtain⟨a9,c9,e9,-⟩:=hl5.is
  subst e9
  have q5:=Bk.within q02 hs5.1 (fun e=>hf0 _ e rfl)
  have st5:=st.bp hs5
  have hfar:∀ i,Y'.Own k.n i->i≠w.heap.size:=fun i hi e=>by
   rcases hs5.2.1 i hi with e2 | e2
   ·exact hf0 i e2 e
   ·omega
  unfold BJ
  obtain⟨x0,x1,x2,x3,x4,x5⟩:=q5.gS
  have zf:=Bk.free q5
  have o1:=cm q5 (T a9 BB.2.ms.length c9) (I Q BB.2.done) (I Q BB.2.addr) (I Q (aG BB.2.wrote)) (I Q (aG BB.2.stay)) (I Q BB.2.e)
  have o2:=bd (y:=v5) (g:=w.heap.size) (T a9 BB.2.ms.length c9) (I Q BB.2.done) (I Q BB.2.addr) (I Q (aG BB.2.wrote)) (I Q (aG BB.2.stay)) (I Q BB.2.e)
  have hC:=J (dh (Y:=Y) (r:=BB) hl5 h5 st5 q5 (by decide) o2 (G _) hfar)
  clear q02 hl5 h5 hs5 st5 st o2 hR q2 c0 c1 c2 c3 c4 c5 c6 c7 c8 h4 HRun
  go_wp2_with (refine bodyPost_ret (v:=.agg #[T a9 BB.2.ms.length c9,I Q BB.2.done,I Q BB.2.addr,I Q (aG BB.2.wrote),I Q (aG BB.2.stay),I Q BB.2.e]) (w:=co v5 w.heap.size (T a9 BB.2.ms.length c9) (I Q BB.2.done) (I Q BB.2.addr) (I Q (aG BB.2.wrote)) (I Q (aG BB.2.stay)) (I Q BB.2.e)) ?hres rfl ?hpost)
  case hpost=>exact hC.out
  case hres=>
   generalize co v5 w.heap.size (T a9 BB.2.ms.length c9) (I Q BB.2.done) (I Q BB.2.addr) (I Q (aG BB.2.wrote)) (I Q (aG BB.2.stay)) (I Q BB.2.e)=v9 at *
   obtain⟨o0,o1,o2,o3,o4,o5⟩:=o1.gS
   simp[results,Tryz.results23,go_sem,o0,o1,o2,o3,o4,o5]
 | true=>
  simp only[if_true] at HRun
  unfold aG
  simp only[if_true]
  have zf2:=Bk.free q2
  go_upto_region 4 with fail
  clear c0 c1 c2 c3 c4 c5 c6 c7 c8 zf k1 k2 h3 q0 b0 q1 hw1
  generalize z.setCell ⟨w.heap.size+1,8,O⟩ (I Q k.lo)=z2 at *
  have k2:=h4.c2
  obtain⟨c0,c1,c2,c3,c4,c5,c6,c7,c8⟩:=Rb.cells q2
  have q3:Rb (z2.setCell ⟨w.heap.size+1,8,O⟩ (I Q k.un)) (w.heap.size+1) [r0,r1,r2,r3,r4,r5,r6,r7] k.un:=Rb.wF q2 rfl k.un
  have hw1:ab z2 (z2.setCell ⟨w.heap.size+1,8,O⟩ (I Q k.un)) (fun i=>i=w.heap.size+1):=(ab.refl z2 (fun i=>i=w.heap.size+1)).put _ _ _ (.inl rfl)
  have h5:=h4.kept hw1 (fun i hi e=>by have:=hOwn.out i hi;omega)
  replace q02:=Bk.within q02 hw1 (by omega)
  replace b2:=b2.setCell (p:=⟨w.heap.size+1,8,O⟩) (by show w.heap.size<=w.heap.size+1;omega) (I Q k.un)
  go_upto_region 5 with fail
  clear c0 c1 c2 c3 c4 c5 c6 c7 c8 zf2 k2 h4 q2 hw1
  generalize z2.setCell ⟨w.heap.size+1,8,O⟩ (I Q k.un)=v at *
  obtain⟨c0,c1,c2,c3,c4,c5,c6,c7,c8⟩:=Rb.cells q3
  have hR:=HRun.out v h5
  have st:=bC.az (n:=k.n) (Y:=Y) b2
  have hf0:∀ i,Y.Own k.n i->i≠w.heap.size:=fun i hi e=>by have:=hOwn.out _ hi;omega
  have hlt:w.heap.size<v.heap.size:=by have:=Bk.lt q3;omega
  have h4:=h5
  have q2:=q3
  clear h5 q3
  go_wp2_with fail
  refine hR.mono ?_
  rintro e v5 ⟨mv,Y',rfl,hl5,h5,hs5⟩
  obtain⟨a9,c9,e9,-⟩:=hl5.is
  subst e9
  have q5:=Bk.within q02 hs5.1 (fun e=>hf0 _ e rfl)
  have st5:=st.bp hs5
  have hfar:∀ i,Y'.Own k.n i->i≠w.heap.size:=fun i hi e=>by
   rcases hs5.2.1 i hi with e2 | e2
   ·exact hf0 i e2 e
   ·omega
  unfold BJ
  obtain⟨x0,x1,x2,x3,x4,x5⟩:=q5.gS
  have zf:=Bk.free q5
  have o1:=cm q5 (T a9 BB.2.ms.length c9) (I Q BB.2.done) (I Q BB.2.addr) (I Q (aG BB.2.wrote)) (I Q (aG BB.2.stay)) (I Q BB.2.e)
  have o2:=bd (y:=v5) (g:=w.heap.size) (T a9 BB.2.ms.length c9) (I Q BB.2.done) (I Q BB.2.addr) (I Q (aG BB.2.wrote)) (I Q (aG BB.2.stay)) (I Q BB.2.e)
  have hC:=J (dh (Y:=Y) (r:=BB) hl5 h5 st5 q5 (by decide) o2 (G _) hfar)
  clear q02 hl5 h5 hs5 st5 st o2 hR q2 c0 c1 c2 c3 c4 c5 c6 c7 c8 h4 HRun
  go_wp2_with (refine bodyPost_ret (v:=.agg #[T a9 BB.2.ms.length c9,I Q BB.2.done,I Q BB.2.addr,I Q (aG BB.2.wrote),I Q (aG BB.2.stay),I Q BB.2.e]) (w:=co v5 w.heap.size (T a9 BB.2.ms.length c9) (I Q BB.2.done) (I Q BB.2.addr) (I Q (aG BB.2.wrote)) (I Q (aG BB.2.stay)) (I Q BB.2.e)) ?hres rfl ?hpost)
  case hpost=>exact hC.out
  case hres=>
   generalize co v5 w.heap.size (T a9 BB.2.ms.length c9) (I Q BB.2.done) (I Q BB.2.addr) (I Q (aG BB.2.wrote)) (I Q (aG BB.2.stay)) (I Q BB.2.e)=v9 at *
   obtain⟨o0,o1,o2,o3,o4,o5⟩:=o1.gS
   simp[results,Tryz.results23,go_sem,o0,o1,o2,o3,o4,o5]
end
def zC (k:Lk):Prop:=∀ (w:World) (Y:YP) (m:Mc) (t:Nat) (L:Int),Ey w Y k m->t<k.n->
 Calls Tryz.prog 25 #[U (Z ⟨Y.y,0,O⟩),I Q t,I Q L] w (eP w Y k (dv k m t (decide (L≠0))))
structure SI (w:World)(Y0:YP)(k:Lk)(xs:List Int)(pc:Int)(Y:YP)(m:Mc)(W:World):Prop where
 ey:Ey W Y k m
 st:bC w k.n Y0 W Y
 q:Bk W w.heap.size 64 #[T O 0 0,I Q 0,I Q 0,I Q 0,I Q 0,I Q 0]
 c:Rb W (w.heap.size+1) xs pc
 tr:Bk W (w.heap.size+1+1) 64 #[T O 0 0,I Q (-1),I Q (-1),I Q 0,I Q 0,I Q 11]
 ir:∀ i,Y.Own k.n i->i<w.heap.size\/w.heap.size+4<=i
section
variable {w W W':World}{Y0 Y:YP}{k:Lk}{m:Mc}{xs:List Int}{pc:Int}
theorem SI.below (h:SI w Y0 k xs pc Y m W)(hb:Below W.heap.size W W'):SI w Y0 k xs pc Y m W':=
 ⟨h.ey.below hb,h.st.grown hb,(hb.block _ h.q.lt).trans h.q,h.c.below hb,(hb.block _ h.tr.lt).trans h.tr,h.ir⟩
theorem SI.off (h:SI w Y0 k xs pc Y m W){b:Nat}(hW:ab W W' (fun i=>i=b))(h1:w.heap.size+1<b)(h2:b≠w.heap.size+1+1)(h3:∀ i,Y.Own k.n i->i≠b):SI w Y0 k xs pc Y m W':=
 ⟨h.ey.kept hW (fun i hi e=>h3 i hi e),h.st.oU hW (fun i e=>by omega),h.q.within hW (by omega),Bk.within h.c hW (by omega),h.tr.within hW (by omega),h.ir⟩
theorem SI.core {ys:List Int}{pc':Int}(h:SI w Y0 k xs pc Y m W)(hW:ab W W' (fun i=>i=w.heap.size+1))(hc:Rb W' (w.heap.size+1) ys pc'):SI w Y0 k ys pc' Y m W':=
 ⟨h.ey.kept hW (fun i hi e=>by have:=h.ir i hi;omega),h.st.oU hW (fun i e=>by omega),h.q.within hW (by omega),hc,h.tr.within hW (by omega),h.ir⟩
theorem SI.Cj (h:SI w Y0 k xs pc Y m W)(h8:xs.length=8){d:Nat}(hd:d<8)(v:Int):SI w Y0 k (xs.set d v) pc Y m (W.setCell ⟨w.heap.size+1,d,O⟩ (I Q v)):=
 h.core ((ab.refl _ (fun i=>i=w.heap.size+1)).put _ _ _ (.inl rfl)) (h.c.set h8 hd v)
theorem SI.place (h:SI w Y0 k xs pc Y m W)(h8:xs.length=8)(v:Int):SI w Y0 k xs v Y m (W.setCell ⟨w.heap.size+1,8,O⟩ (I Q v)):=
 h.core ((ab.refl _ (fun i=>i=w.heap.size+1)).put _ _ _ (.inl rfl)) (h.c.wF h8 v)
theorem SI.jb {b:Nat}{i:aN}(hJ:Jb W b i)(hW:ab W W' (fun i=>i=w.heap.size+1))(hb:w.heap.size+1<b):Jb W' b i:=Bk.within hJ hW (by omega)
theorem cO (W:World)(g o:Nat)(v:Value):ab W (W.setCell ⟨g,o,O⟩ v) (fun i=>i=g):=(ab.refl _ (fun i=>i=g)).put _ _ _ (.inl rfl)
theorem aW (x:World)(n:Nat):Below x.heap.size x (x.drewN n):=⟨rfl,rfl,rfl,G _,fun _ _=>rfl⟩
theorem wrap_u32 {x:Int}(h:0<=x/\x<4294967296):x % 4294967296=x:=by omega
theorem CS {i:aN}(h:BM i)(hm:cX i.op=V):i.op<16:=by
 have ho:=h.op
 unfold cX at hm
 simp at hm
 omega
end
section
variable {w w':World}{Y:YP}{k:Lk}{m:Mc}
theorem DZ (h:Ey w Y k m)(t:Nat)(ht:t<k.n)(late:Int)(hm:iq k (m.cs t).pc=O):
 Calls Tryz.prog 25 #[U (Z ⟨Y.y,0,O⟩),I Q t,I Q late] w (eP w Y k (m,eL)):=by
 have hnn:=h.lk.n64
 have hl64:=h.lk.parts.2.1
 obtain⟨r0,r1,r2,r3,r4,r5,r6,r7,pc,ec⟩:=h.bA ht
 have hx8:bh [r0,r1,r2,r3,r4,r5,r6,r7]:=by have:=h.mc.cs t ht;rw[ec] at this;exact this
 have HX:=J h
 rw[ec] at hm
 have q0:=Bk.made w 64 #[T O 0 0,I Q 0,I Q 0,I Q 0,I Q 0,I Q 0]
 have b0:Below w.heap.size w (w.alloc (K #[T O 0 0,I Q 0,I Q 0,I Q 0,I Q 0,I Q 0] 64)):=(H _ _).alloc (G _) _
 have s0:(w.alloc (K #[T O 0 0,I Q 0,I Q 0,I Q 0,I Q 0,I Q 0] 64)).heap.size=w.heap.size+1:=by simp
 go_enter Tryz.func25,Tryz.ntmps25
 go_upto_region 1 with fail
 generalize w.alloc (K #[T O 0 0,I Q 0,I Q 0,I Q 0,I Q 0,I Q 0] 64)=y at *
 have h2:=h.below b0
 obtain⟨gk,capk,ek,hk1,hk2,hkb,hkf,-⟩:=h2.nN
 unfold maxLen at hk2
 have cx6:=h2.c6
 rw[ek] at cx6
 obtain⟨c0,c1,c2,c3,c4,c5,c6,c7,c8⟩:=h2.core ht ec ek
 go_upto_region 2 with fail
 have q1:=Rb.made y [r0,r1,r2,r3,r4,r5,r6,r7] pc
 have s1:(y.alloc (K #[I Q r0,I Q r1,I Q r2,I Q r3,I Q r4,I Q r5,I Q r6,I Q r7,I Q pc] 111)).heap.size=w.heap.size+1+1:=by rw[World.size_alloc,s0]
 rw[s0] at q1
 simp only[dd,List.map_cons,List.map_nil,List.cons_append,List.nil_append] at q1
 have b1:Below y.heap.size y (y.alloc (K #[I Q r0,I Q r1,I Q r2,I Q r3,I Q r4,I Q r5,I Q r6,I Q r7,I Q pc] 111)):=(H _ _).alloc (G _) _
 replace q0:=(b1.block _ q0.lt).trans q0
 have h3:=h2.below b1
 replace b0:=b0.trans (b1.mono b0.size)
 clear c0 c1 c2 c3 c4 c5 c6 c7 c8 cx6 h2 b1 hkf s0 h hk1 hk2 hkb ek
 generalize y.alloc (K #[I Q r0,I Q r1,I Q r2,I Q r3,I Q r4,I Q r5,I Q r6,I Q r7,I Q pc] 111)=z at *
 go_upto_region 3 with fail
 have b1:Below z.heap.size z (z.alloc (K #[T O 0 0,I Q (-1),I Q (-1),I Q 0,I Q 0,I Q 11] 64)):=(H _ _).alloc (G _) _
 have q2:=Bk.made z 64 #[T O 0 0,I Q (-1),I Q (-1),I Q 0,I Q 0,I Q 11]
 have s2:(z.alloc (K #[T O 0 0,I Q (-1),I Q (-1),I Q 0,I Q 0,I Q 11] 64)).heap.size=w.heap.size+1+1+1:=by rw[World.size_alloc,s1]
 rw[s1] at q2
 have hS:SI w Y k [r0,r1,r2,r3,r4,r5,r6,r7] pc Y m (z.alloc (K #[T O 0 0,I Q (-1),I Q (-1),I Q 0,I Q 0,I Q 11] 64)):=⟨h3.below b1,(bC.az b0).grown b1,(b1.block _ (Bk.lt q0)).trans q0,(b1.block _ (Bk.lt q1)).trans q1,q2,fun i hi=>.inl (HX.out.lt hi)⟩
 clear h3 b0 b1 q0 q1 q2 s1
 have HS2:=J s2
 clear s2
 generalize z.alloc (K #[T O 0 0,I Q (-1),I Q (-1),I Q 0,I Q 0,I Q 11] 64)=x at *
 have HS:=J hS
 have cx0:=hS.ey.c0
 obtain⟨hpv,aV,cV,eV⟩:=hS.ey.pv
 rw[eV] at cx0 hpv
 obtain⟨a2,ca2,e2,_,_,_,hsl⟩:=hpv
 simp only[Value.agg.injEq,Array.mk.injEq,List.cons.injEq,Value.slice.injEq,and_true,true_and] at e2
 obtain⟨rfl,rfl⟩:=e2
 have HV:=J eV
 clear eV
 obtain⟨c0,c1,c2,c3,c4,c5,c6,c7,c8⟩:=hS.c.cells
 rcases ot hm with h1 | h1 | ⟨j,h1,h2,h3,h4⟩
 ·clear hm
  simp only at h1
  clear hsl hS
  go_quiet (fail)
  go_upto_region 4 with fail
  have hS3:=HS.out.below (aW x nq)
  clear c0 c1 c2 c3 c4 c5 c6 c7 c8 cx0
  generalize x.drewN nq=v at *
  obtain⟨t0,t1,t2,t3,t4,t5⟩:=hS3.tr.gS
  have q5:=hS3.q
  have HT:=J hS3
  obtain⟨x0,x1,x2,x3,x4,x5⟩:=q5.gS
  have zf:=Bk.free q5
  have o1:=cm q5 (T O 0 0) (I Q (-1)) (I Q (-1)) (I Q 0) (I Q 0) (I Q 11)
  have o2:=bd (y:=v) (g:=w.heap.size) (T O 0 0) (I Q (-1)) (I Q (-1)) (I Q 0) (I Q 0) (I Q 11)
  have hC:=J (dh (Y:=Y) (r:=(m,eL)) (v:=T O 0 0) (eH.nil _ _ _) HT.out.ey HT.out.st HT.out.q (by decide) o2 (G _) (fun i hi e=>by have:=HT.out.ir i hi;omega))
  clear hS3 o2 HT
  go_wp2_with (refine bodyPost_ret (v:=.agg #[T O 0 0,I Q (-1),I Q (-1),I Q 0,I Q 0,I Q 11]) (w:=co v w.heap.size (T O 0 0) (I Q (-1)) (I Q (-1)) (I Q 0) (I Q 0) (I Q 11)) ?hres rfl ?hpost)
  case hpost=>exact hC.out
  case hres=>
   generalize co v w.heap.size (T O 0 0) (I Q (-1)) (I Q (-1)) (I Q 0) (I Q 0) (I Q 11)=v9 at *
   obtain⟨o0,o1,o2,o3,o4,o5⟩:=o1.gS
   simp[results,Tryz.results25,go_sem,o0,o1,o2,o3,o4,o5]
 ·clear hm
  simp only at h1
  by_cases h0:pc<0
  ·clear h1
   have h1:=h0
   clear hsl hS
   go_quiet (fail)
   go_upto_region 4 with fail
   have hS3:=HS.out.below (aW x nq)
   clear c0 c1 c2 c3 c4 c5 c6 c7 c8 cx0
   generalize x.drewN nq=v at *
   obtain⟨t0,t1,t2,t3,t4,t5⟩:=hS3.tr.gS
   have q5:=hS3.q
   have HT:=J hS3
   obtain⟨x0,x1,x2,x3,x4,x5⟩:=q5.gS
   have zf:=Bk.free q5
   have o1:=cm q5 (T O 0 0) (I Q (-1)) (I Q (-1)) (I Q 0) (I Q 0) (I Q 11)
   have o2:=bd (y:=v) (g:=w.heap.size) (T O 0 0) (I Q (-1)) (I Q (-1)) (I Q 0) (I Q 0) (I Q 11)
   have hC:=J (dh (Y:=Y) (r:=(m,eL)) (v:=T O 0 0) (eH.nil _ _ _) HT.out.ey HT.out.st HT.out.q (by decide) o2 (G _) (fun i hi e=>by have:=HT.out.ir i hi;omega))
   clear hS3 o2 HT
   go_wp2_with (refine bodyPost_ret (v:=.agg #[T O 0 0,I Q (-1),I Q (-1),I Q 0,I Q 0,I Q 11]) (w:=co v w.heap.size (T O 0 0) (I Q (-1)) (I Q (-1)) (I Q 0) (I Q 0) (I Q 11)) ?hres rfl ?hpost)
   case hpost=>exact hC.out
   case hres=>
    generalize co v w.heap.size (T O 0 0) (I Q (-1)) (I Q (-1)) (I Q 0) (I Q 0) (I Q 11)=v9 at *
    obtain⟨o0,o1,o2,o3,o4,o5⟩:=o1.gS
    simp[results,Tryz.results25,go_sem,o0,o1,o2,o3,o4,o5]
  have d0:decide (pc<0)=V:=by simp;omega
  have d1:pc>=(k.l.length:Int):=h1
  clear hsl hS
  go_quiet (fail)
  go_upto_region 4 with fail
  have hS3:=HS.out.below (aW x nq)
  clear c0 c1 c2 c3 c4 c5 c6 c7 c8 cx0
  generalize x.drewN nq=v at *
  obtain⟨t0,t1,t2,t3,t4,t5⟩:=hS3.tr.gS
  have q5:=hS3.q
  have HT:=J hS3
  obtain⟨x0,x1,x2,x3,x4,x5⟩:=q5.gS
  have zf:=Bk.free q5
  have o1:=cm q5 (T O 0 0) (I Q (-1)) (I Q (-1)) (I Q 0) (I Q 0) (I Q 11)
  have o2:=bd (y:=v) (g:=w.heap.size) (T O 0 0) (I Q (-1)) (I Q (-1)) (I Q 0) (I Q 0) (I Q 11)
  have hC:=J (dh (Y:=Y) (r:=(m,eL)) (v:=T O 0 0) (eH.nil _ _ _) HT.out.ey HT.out.st HT.out.q (by decide) o2 (G _) (fun i hi e=>by have:=HT.out.ir i hi;omega))
  clear hS3 o2 HT
  go_wp2_with (refine bodyPost_ret (v:=.agg #[T O 0 0,I Q (-1),I Q (-1),I Q 0,I Q 0,I Q 11]) (w:=co v w.heap.size (T O 0 0) (I Q (-1)) (I Q (-1)) (I Q 0) (I Q 0) (I Q 11)) ?hres rfl ?hpost)
  case hpost=>exact hC.out
  case hres=>
   generalize co v w.heap.size (T O 0 0) (I Q (-1)) (I Q (-1)) (I Q 0) (I Q 0) (I Q 11)=v9 at *
   obtain⟨o0,o1,o2,o3,o4,o5⟩:=o1.gS
   simp[results,Tryz.results25,go_sem,o0,o1,o2,o3,o4,o5]
 ·clear hm
  simp only at h1 h2 h3
  obtain⟨n,rfl⟩:=Int.eq_ofNat_of_zero_le h1
  rw[Int.toNat_natCast] at h3
  obtain⟨g,off,rfl,hgl,f0,f1,f2,f3,f4,f5,f6,f7⟩:=hsl.at_ h3
  have d0:decide ((n:Int)<0)=V:=by simp
  have d1:decide ((n:Int)>=(k.l.length:Int))=V:=by simp;omega
  have d4:decide (k.l.length<=n)=V:=by simp;omega
  have d2:j.op<16:=CS (HX.out.lk.ok j (List.mem_of_getElem? h3)) h4
  have d3:(n:Int)<k.l.length:=h2
  clear hsl hS f1 f2 f3 f4 f5 f6 f7 h3 h4 h1
  go_quiet (fail)
  go_upto_region 4 with fail
  have hS3:=HS.out.below (aW x nq)
  clear c0 c1 c2 c3 c4 c5 c6 c7 c8 cx0
  generalize x.drewN nq=v at *
  obtain⟨t0,t1,t2,t3,t4,t5⟩:=hS3.tr.gS
  have q5:=hS3.q
  have HT:=J hS3
  obtain⟨x0,x1,x2,x3,x4,x5⟩:=q5.gS
  have zf:=Bk.free q5
  have o1:=cm q5 (T O 0 0) (I Q (-1)) (I Q (-1)) (I Q 0) (I Q 0) (I Q 11)
  have o2:=bd (y:=v) (g:=w.heap.size) (T O 0 0) (I Q (-1)) (I Q (-1)) (I Q 0) (I Q 0) (I Q 11)
  have hC:=J (dh (Y:=Y) (r:=(m,eL)) (v:=T O 0 0) (eH.nil _ _ _) HT.out.ey HT.out.st HT.out.q (by decide) o2 (G _) (fun i hi e=>by have:=HT.out.ir i hi;omega))
  clear hS3 o2 HT
  go_wp2_with (refine bodyPost_ret (v:=.agg #[T O 0 0,I Q (-1),I Q (-1),I Q 0,I Q 0,I Q 11]) (w:=co v w.heap.size (T O 0 0) (I Q (-1)) (I Q (-1)) (I Q 0) (I Q 0) (I Q 11)) ?hres rfl ?hpost)
  case hpost=>exact hC.out
  case hres=>
   generalize co v w.heap.size (T O 0 0) (I Q (-1)) (I Q (-1)) (I Q 0) (I Q 0) (I Q 11)=v9 at *
   obtain⟨o0,o1,o2,o3,o4,o5⟩:=o1.gS
   simp[results,Tryz.results25,go_sem,o0,o1,o2,o3,o4,o5]
end
structure BS (k:Lk)(init r7:List Int)(tg:aN->Bool):Prop where
 al:k.l.all tg=true
 st:zC k
 e0:k.each=0
 wf:∀ i∈k.l,i.Wf
 ok:mE k
 iu:fC init
 il:init.length=jn k.zs
 rl:r7.length=k.n
 ru:fC r7
theorem BS.sv {k:Lk}{init r7:List Int}{tg:aN->Bool}(h:BS k init r7 tg):FR ⟨k.l,k.lo,k.un⟩ k.zs init r7 k.each k.n where
 rz:=h.ok.zs
 few:=h.ok.few
 len:=h.il
 n1:=by have:=h.ok.n1;omega
 n64:=by have:=h.ok.n64;omega
 e0:=by have:=h.e0;omega
 e8:=by have:=h.e0;omega
 rl:=by rw[h.rl]
 code:=h.ok.code
section
variable {w w' W W':World}{Y Y0 Y':YP}{k:Lk}{m m':Mc}{xs:List Int}{pc:Int}
theorem SI.dV (h:SI w Y0 k xs pc Y m W)(hz:w.heap.size+4<=W.heap.size)(e:Ey W' Y' k m')(s:bC W k.n Y W' Y'):SI w Y0 k xs pc Y' m' W':=
 ⟨e,h.st.bp s,h.q.within s.1 (fun e=>by have:=h.ir _ e;omega),Bk.within h.c s.1 (fun e=>by have:=h.ir _ e;omega),h.tr.within s.1 (fun e=>by have:=h.ir _ e;omega),fun i hi=>by
  rcases s.2.1 i hi with q | q
  ·exact h.ir i q
  ·exact .inr (by omega)⟩
theorem kf {zs:List Int}{area x:Int}{A:Nat}(h:fc zs area x=Z A):A<jn zs:=by
 unfold fc at h
 split at h
 ·rename_i hc
  injection h with h
  obtain⟨B,rfl⟩:=Int.eq_ofNat_of_zero_le hc.1
  have:=tH (zs:=zs) (a:=B) (p:=(x % 4096).toNat) (by omega) (by have:=hc.2.2;rw[Int.toNat_natCast] at this;omega)
  rw[Int.toNat_natCast] at h
  omega
 ·cases h
def So (W:World)(b A:Nat)(WR ST D:Int):Prop:=Bk W b 64 #[T O 0 0,I Q D,I Q A,I Q WR,I Q ST,I Q 0]
theorem So.cells {b A:Nat}{WR ST D:Int}(h:So W b A WR ST D):W.cell? ⟨b,0,O⟩=Z (T O 0 0)/\W.cell? ⟨b,1,O⟩=Z (I Q D)/\W.cell? ⟨b,2,O⟩=Z (I Q A)/\W.cell? ⟨b,3,O⟩=Z (I Q WR)/\W.cell? ⟨b,4,O⟩=Z (I Q ST)/\W.cell? ⟨b,5,O⟩=Z (I Q 0):=
 ⟨Bk.cell h 0,Bk.cell h 1,Bk.cell h 2,Bk.cell h 3,Bk.cell h 4,Bk.cell h 5⟩
end
section
variable {k:Lk}{m:Mc}{t:Nat}{c:kX}{late:Bool}{i:aN}{a:Nat}
theorem yQ (h:i.op=16):nQ k m t c late i a=ib k m t ⟨c.xs.set i.d.toNat (aF m.ws a),c.pc+1⟩ ⟨[],0,a,V,V,0⟩:=by
 unfold nQ;simp[h]
theorem wo (h:i.op=17):nQ k m t c late i a=ib k { m with ws:=m.ws.set a (aF c.xs i.t.toNat) } t ⟨c.xs,c.pc+1⟩ ⟨[],0,a,true,V,0⟩:=by
 unfold nQ;simp[h]
theorem yP (h:i.op=18):nQ k m t c late i a=ib k { m with ws:=m.ws.set a (aF c.xs i.t.toNat) } t ⟨c.xs.set i.d.toNat (aF m.ws a),c.pc+1⟩ ⟨[],0,a,true,V,0⟩:=by
 unfold nQ;simp[h]
theorem oO (h:i.op=21):nQ k m t c late i a=if (decide (aF m.ws a=aF c.xs i.t.toNat) != decide (i.k=1))=true then ib k m t ⟨c.xs.set i.d.toNat (aF m.ws a),c.pc+1⟩ ⟨[],0,a,V,V,0⟩
 else if late=V\/i.pl<0 then ({ m with cs:=fA m.cs t ⟨c.xs.set i.d.toNat (aF m.ws a),c.pc⟩ },⟨[],-1,a,V,true,0⟩)
 else ib k m t ⟨c.xs.set i.d.toNat (aF m.ws a),i.pl⟩ ⟨[],0,a,V,V,0⟩:=by
 unfold nQ;simp[h]
end
theorem xn {W:World}{cap0:Nat}{a0:Option Addr}{xs:List Int}(h:dO .u32 W a0 xs)(hm:xs.length<=100000):
 ∃ v' W',(Builtin.append_ #[26,26] 26 #[T O 0 0,T a0 xs.length cap0]).run Tryz.prog W=.ok v' W'/\eH .u32 70 W' v' xs/\Below W.heap.size W W'/\∀ g,v'.ownBlock=Z g->W.heap.size<=g:=by
 obtain⟨i0,hi0,hz0,hz1,hz2⟩:=info_parts tV
 by_cases h0:xs=[]
 ·subst h0
  refine⟨T O 0 0,W,?_,eH.nil _ _ _,H _ _,fun g e=>by cases e⟩
  have hu:Tryz.prog.underlying 26=Z (.slice 70):=Tryz.underlying26
  have hl:∀ (x:Addr),(loadCells x 0).run Tryz.prog W=.ok #[] W:=fun x=>by simpa using run_loadCells_list (P:=Tryz.prog) W x [] (by simp)
  cases a0 <;> simp[Builtin.append_,run_underlying hu,sizeOf,typeInfo,hi0,Builtin.lenOf,Builtin.firstCells,hl]
 ·obtain⟨b',off,rfl,hlt,hc⟩:=h (List.length_pos_iff.2 h0)
  obtain⟨v',W',hr,ho,hg,_⟩:=run_append_own (P:=Tryz.prog) W W.heap.size 26 26 70 i0 _ 1 4 Tryz.underlying26 hi0 hz0 hz1 hz2 rfl (by omega) (T O 0 0) 0 [] (World.ownsRow_nil _ _ _ _) ⟨b',off,O⟩ xs.length cap0 (xs.map (Value.int .u32)) (by simp) (oF hc) (by intro u hu;simp at hu;obtain⟨x,_,rfl⟩:=hu;rfl) (by unfold maxLen;omega) (by omega) (G _)
  rw[Nat.zero_add,List.nil_append] at ho
  exact⟨v',W',hr,World.ownsRow.mono (base':=0) ho (Nat.zero_le _),aO hg,fun g e=>(World.ownsRow.lt ho g e).1⟩
structure rN (w:World)(base:Nat)(k:Lk)(Y:YP)(ws:List Int)(cs:Nat->kX)(j:Nat)(W:World):Prop where
 ptr:Bk W Y.y 90 #[Y.cv,I Q k.lo,I Q k.un,Y.cl,Y.wl,U (Z ⟨Y.x,0,O⟩),Y.kl,I Q Y.ac]
 code:W.ownsRow 0 123 8 Y.cv k.l.length (bE k.l)
 cells:Cs 0 W Y.cl (nP k.zs)
 words:eH .u32 70 W Y.wl ws
 dV:Rf W Y.x k.n k.each Y.R (oR k.n k.each).free (oR k.n k.each).gen (oR k.n k.each).out
 cores:W.ownsRow w.heap.size 111 9 Y.kl j (fz cs j)
 gr:Below w.heap.size w W
 newy:w.heap.size<=Y.y
 new:∀ i,Y.Own k.n i->base<=i/\(Y.cv.ownBlock=Z i\/w.heap.size<=i)
section
variable {w W W':World}{base:Nat}{k:Lk}{Y:YP}{ws:List Int}{cs:Nat->kX}{j:Nat}
theorem rN.kept (h:rN w base k Y ws cs j W){S:Nat->Prop}(hw:ab W W' S)(hn:∀ i,S i->w.heap.size<=i)(h1:¬ S Y.y)(h2:∀ g,Y.cv.ownBlock=Z g->¬ S g)(h3:∀ g,Y.cl.ownBlock=Z g->¬ S g)(h4:∀ g,Y.wl.ownBlock=Z g->¬ S g)(h5:¬ S Y.x)(h6:∀ g,Y.kl.ownBlock=Z g->¬ S g)(h7:∀ i,Y.R.Has k.n i->¬ S i):rN w base k Y ws cs j W':=
 ⟨h.ptr.within hw h1,aq h.code hw h2,h.cells.within hw h3,h.words.within hw h4,h.dV.kept hw h5 h7,aq h.cores hw h6,
  ⟨hw.os.trans h.gr.os,hw.tape.trans h.gr.tape,hw.output.trans h.gr.output,Nat.le_trans h.gr.size hw.size,fun i hi=>(hw.block i (Nat.lt_of_lt_of_le hi h.gr.size) (fun e=>by have:=hn i e;omega)).trans (h.gr.block i hi)⟩,h.newy,h.new⟩
theorem rN.below (h:rN w base k Y ws cs j W)(hb:Below W.heap.size W W'):rN w base k Y ws cs j W':=
 h.kept (ay hb) (by simp) (by simp) (by simp) (by simp) (by simp) (by simp) (by simp) (by simp)
theorem rN.Cr (h:rN w base k Y [] cs j W){v:Value}(hl:eH .u32 70 W v ws)(hn:∀ g,v.ownBlock=Z g->base<=g/\w.heap.size<=g):rN w base k { Y with wl:=v } ws cs j (W.setCell ⟨Y.y,4,O⟩ v):=by
 have hW:=cO W Y.y 4 v
 have ir:∀ {g:Nat} {t:TypeId} {c:Array Value},Bk W g t c->t≠90->g≠Y.y:=fun hb ht e=>Bk.aj hb h.ptr ht e
 refine⟨h.ptr.put 4 v,aq h.code hW (fun g e=>?_),h.cells.within hW (fun g e=>?_),hl.within hW (fun g e=>?_),h.dV.kept hW (ir h.dV.ptr (by decide)) (fun i hi e=>Rf.dz h.dV h.ptr (by decide) (by decide) (e ▸ hi)),aq h.cores hW (fun g e=>?_),
  h.gr.setCell (p:=⟨Y.y,4,O⟩) h.newy v,h.newy,fun i hi=>?_⟩
 ·obtain⟨c,hc⟩:=bf h.code e;exact ir hc (by decide)
 ·obtain⟨c,hc⟩:=bf h.cells e;exact ir hc (by decide)
 ·obtain⟨c,hc⟩:=hl.bk e;exact ir hc (by decide)
 ·obtain⟨c,hc⟩:=bf h.cores e;exact ir hc (by decide)
 ·rcases hi with e | e | e | e | e | e | e
  ·exact h.new i (.inl e)
  ·exact h.new i (.inr (.inl e))
  ·exact h.new i (.inr (.inr (.inl e)))
  ·exact⟨(hn i e).1,.inr (hn i e).2⟩
  ·exact h.new i (.inr (.inr (.inr (.inr (.inl e)))))
  ·exact h.new i (.inr (.inr (.inr (.inr (.inr (.inl e))))))
  ·exact h.new i (.inr (.inr (.inr (.inr (.inr (.inr e))))))
theorem rN.grow (h:rN w base k Y ws cs j W)(hg:W.grownBy W' Y.kl.ownBlock)(hn:∀ g,Y.kl.ownBlock=Z g->w.heap.size<=g):
 Bk W' Y.y 90 #[Y.cv,I Q k.lo,I Q k.un,Y.cl,Y.wl,U (Z ⟨Y.x,0,O⟩),Y.kl,I Q Y.ac]/\∀ v,W'.ownsRow w.heap.size 111 9 v (j+1) (fz cs (j+1))->base<=w.heap.size->rN w base k { Y with kl:=v } ws cs (j+1) (W'.setCell ⟨Y.y,6,O⟩ v):=by
 have hw:ab W W' (fun i=>Y.kl.ownBlock=Z i):=.az hg (fun i e=>.inl e)
 have ir:∀ {g:Nat} {t:TypeId} {c:Array Value},Bk W g t c->t≠111->¬ Y.kl.ownBlock=Z g:=fun hb ht e=>by
  obtain⟨c,hc⟩:=bf h.cores e
  exact Bk.aj hb hc ht rfl
 have hp:=h.ptr.within hw (ir h.ptr (by decide))
 refine⟨hp,fun v hv hbase=>?_⟩
 have hW:=cO W' Y.y 6 v
 have far2:∀ {g:Nat} {t:TypeId} {c:Array Value},Bk W' g t c->t≠90->g≠Y.y:=fun hb ht e=>Bk.aj hb hp ht e
 have k1:W'.ownsRow 0 123 8 Y.cv k.l.length (bE k.l):=aq h.code hw (fun g e=>by obtain⟨c,hc⟩:=bf h.code e;exact ir hc (by decide))
 have k2:Cs 0 W' Y.cl (nP k.zs):=h.cells.within hw (fun g e=>by obtain⟨c,hc⟩:=bf h.cells e;exact ir hc (by decide))
 have k3:eH .u32 70 W' Y.wl ws:=h.words.within hw (fun g e=>by obtain⟨c,hc⟩:=h.words.bk e;exact ir hc (by decide))
 have k4:=h.dV.kept hw (ir h.dV.ptr (by decide)) (fun i hi=>by
  obtain⟨t,c,hb,ht⟩:=h.dV.bk hi
  exact ir hb (by rcases ht with rfl|rfl <;> decide))
 refine⟨hp.put 6 v,aq k1 hW (fun g e=>?_),k2.within hW (fun g e=>?_),k3.within hW (fun g e=>?_),k4.kept hW (far2 k4.ptr (by decide)) (fun i hi e=>Rf.dz k4 hp (by decide) (by decide) (e ▸ hi)),aq hv hW (fun g e=>?_),?_,h.newy,fun i hi=>?_⟩
 ·obtain⟨c,hc⟩:=bf k1 e;exact far2 hc (by decide)
 ·obtain⟨c,hc⟩:=bf k2 e;exact far2 hc (by decide)
 ·obtain⟨c,hc⟩:=k3.bk e;exact far2 hc (by decide)
 ·obtain⟨c,hc⟩:=bf hv e;exact far2 hc (by decide)
 ·have hb:Below w.heap.size w W':=⟨hw.os.trans h.gr.os,hw.tape.trans h.gr.tape,hw.output.trans h.gr.output,Nat.le_trans h.gr.size hw.size,fun i hi=>(hw.block i (Nat.lt_of_lt_of_le hi h.gr.size) (fun e=>by have:=hn i e;omega)).trans (h.gr.block i hi)⟩
  exact hb.setCell (p:=⟨Y.y,6,O⟩) h.newy v
 ·rcases hi with e | e | e | e | e | e | e
  ·exact h.new i (.inl e)
  ·exact h.new i (.inr (.inl e))
  ·exact h.new i (.inr (.inr (.inl e)))
  ·exact h.new i (.inr (.inr (.inr (.inl e))))
  ·exact h.new i (.inr (.inr (.inr (.inr (.inl e)))))
  ·exact⟨Nat.le_trans hbase (World.ownsRow.lt hv i e).1,.inr (World.ownsRow.lt hv i e).1⟩
  ·exact h.new i (.inr (.inr (.inr (.inr (.inr (.inr e))))))
theorem rN.ey {init r7:List Int}(h:rN w base k Y init (oS k init r7).cs k.n W)(hk:mE k)(hi:init.length=jn k.zs)(hiu:fC init)(hru:fC r7):Ey W Y k (oS k init r7):=by
 refine⟨h.ptr,h.code,h.cells,h.words,h.dV,⟨_,_,_,qF k.n k.each hk.n64 hk.each⟩,m9 h.cores,hk,⟨hiu,hi,fun t ht=>⟨rfl,?_⟩⟩⟩
 intro x hx
 simp only[oS,List.mem_cons,List.not_mem_nil,or_false] at hx
 have:=hru.at_ t
 omega
end
section
variable {w w' W W':World}{Y Y0 Y':YP}{k:Lk}{m m':Mc}{xs:List Int}{pc:Int}
theorem Co (h:Ey w Y k m)(t:Nat)(ht:t<k.n)(late:Bool)(L:Int){i:aN}(hm:iq k (m.cs t).pc=Z i)(hi:i.op=16){A:Nat}(hf:fc k.zs i.a (aF (m.cs t).xs i.s.toNat)=Z A):
 Calls Tryz.prog 25 #[U (Z ⟨Y.y,0,O⟩),I Q t,I Q L] w (eP w Y k (dv k m t late)):=by
 have HB0:=fO (late:=late) hm (by rw[hi];decide) (by rw[hi];decide)
 rw[hf] at HB0
 simp only at HB0
 have HF0:=J hf
 clear hf
 obtain⟨BB,hBB⟩:∃ B,B=dv k m t late:=⟨_,rfl⟩
 rw[<-hBB] at HB0 ⊢
 have HB:=J HB0
 clear HB0 hBB
 have hnn:=h.lk.n64
 have hl64:=h.lk.parts.2.1
 obtain⟨r0,r1,r2,r3,r4,r5,r6,r7,pc,ec⟩:=h.bA ht
 have hx8:bh [r0,r1,r2,r3,r4,r5,r6,r7]:=by have:=h.mc.cs t ht;rw[ec] at this;exact this
 have HX:=J h
 rw[ec] at hm
 have q0:=Bk.made w 64 #[T O 0 0,I Q 0,I Q 0,I Q 0,I Q 0,I Q 0]
 have b0:Below w.heap.size w (w.alloc (K #[T O 0 0,I Q 0,I Q 0,I Q 0,I Q 0,I Q 0] 64)):=(H _ _).alloc (G _) _
 have s0:(w.alloc (K #[T O 0 0,I Q 0,I Q 0,I Q 0,I Q 0,I Q 0] 64)).heap.size=w.heap.size+1:=by simp
 go_enter Tryz.func25,Tryz.ntmps25
 go_upto_region 1 with fail
 generalize w.alloc (K #[T O 0 0,I Q 0,I Q 0,I Q 0,I Q 0,I Q 0] 64)=y at *
 have h2:=h.below b0
 obtain⟨gk,capk,ek,hk1,hk2,hkb,hkf,-⟩:=h2.nN
 unfold maxLen at hk2
 have cx6:=h2.c6
 rw[ek] at cx6
 obtain⟨c0,c1,c2,c3,c4,c5,c6,c7,c8⟩:=h2.core ht ec ek
 go_upto_region 2 with fail
 have q1:=Rb.made y [r0,r1,r2,r3,r4,r5,r6,r7] pc
 have s1:(y.alloc (K #[I Q r0,I Q r1,I Q r2,I Q r3,I Q r4,I Q r5,I Q r6,I Q r7,I Q pc] 111)).heap.size=w.heap.size+1+1:=by rw[World.size_alloc,s0]
 rw[s0] at q1
 simp only[dd,List.map_cons,List.map_nil,List.cons_append,List.nil_append] at q1
 have b1:Below y.heap.size y (y.alloc (K #[I Q r0,I Q r1,I Q r2,I Q r3,I Q r4,I Q r5,I Q r6,I Q r7,I Q pc] 111)):=(H _ _).alloc (G _) _
 replace q0:=(b1.block _ q0.lt).trans q0
 have h3:=h2.below b1
 replace b0:=b0.trans (b1.mono b0.size)
 clear c0 c1 c2 c3 c4 c5 c6 c7 c8 cx6 h2 b1 hkf s0 h hk1 hk2 hkb ek
 generalize y.alloc (K #[I Q r0,I Q r1,I Q r2,I Q r3,I Q r4,I Q r5,I Q r6,I Q r7,I Q pc] 111)=z at *
 go_upto_region 3 with fail
 have b1:Below z.heap.size z (z.alloc (K #[T O 0 0,I Q (-1),I Q (-1),I Q 0,I Q 0,I Q 11] 64)):=(H _ _).alloc (G _) _
 have q2:=Bk.made z 64 #[T O 0 0,I Q (-1),I Q (-1),I Q 0,I Q 0,I Q 11]
 have s2:(z.alloc (K #[T O 0 0,I Q (-1),I Q (-1),I Q 0,I Q 0,I Q 11] 64)).heap.size=w.heap.size+1+1+1:=by rw[World.size_alloc,s1]
 rw[s1] at q2
 have hS:SI w Y k [r0,r1,r2,r3,r4,r5,r6,r7] pc Y m (z.alloc (K #[T O 0 0,I Q (-1),I Q (-1),I Q 0,I Q 0,I Q 11] 64)):=⟨h3.below b1,(bC.az b0).grown b1,(b1.block _ (Bk.lt q0)).trans q0,(b1.block _ (Bk.lt q1)).trans q1,q2,fun i hi=>.inl (HX.out.lt hi)⟩
 clear h3 b0 b1 q0 q1 q2 s1
 have HS2:=J s2
 clear s2
 generalize z.alloc (K #[T O 0 0,I Q (-1),I Q (-1),I Q 0,I Q 0,I Q 11] 64)=x at *
 have HS:=J hS
 have cx0:=hS.ey.c0
 obtain⟨hpv,aV,cV,eV⟩:=hS.ey.pv
 rw[eV] at cx0 hpv
 obtain⟨a2,ca2,e2,_,_,_,hsl⟩:=hpv
 simp only[Value.agg.injEq,Array.mk.injEq,List.cons.injEq,Value.slice.injEq,and_true,true_and] at e2
 obtain⟨rfl,rfl⟩:=e2
 have HV:=J eV
 clear eV
 obtain⟨c0,c1,c2,c3,c4,c5,c6,c7,c8⟩:=hS.c.cells
 obtain⟨hp0,hp1,hj,hmj⟩:=fg hm
 have hOM:=HX.out.lk.DS hm
 simp only at hp0 hp1 hj hOM
 obtain⟨n,rfl⟩:=Int.eq_ofNat_of_zero_le hp0
 rw[Int.toNat_natCast] at hj
 obtain⟨op,di,si,ti,ui,ai,k2,pl⟩:=i
 obtain⟨hop,hd,hs,ht2,hu,ha,hk,haw⟩:=hOM
 simp only at hop hd hs ht2 hu ha hk haw hmj hi ⊢
 obtain⟨d,rfl⟩:=Int.eq_ofNat_of_zero_le hd.1
 obtain⟨s,rfl⟩:=Int.eq_ofNat_of_zero_le hs.1
 obtain⟨t2,rfl⟩:=Int.eq_ofNat_of_zero_le ht2.1
 obtain⟨u,rfl⟩:=Int.eq_ofNat_of_zero_le hu.1
 obtain⟨a,rfl⟩:=Int.eq_ofNat_of_zero_le ha.1
 have hd8:d<8:=by omega
 have hs8:s<8:=by omega
 have ht8:t2<8:=by omega
 have hu8:u<8:=by omega
 subst hi
 obtain⟨g,off,rfl,hgl,f0,f1,f2,f3,f4,f5,f6,f7⟩:=hsl.at_ hj
 simp only at f0 f1 f2 f3 f4 f5 f6 f7
 have d0:decide ((n:Int)<0)=V:=by simp
 have d1:decide ((n:Int)>=(k.l.length:Int))=V:=by simp;omega
 have d4:decide (k.l.length<=n)=V:=by simp;omega
 have d2:decide (16<(16:Int))=V:=by first | decide | (simp;omega)
 have d3:(n:Int)<k.l.length:=hp1
 have HAW:=J (And.intro hk haw)
 clear hsl hS hj hm hmj hp0 hp1 hd hs ht2 hu ha haw hk
 go_quiet (fail)
 have hS3:=HS.out.below (aW x nq)
 have hsz:(x.drewN nq).heap.size=w.heap.size+1+1+1:=HS2.out
 replace cx0:(x.drewN nq).cell? ⟨Y.y,0,O⟩=_:=cx0
 replace f0:(x.drewN nq).cell? ⟨g,off+n*8,O⟩=_:=f0
 replace f1:(x.drewN nq).cell? ⟨g,off+n*8+1,O⟩=_:=f1
 replace f2:(x.drewN nq).cell? ⟨g,off+n*8+2,O⟩=_:=f2
 replace f3:(x.drewN nq).cell? ⟨g,off+n*8+3,O⟩=_:=f3
 replace f4:(x.drewN nq).cell? ⟨g,off+n*8+4,O⟩=_:=f4
 replace f5:(x.drewN nq).cell? ⟨g,off+n*8+5,O⟩=_:=f5
 replace f6:(x.drewN nq).cell? ⟨g,off+n*8+6,O⟩=_:=f6
 replace f7:(x.drewN nq).cell? ⟨g,off+n*8+7,O⟩=_:=f7
 have hgl':g<(x.drewN nq).heap.size:=hgl
 clear c0 c1 c2 c3 c4 c5 c6 c7 c8 HS HS2 hgl
 go_upto_region 5 with fail
 generalize x.drewN nq=x2 at *
 obtain⟨c0,c1,c2,c3,c4,c5,c6,c7,c8⟩:=hS3.c.cells
 have hA:Below x2.heap.size x2 (x2.alloc (K #[I Q 0,I Q 0,I Q 0,I Q 0,I Q 0,I Q 0,I N 0,I Q 0] 123)):=(H _ _).alloc (G _) _
 have cx0':(x2.alloc (K #[I Q 0,I Q 0,I Q 0,I Q 0,I Q 0,I Q 0,I N 0,I Q 0] 123)).cell? ⟨Y.y,0,O⟩=Z (T (Z ⟨g,off,O⟩) k.l.length cV):=(hA.cell (p:=⟨Y.y,0,O⟩) hS3.ey.ptr.lt).trans cx0
 have c8':(x2.alloc (K #[I Q 0,I Q 0,I Q 0,I Q 0,I Q 0,I Q 0,I N 0,I Q 0] 123)).cell? ⟨w.heap.size+1,8,O⟩=Z (I Q n):=(hA.cell (p:=⟨w.heap.size+1,8,O⟩) (Bk.lt hS3.c)).trans c8
 have f0':(x2.alloc (K #[I Q 0,I Q 0,I Q 0,I Q 0,I Q 0,I Q 0,I N 0,I Q 0] 123)).cell? ⟨g,off+n*8,O⟩=Z (I Q 16):=(hA.cell (p:=⟨g,off+n*8,O⟩) hgl').trans f0
 have f1':(x2.alloc (K #[I Q 0,I Q 0,I Q 0,I Q 0,I Q 0,I Q 0,I N 0,I Q 0] 123)).cell? ⟨g,off+n*8+1,O⟩=Z (I Q (d:Nat)):=(hA.cell (p:=⟨g,off+n*8+1,O⟩) hgl').trans f1
 have f2':(x2.alloc (K #[I Q 0,I Q 0,I Q 0,I Q 0,I Q 0,I Q 0,I N 0,I Q 0] 123)).cell? ⟨g,off+n*8+2,O⟩=Z (I Q (s:Nat)):=(hA.cell (p:=⟨g,off+n*8+2,O⟩) hgl').trans f2
 have f3':(x2.alloc (K #[I Q 0,I Q 0,I Q 0,I Q 0,I Q 0,I Q 0,I N 0,I Q 0] 123)).cell? ⟨g,off+n*8+3,O⟩=Z (I Q (t2:Nat)):=(hA.cell (p:=⟨g,off+n*8+3,O⟩) hgl').trans f3
 have f4':(x2.alloc (K #[I Q 0,I Q 0,I Q 0,I Q 0,I Q 0,I Q 0,I N 0,I Q 0] 123)).cell? ⟨g,off+n*8+4,O⟩=Z (I Q (u:Nat)):=(hA.cell (p:=⟨g,off+n*8+4,O⟩) hgl').trans f4
 have f5':(x2.alloc (K #[I Q 0,I Q 0,I Q 0,I Q 0,I Q 0,I Q 0,I N 0,I Q 0] 123)).cell? ⟨g,off+n*8+5,O⟩=Z (I Q (a:Nat)):=(hA.cell (p:=⟨g,off+n*8+5,O⟩) hgl').trans f5
 have f6':(x2.alloc (K #[I Q 0,I Q 0,I Q 0,I Q 0,I Q 0,I Q 0,I N 0,I Q 0] 123)).cell? ⟨g,off+n*8+6,O⟩=Z (I N k2):=(hA.cell (p:=⟨g,off+n*8+6,O⟩) hgl').trans f6
 have f7':(x2.alloc (K #[I Q 0,I Q 0,I Q 0,I Q 0,I Q 0,I Q 0,I N 0,I Q 0] 123)).cell? ⟨g,off+n*8+7,O⟩=Z (I Q pl):=(hA.cell (p:=⟨g,off+n*8+7,O⟩) hgl').trans f7
 go_region
 have hJ:=Jb.made x2 16 d s t2 u a k2 pl
 rw[hsz] at hJ
 have hb5:Below x2.heap.size x2 (x2.alloc (K #[I Q 16,I Q (d:Nat),I Q (s:Nat),I Q (t2:Nat),I Q (u:Nat),I Q (a:Nat),I N k2,I Q pl] 123)).drew:=((H _ _).alloc (G _) _).drew
 have hS4:=hS3.below hb5
 replace hJ:Jb (x2.alloc (K #[I Q 16,I Q (d:Nat),I Q (s:Nat),I Q (t2:Nat),I Q (u:Nat),I Q (a:Nat),I N k2,I Q pl] 123)).drew _ _:=hJ
 have hsz4:w.heap.size+4<=(x2.alloc (K #[I Q 16,I Q (d:Nat),I Q (s:Nat),I Q (t2:Nat),I Q (u:Nat),I Q (a:Nat),I N k2,I Q pl] 123)).drew.heap.size:=by
  have e:(x2.alloc (K #[I Q 16,I Q (d:Nat),I Q (s:Nat),I Q (t2:Nat),I Q (u:Nat),I Q (a:Nat),I N k2,I Q pl] 123)).drew.heap.size=x2.heap.size+1:=by simp
  omega
 clear cx0 cx0' c8' c0 c1 c2 c3 c4 c5 c6 c7 c8 hA hgl' hsz hb5 hS3 f0 f1 f2 f3 f4 f5 f6 f7 f0' f1' f2' f3' f4' f5' f6' f7'
 generalize (x2.alloc (K #[I Q 16,I Q (d:Nat),I Q (s:Nat),I Q (t2:Nat),I Q (u:Nat),I Q (a:Nat),I N k2,I Q pl] 123)).drew=x3 at *
 obtain⟨VS,hVS⟩:∃ v,v=aF [r0,r1,r2,r3,r4,r5,r6,r7] s:=⟨_,rfl⟩
 obtain⟨VT,hVT⟩:∃ v,v=aF [r0,r1,r2,r3,r4,r5,r6,r7] t2:=⟨_,rfl⟩
 obtain⟨VU,hVU⟩:∃ v,v=aF [r0,r1,r2,r3,r4,r5,r6,r7] u:=⟨_,rfl⟩
 have cs:=hS4.c.at_ hx8.1 hs8
 have ct:=hS4.c.at_ hx8.1 ht8
 have cu:=hS4.c.at_ hx8.1 hu8
 have rs:=hx8.2.at_ s
 have rt:=hx8.2.at_ t2
 have ru:=hx8.2.at_ u
 rw[<-hVS] at cs rs
 rw[<-hVT] at ct rt
 rw[<-hVU] at cu ru
 have HV3:=J (And.intro hVS (And.intro hVT hVU))
 clear hVS hVT hVU
 have ws:=wrap_u32 rs
 have wt:=wrap_u32 rt
 have wu:=wrap_u32 ru
 have is8:(s:Int)<8:=by omega
 have it8:(t2:Int)<8:=by omega
 have iu8:(u:Int)<8:=by omega
 have id8:(d:Int)<8:=by omega
 obtain⟨e0,e1,e2,e3,e4,e5,e6,e7⟩:=hJ.cells
 simp only at e0 e1 e2 e3 e4 e5 e6 e7
 go_upto_region 6 with fail
 go_quiet (fail)
 have hS5:=hS4.below (aW x3 nq)
 replace hJ:=hJ.below (aW x3 nq)
 replace hsz4:w.heap.size+4<=(x3.drewN nq).heap.size:=hsz4
 clear hS4 cs ct cu e0 e1 e2 e3 e4 e5 e6 e7
 generalize x3.drewN nq=x4 at *
 obtain⟨e0,e1,e2,e3,e4,e5,e6,e7⟩:=hJ.cells
 simp only at e0 e1 e2 e3 e4 e5 e6 e7
 have cx3:=hS5.ey.c3
 have hf2:=HF0.out
 rw[ec] at hf2
 simp only[Int.toNat_natCast] at hf2
 rw[<-HV3.out.1] at hf2
 go_upto_region 17 with fail
 have g3:=fun g:fZ x4=>g.cell cx3
 have g5:=fun g:fZ x4=>g.cell e5
 have HFi:Hid (∀ g:fZ x4,Calls Tryz.prog 54 #[Y.cl,I Q (a:Nat),I N VS] g.x fun e y=>e=.returned (I Q (A:Nat))/\Below g.x.heap.size g.x y):=J fun g=>by
  have h1:=pO (hS5.ey.below g.ok) a VS rs.1 rs.2
  rw[hf2] at h1
  exact h1.mono fun e y ⟨q1,q2⟩=>⟨q1,aO q2⟩
 clear cx3 e0 e1 e2 e3 e4 e5 e6 e7
 refine ar (by kernel_rfl) (by kernel_rfl) ?_
 repeat (go_big_quiet_step ((go_at_call 54;with_reducible exact ag (HFi.out _))))
 refine wpQuiet_nil ?_
 rintro x5 ⟨⟨_,hy5⟩,rfl⟩
 replace hJ:=hJ.below hy5
 have hS6:=hS5.below hy5
 have hsz5:=Nat.le_trans hsz4 hy5.size
 clear hS5 hy5 HFi g3 g5 hsz4
 have hAl:A<m.ws.length:=by rw[HX.out.mc.len];exact kf hf2
 have rw0:=HX.out.mc.ws.at_ A
 have c7:=hS6.ey.c7
 have zf:=hS6.ey.ptr.free
 go_upto_region 21 with fail
 obtain⟨hE7,st7⟩:=hS6.ey.more (wrap64 (Y.ac+1))
 have hS7:=hS6.dV hsz5 hE7 st7
 replace hJ:Jb (x5.setCell ⟨Y.y,7,O⟩ (I Q (wrap64 (Y.ac+1)))) _ _:=Bk.within hJ st7.1 (fun e=>by have:=hS6.ir _ e;omega)
 have hsz7:w.heap.size+4<=(x5.setCell ⟨Y.y,7,O⟩ (I Q (wrap64 (Y.ac+1)))).heap.size:=Nat.le_trans hsz5 st7.1.size
 clear hS6 c7 zf hE7 st7 hsz5
 generalize (x5.setCell ⟨Y.y,7,O⟩ (I Q (wrap64 (Y.ac+1))))=x6 at *
 obtain⟨aw,capw,ew0,hw1,hw2,hw3⟩:=hS7.ey.rD
 obtain⟨gw,ewa,hwb,hwf,hwc⟩:=hw3 (Nat.lt_of_le_of_lt (Nat.zero_le _) hAl)
 subst ewa
 have ew:Y.wl=T (Z ⟨gw,0,O⟩) m.ws.length capw:=ew0
 have hgw:gw<w.heap.size:=HX.out.lt (.inr (.inr (.inr (.inl hwb))))
 have cx4:x6.cell? ⟨Y.y,2+2,O⟩=Z (T (Z ⟨gw,0,O⟩) m.ws.length capw):=by rw[<-ew];exact hS7.ey.c4
 simp only[Nat.reduceAdd] at cx4
 have cwA:=hwc A hAl
 obtain⟨WA,hWA⟩:∃ v,v=aF m.ws A:=⟨_,rfl⟩
 rw[<-hWA] at cwA rw0
 have HWA:=J hWA
 clear hWA hwc hwf hw3 ew0 hw1
 unfold maxLen at hw2
 have iA:(A:Int)<m.ws.length:=by omega
 go_upto_region 23 with fail
 have hO:So (x6.alloc (K #[T O 0 0,I Q 0,I Q (A:Nat),I Q 0,I Q 0,I Q 0] 64)) x6.heap.size A 0 0 0:=Bk.made _ _ _
 have hb7:Below x6.heap.size x6 (x6.alloc (K #[T O 0 0,I Q 0,I Q (A:Nat),I Q 0,I Q 0,I Q 0] 64)):=(H _ _).alloc (G _) _
 replace hJ:=hJ.below hb7
 have hS8:=hS7.below hb7
 have hsz8:w.heap.size+4<=(x6.alloc (K #[T O 0 0,I Q 0,I Q (A:Nat),I Q 0,I Q 0,I Q 0] 64)).heap.size:=Nat.le_trans hsz7 hb7.size
 clear hS7 hb7 cx4 cwA
 generalize (x6.alloc (K #[T O 0 0,I Q 0,I Q (A:Nat),I Q 0,I Q 0,I Q 0] 64))=x7 at *
 generalize x6.heap.size=b at *
 have hOwn:Hid (∀ i,Y.Own k.n i->i<w.heap.size):=J fun i hi=>HX.out.lt hi
 obtain⟨c0,c1,c2,c3,c4,c5,c6,c7,c8⟩:=Rb.cells hS8.c
 obtain⟨e0,e1,e2,e3,e4,e5,e6,e7⟩:=hJ.cells
 simp only at e0 e1 e2 e3 e4 e5 e6 e7
 go_upto_region 26 with fail
 have cd:=hS8.c.at_ hx8.1 hd8
 have zf:=Bk.free hS8.c
 have hSr:=hS8.Cj hx8.1 hd8 WA
 have hXr:bh ([r0,r1,r2,r3,r4,r5,r6,r7].set d WA):=hx8.put d rw0
 obtain⟨u0,u1,u2,u3,u4,u5,u6,u7,hu8'⟩:=aC hXr.1
 have hOr:So (x7.setCell ⟨w.heap.size+1,d,O⟩ (I Q WA)) b A 0 0 0:=Bk.off hO (p:=⟨w.heap.size+1,d,O⟩) (by show b≠w.heap.size+1;omega) _
 have hJr:Jb (x7.setCell ⟨w.heap.size+1,d,O⟩ (I Q WA)) (w.heap.size+1+1+1) _:=Bk.off hJ (p:=⟨w.heap.size+1,d,O⟩) (by show w.heap.size+1+1+1≠w.heap.size+1;omega) _
 have hsz8r:w.heap.size+4<=(x7.setCell ⟨w.heap.size+1,d,O⟩ (I Q WA)).heap.size:=Nat.le_trans hsz8 (cO x7 (w.heap.size+1) d (I Q WA)).size
 go_upto_region 51 with fail
 rw[hu8'] at hSr hXr
 have HU8:=J hu8'
 clear hu8'
 clear cd zf c0 c1 c2 c3 c4 c5 c6 c7 c8 e0 e1 e2 e3 e4 e5 e6 e7 hS8 hO hJ hsz8
 generalize x7.setCell ⟨w.heap.size+1,d,O⟩ (I Q WA)=xr at *
 have hJ:=hJr
 have hO:=hOr
 have hsz8:=hsz8r
 clear hJr hOr hsz8r
 obtain⟨c0,c1,c2,c3,c4,c5,c6,c7,c8⟩:=Rb.cells hSr.c
 obtain⟨e0,e1,e2,e3,e4,e5,e6,e7⟩:=hJ.cells
 simp only at e0 e1 e2 e3 e4 e5 e6 e7
 have zf:=Bk.free hSr.c
 have hSp:=hSr.place rfl ((n:Int)+1)
 have hOp:So (xr.setCell ⟨w.heap.size+1,8,O⟩ (I Q ((n:Int)+1))) b A 0 0 0:=Bk.off hO (p:=⟨w.heap.size+1,8,O⟩) (by show b≠w.heap.size+1;omega) _
 go_upto_region 52 with fail
 generalize xr.setCell ⟨w.heap.size+1,8,O⟩ (I Q ((n:Int)+1))=v at *
 clear c0 c1 c2 c3 c4 c5 c6 c7 c8 zf hSr e0 e1 e2 e3 e4 e5 e6 e7 hJ hO
 obtain⟨c0,c1,c2,c3,c4,c5,c6,c7,c8⟩:=Rb.cells hSp.c
 obtain⟨q0,q1,q2,q3,q4,q5⟩:=hOp.cells
 have hR:Calls Tryz.prog 48 #[U (Z ⟨Y.y,0,O⟩),I Q t,.agg #[I Q u0,I Q u1,I Q u2,I Q u3,I Q u4,I Q u5,I Q u6,I Q u7,I Q ((n:Int)+1)],.agg #[T O 0 0,I Q 0,I Q (A:Nat),I Q 0,I Q 0,I Q 0]] v (eP v { Y with ac:=wrap64 (Y.ac+1) } k BB):=by
  have h9:=zQ hSp.ey t ht ⟨[u0,u1,u2,u3,u4,u5,u6,u7],((n:Int)+1)⟩ hXr ⟨[],0,A,V,V,0⟩ _ rfl
  have hb:=HB.out
  rw[yQ rfl,ec] at hb
  simp only[Int.toNat_natCast] at hb
  rw[<-HWA.out,HU8.out] at hb
  rw[hb]
  exact h9
 have st:=hSp.st
 have q02:=hSp.q
 have hf0:∀ i,({ Y with ac:=wrap64 (Y.ac+1) }:YP).Own k.n i->i≠w.heap.size:=fun i hi e=>by have:=hSp.ir i hi;omega
 have hlt:w.heap.size<v.heap.size:=hSp.q.lt
 clear hOp
 go_wp2_with fail
 refine hR.mono ?_
 rintro e v5 ⟨mv,Y',rfl,hl5,h5,hs5⟩
 obtain⟨a9,c9,e9,-⟩:=hl5.is
 subst e9
 have q5:=Bk.within q02 hs5.1 (fun e=>hf0 _ e rfl)
 have st5:=st.bp hs5
 have hfar:∀ i,Y'.Own k.n i->i≠w.heap.size:=fun i hi e=>by
  rcases hs5.2.1 i hi with e2 | e2
  ·exact hf0 i e2 e
  ·omega
 unfold BJ
 obtain⟨x0,x1,x2,x3,x4,x5⟩:=q5.gS
 have zf:=Bk.free q5
 have o1:=cm q5 (T a9 BB.2.ms.length c9) (I Q BB.2.done) (I Q BB.2.addr) (I Q (aG BB.2.wrote)) (I Q (aG BB.2.stay)) (I Q BB.2.e)
 have o2:=bd (y:=v5) (g:=w.heap.size) (T a9 BB.2.ms.length c9) (I Q BB.2.done) (I Q BB.2.addr) (I Q (aG BB.2.wrote)) (I Q (aG BB.2.stay)) (I Q BB.2.e)
 have hC:=J (dh (Y:=Y) (r:=BB) hl5 h5 st5 q5 (by decide) o2 (G _) hfar)
 clear q02 hl5 h5 hs5 st5 st o2 hR hSp c0 c1 c2 c3 c4 c5 c6 c7 c8 q0 q1 q2 q3 q4 q5
 go_wp2_with (refine bodyPost_ret (v:=.agg #[T a9 BB.2.ms.length c9,I Q BB.2.done,I Q BB.2.addr,I Q (aG BB.2.wrote),I Q (aG BB.2.stay),I Q BB.2.e]) (w:=co v5 w.heap.size (T a9 BB.2.ms.length c9) (I Q BB.2.done) (I Q BB.2.addr) (I Q (aG BB.2.wrote)) (I Q (aG BB.2.stay)) (I Q BB.2.e)) ?hres rfl ?hpost)
 case hpost=>exact hC.out
 case hres=>
  generalize co v5 w.heap.size (T a9 BB.2.ms.length c9) (I Q BB.2.done) (I Q BB.2.addr) (I Q (aG BB.2.wrote)) (I Q (aG BB.2.stay)) (I Q BB.2.e)=v9 at *
  obtain⟨o0,o1,o2,o3,o4,o5⟩:=o1.gS
  simp[results,Tryz.results25,go_sem,o0,o1,o2,o3,o4,o5]
end
section
variable {w w' W W':World}{Y Y0 Y':YP}{k:Lk}{m m':Mc}{xs:List Int}{pc:Int}
theorem Cn (h:Ey w Y k m)(t:Nat)(ht:t<k.n)(late:Bool)(L:Int){i:aN}(hm:iq k (m.cs t).pc=Z i)(hi:i.op=18){A:Nat}(hf:fc k.zs i.a (aF (m.cs t).xs i.s.toNat)=Z A):
 Calls Tryz.prog 25 #[U (Z ⟨Y.y,0,O⟩),I Q t,I Q L] w (eP w Y k (dv k m t late)):=by
 have HB0:=fO (late:=late) hm (by rw[hi];decide) (by rw[hi];decide)
 rw[hf] at HB0
 simp only at HB0
 have HF0:=J hf
 clear hf
 obtain⟨BB,hBB⟩:∃ B,B=dv k m t late:=⟨_,rfl⟩
 rw[<-hBB] at HB0 ⊢
 have HB:=J HB0
 clear HB0 hBB
 have hnn:=h.lk.n64
 have hl64:=h.lk.parts.2.1
 obtain⟨r0,r1,r2,r3,r4,r5,r6,r7,pc,ec⟩:=h.bA ht
 have hx8:bh [r0,r1,r2,r3,r4,r5,r6,r7]:=by have:=h.mc.cs t ht;rw[ec] at this;exact this
 have HX:=J h
 rw[ec] at hm
 have q0:=Bk.made w 64 #[T O 0 0,I Q 0,I Q 0,I Q 0,I Q 0,I Q 0]
 have b0:Below w.heap.size w (w.alloc (K #[T O 0 0,I Q 0,I Q 0,I Q 0,I Q 0,I Q 0] 64)):=(H _ _).alloc (G _) _
 have s0:(w.alloc (K #[T O 0 0,I Q 0,I Q 0,I Q 0,I Q 0,I Q 0] 64)).heap.size=w.heap.size+1:=by simp
 go_enter Tryz.func25,Tryz.ntmps25
 go_upto_region 1 with fail
 generalize w.alloc (K #[T O 0 0,I Q 0,I Q 0,I Q 0,I Q 0,I Q 0] 64)=y at *
 have h2:=h.below b0
 obtain⟨gk,capk,ek,hk1,hk2,hkb,hkf,-⟩:=h2.nN
 unfold maxLen at hk2
 have cx6:=h2.c6
 rw[ek] at cx6
 obtain⟨c0,c1,c2,c3,c4,c5,c6,c7,c8⟩:=h2.core ht ec ek
 go_upto_region 2 with fail
 have q1:=Rb.made y [r0,r1,r2,r3,r4,r5,r6,r7] pc
 have s1:(y.alloc (K #[I Q r0,I Q r1,I Q r2,I Q r3,I Q r4,I Q r5,I Q r6,I Q r7,I Q pc] 111)).heap.size=w.heap.size+1+1:=by rw[World.size_alloc,s0]
 rw[s0] at q1
 simp only[dd,List.map_cons,List.map_nil,List.cons_append,List.nil_append] at q1
 have b1:Below y.heap.size y (y.alloc (K #[I Q r0,I Q r1,I Q r2,I Q r3,I Q r4,I Q r5,I Q r6,I Q r7,I Q pc] 111)):=(H _ _).alloc (G _) _
 replace q0:=(b1.block _ q0.lt).trans q0
 have h3:=h2.below b1
 replace b0:=b0.trans (b1.mono b0.size)
 clear c0 c1 c2 c3 c4 c5 c6 c7 c8 cx6 h2 b1 hkf s0 h hk1 hk2 hkb ek
 generalize y.alloc (K #[I Q r0,I Q r1,I Q r2,I Q r3,I Q r4,I Q r5,I Q r6,I Q r7,I Q pc] 111)=z at *
 go_upto_region 3 with fail
 have b1:Below z.heap.size z (z.alloc (K #[T O 0 0,I Q (-1),I Q (-1),I Q 0,I Q 0,I Q 11] 64)):=(H _ _).alloc (G _) _
 have q2:=Bk.made z 64 #[T O 0 0,I Q (-1),I Q (-1),I Q 0,I Q 0,I Q 11]
 have s2:(z.alloc (K #[T O 0 0,I Q (-1),I Q (-1),I Q 0,I Q 0,I Q 11] 64)).heap.size=w.heap.size+1+1+1:=by rw[World.size_alloc,s1]
 rw[s1] at q2
 have hS:SI w Y k [r0,r1,r2,r3,r4,r5,r6,r7] pc Y m (z.alloc (K #[T O 0 0,I Q (-1),I Q (-1),I Q 0,I Q 0,I Q 11] 64)):=⟨h3.below b1,(bC.az b0).grown b1,(b1.block _ (Bk.lt q0)).trans q0,(b1.block _ (Bk.lt q1)).trans q1,q2,fun i hi=>.inl (HX.out.lt hi)⟩
 clear h3 b0 b1 q0 q1 q2 s1
 have HS2:=J s2
 clear s2
 generalize z.alloc (K #[T O 0 0,I Q (-1),I Q (-1),I Q 0,I Q 0,I Q 11] 64)=x at *
 have HS:=J hS
 have cx0:=hS.ey.c0
 obtain⟨hpv,aV,cV,eV⟩:=hS.ey.pv
 rw[eV] at cx0 hpv
 obtain⟨a2,ca2,e2,_,_,_,hsl⟩:=hpv
 simp only[Value.agg.injEq,Array.mk.injEq,List.cons.injEq,Value.slice.injEq,and_true,true_and] at e2
 obtain⟨rfl,rfl⟩:=e2
 have HV:=J eV
 clear eV
 obtain⟨c0,c1,c2,c3,c4,c5,c6,c7,c8⟩:=hS.c.cells
 obtain⟨hp0,hp1,hj,hmj⟩:=fg hm
 have hOM:=HX.out.lk.DS hm
 simp only at hp0 hp1 hj hOM
 obtain⟨n,rfl⟩:=Int.eq_ofNat_of_zero_le hp0
 rw[Int.toNat_natCast] at hj
 obtain⟨op,di,si,ti,ui,ai,k2,pl⟩:=i
 obtain⟨hop,hd,hs,ht2,hu,ha,hk,haw⟩:=hOM
 simp only at hop hd hs ht2 hu ha hk haw hmj hi ⊢
 obtain⟨d,rfl⟩:=Int.eq_ofNat_of_zero_le hd.1
 obtain⟨s,rfl⟩:=Int.eq_ofNat_of_zero_le hs.1
 obtain⟨t2,rfl⟩:=Int.eq_ofNat_of_zero_le ht2.1
 obtain⟨u,rfl⟩:=Int.eq_ofNat_of_zero_le hu.1
 obtain⟨a,rfl⟩:=Int.eq_ofNat_of_zero_le ha.1
 have hd8:d<8:=by omega
 have hs8:s<8:=by omega
 have ht8:t2<8:=by omega
 have hu8:u<8:=by omega
 subst hi
 obtain⟨g,off,rfl,hgl,f0,f1,f2,f3,f4,f5,f6,f7⟩:=hsl.at_ hj
 simp only at f0 f1 f2 f3 f4 f5 f6 f7
 have d0:decide ((n:Int)<0)=V:=by simp
 have d1:decide ((n:Int)>=(k.l.length:Int))=V:=by simp;omega
 have d4:decide (k.l.length<=n)=V:=by simp;omega
 have d2:decide (18<(16:Int))=V:=by first | decide | (simp;omega)
 have d3:(n:Int)<k.l.length:=hp1
 have HAW:=J (And.intro hk haw)
 clear hsl hS hj hm hmj hp0 hp1 hd hs ht2 hu ha haw hk
 go_quiet (fail)
 have hS3:=HS.out.below (aW x nq)
 have hsz:(x.drewN nq).heap.size=w.heap.size+1+1+1:=HS2.out
 replace cx0:(x.drewN nq).cell? ⟨Y.y,0,O⟩=_:=cx0
 replace f0:(x.drewN nq).cell? ⟨g,off+n*8,O⟩=_:=f0
 replace f1:(x.drewN nq).cell? ⟨g,off+n*8+1,O⟩=_:=f1
 replace f2:(x.drewN nq).cell? ⟨g,off+n*8+2,O⟩=_:=f2
 replace f3:(x.drewN nq).cell? ⟨g,off+n*8+3,O⟩=_:=f3
 replace f4:(x.drewN nq).cell? ⟨g,off+n*8+4,O⟩=_:=f4
 replace f5:(x.drewN nq).cell? ⟨g,off+n*8+5,O⟩=_:=f5
 replace f6:(x.drewN nq).cell? ⟨g,off+n*8+6,O⟩=_:=f6
 replace f7:(x.drewN nq).cell? ⟨g,off+n*8+7,O⟩=_:=f7
 have hgl':g<(x.drewN nq).heap.size:=hgl
 clear c0 c1 c2 c3 c4 c5 c6 c7 c8 HS HS2 hgl
 go_upto_region 5 with fail
 generalize x.drewN nq=x2 at *
 obtain⟨c0,c1,c2,c3,c4,c5,c6,c7,c8⟩:=hS3.c.cells
 have hA:Below x2.heap.size x2 (x2.alloc (K #[I Q 0,I Q 0,I Q 0,I Q 0,I Q 0,I Q 0,I N 0,I Q 0] 123)):=(H _ _).alloc (G _) _
 have cx0':(x2.alloc (K #[I Q 0,I Q 0,I Q 0,I Q 0,I Q 0,I Q 0,I N 0,I Q 0] 123)).cell? ⟨Y.y,0,O⟩=Z (T (Z ⟨g,off,O⟩) k.l.length cV):=(hA.cell (p:=⟨Y.y,0,O⟩) hS3.ey.ptr.lt).trans cx0
 have c8':(x2.alloc (K #[I Q 0,I Q 0,I Q 0,I Q 0,I Q 0,I Q 0,I N 0,I Q 0] 123)).cell? ⟨w.heap.size+1,8,O⟩=Z (I Q n):=(hA.cell (p:=⟨w.heap.size+1,8,O⟩) (Bk.lt hS3.c)).trans c8
 have f0':(x2.alloc (K #[I Q 0,I Q 0,I Q 0,I Q 0,I Q 0,I Q 0,I N 0,I Q 0] 123)).cell? ⟨g,off+n*8,O⟩=Z (I Q 18):=(hA.cell (p:=⟨g,off+n*8,O⟩) hgl').trans f0
 have f1':(x2.alloc (K #[I Q 0,I Q 0,I Q 0,I Q 0,I Q 0,I Q 0,I N 0,I Q 0] 123)).cell? ⟨g,off+n*8+1,O⟩=Z (I Q (d:Nat)):=(hA.cell (p:=⟨g,off+n*8+1,O⟩) hgl').trans f1
 have f2':(x2.alloc (K #[I Q 0,I Q 0,I Q 0,I Q 0,I Q 0,I Q 0,I N 0,I Q 0] 123)).cell? ⟨g,off+n*8+2,O⟩=Z (I Q (s:Nat)):=(hA.cell (p:=⟨g,off+n*8+2,O⟩) hgl').trans f2
 have f3':(x2.alloc (K #[I Q 0,I Q 0,I Q 0,I Q 0,I Q 0,I Q 0,I N 0,I Q 0] 123)).cell? ⟨g,off+n*8+3,O⟩=Z (I Q (t2:Nat)):=(hA.cell (p:=⟨g,off+n*8+3,O⟩) hgl').trans f3
 have f4':(x2.alloc (K #[I Q 0,I Q 0,I Q 0,I Q 0,I Q 0,I Q 0,I N 0,I Q 0] 123)).cell? ⟨g,off+n*8+4,O⟩=Z (I Q (u:Nat)):=(hA.cell (p:=⟨g,off+n*8+4,O⟩) hgl').trans f4
 have f5':(x2.alloc (K #[I Q 0,I Q 0,I Q 0,I Q 0,I Q 0,I Q 0,I N 0,I Q 0] 123)).cell? ⟨g,off+n*8+5,O⟩=Z (I Q (a:Nat)):=(hA.cell (p:=⟨g,off+n*8+5,O⟩) hgl').trans f5
 have f6':(x2.alloc (K #[I Q 0,I Q 0,I Q 0,I Q 0,I Q 0,I Q 0,I N 0,I Q 0] 123)).cell? ⟨g,off+n*8+6,O⟩=Z (I N k2):=(hA.cell (p:=⟨g,off+n*8+6,O⟩) hgl').trans f6
 have f7':(x2.alloc (K #[I Q 0,I Q 0,I Q 0,I Q 0,I Q 0,I Q 0,I N 0,I Q 0] 123)).cell? ⟨g,off+n*8+7,O⟩=Z (I Q pl):=(hA.cell (p:=⟨g,off+n*8+7,O⟩) hgl').trans f7
 go_region
 have hJ:=Jb.made x2 18 d s t2 u a k2 pl
 rw[hsz] at hJ
 have hb5:Below x2.heap.size x2 (x2.alloc (K #[I Q 18,I Q (d:Nat),I Q (s:Nat),I Q (t2:Nat),I Q (u:Nat),I Q (a:Nat),I N k2,I Q pl] 123)).drew:=((H _ _).alloc (G _) _).drew
 have hS4:=hS3.below hb5
 replace hJ:Jb (x2.alloc (K #[I Q 18,I Q (d:Nat),I Q (s:Nat),I Q (t2:Nat),I Q (u:Nat),I Q (a:Nat),I N k2,I Q pl] 123)).drew _ _:=hJ
 have hsz4:w.heap.size+4<=(x2.alloc (K #[I Q 18,I Q (d:Nat),I Q (s:Nat),I Q (t2:Nat),I Q (u:Nat),I Q (a:Nat),I N k2,I Q pl] 123)).drew.heap.size:=by
  have e:(x2.alloc (K #[I Q 18,I Q (d:Nat),I Q (s:Nat),I Q (t2:Nat),I Q (u:Nat),I Q (a:Nat),I N k2,I Q pl] 123)).drew.heap.size=x2.heap.size+1:=by simp
  omega
 clear cx0 cx0' c8' c0 c1 c2 c3 c4 c5 c6 c7 c8 hA hgl' hsz hb5 hS3 f0 f1 f2 f3 f4 f5 f6 f7 f0' f1' f2' f3' f4' f5' f6' f7'
 generalize (x2.alloc (K #[I Q 18,I Q (d:Nat),I Q (s:Nat),I Q (t2:Nat),I Q (u:Nat),I Q (a:Nat),I N k2,I Q pl] 123)).drew=x3 at *
 obtain⟨VS,hVS⟩:∃ v,v=aF [r0,r1,r2,r3,r4,r5,r6,r7] s:=⟨_,rfl⟩
 obtain⟨VT,hVT⟩:∃ v,v=aF [r0,r1,r2,r3,r4,r5,r6,r7] t2:=⟨_,rfl⟩
 obtain⟨VU,hVU⟩:∃ v,v=aF [r0,r1,r2,r3,r4,r5,r6,r7] u:=⟨_,rfl⟩
 have cs:=hS4.c.at_ hx8.1 hs8
 have ct:=hS4.c.at_ hx8.1 ht8
 have cu:=hS4.c.at_ hx8.1 hu8
 have rs:=hx8.2.at_ s
 have rt:=hx8.2.at_ t2
 have ru:=hx8.2.at_ u
 rw[<-hVS] at cs rs
 rw[<-hVT] at ct rt
 rw[<-hVU] at cu ru
 have HV3:=J (And.intro hVS (And.intro hVT hVU))
 clear hVS hVT hVU
 have ws:=wrap_u32 rs
 have wt:=wrap_u32 rt
 have wu:=wrap_u32 ru
 have is8:(s:Int)<8:=by omega
 have it8:(t2:Int)<8:=by omega
 have iu8:(u:Int)<8:=by omega
 have id8:(d:Int)<8:=by omega
 obtain⟨e0,e1,e2,e3,e4,e5,e6,e7⟩:=hJ.cells
 simp only at e0 e1 e2 e3 e4 e5 e6 e7
 go_upto_region 6 with fail
 go_quiet (fail)
 have hS5:=hS4.below (aW x3 nq)
 replace hJ:=hJ.below (aW x3 nq)
 replace hsz4:w.heap.size+4<=(x3.drewN nq).heap.size:=hsz4
 clear hS4 cs ct cu e0 e1 e2 e3 e4 e5 e6 e7
 generalize x3.drewN nq=x4 at *
 obtain⟨e0,e1,e2,e3,e4,e5,e6,e7⟩:=hJ.cells
 simp only at e0 e1 e2 e3 e4 e5 e6 e7
 have cx3:=hS5.ey.c3
 have hf2:=HF0.out
 rw[ec] at hf2
 simp only[Int.toNat_natCast] at hf2
 rw[<-HV3.out.1] at hf2
 go_upto_region 17 with fail
 have g3:=fun g:fZ x4=>g.cell cx3
 have g5:=fun g:fZ x4=>g.cell e5
 have HFi:Hid (∀ g:fZ x4,Calls Tryz.prog 54 #[Y.cl,I Q (a:Nat),I N VS] g.x fun e y=>e=.returned (I Q (A:Nat))/\Below g.x.heap.size g.x y):=J fun g=>by
  have h1:=pO (hS5.ey.below g.ok) a VS rs.1 rs.2
  rw[hf2] at h1
  exact h1.mono fun e y ⟨q1,q2⟩=>⟨q1,aO q2⟩
 clear cx3 e0 e1 e2 e3 e4 e5 e6 e7
 refine ar (by kernel_rfl) (by kernel_rfl) ?_
 repeat (go_big_quiet_step ((go_at_call 54;with_reducible exact ag (HFi.out _))))
 refine wpQuiet_nil ?_
 rintro x5 ⟨⟨_,hy5⟩,rfl⟩
 replace hJ:=hJ.below hy5
 have hS6:=hS5.below hy5
 have hsz5:=Nat.le_trans hsz4 hy5.size
 clear hS5 hy5 HFi g3 g5 hsz4
 have hAl:A<m.ws.length:=by rw[HX.out.mc.len];exact kf hf2
 have rw0:=HX.out.mc.ws.at_ A
 have c7:=hS6.ey.c7
 have zf:=hS6.ey.ptr.free
 go_upto_region 21 with fail
 obtain⟨hE7,st7⟩:=hS6.ey.more (wrap64 (Y.ac+1))
 have hS7:=hS6.dV hsz5 hE7 st7
 replace hJ:Jb (x5.setCell ⟨Y.y,7,O⟩ (I Q (wrap64 (Y.ac+1)))) _ _:=Bk.within hJ st7.1 (fun e=>by have:=hS6.ir _ e;omega)
 have hsz7:w.heap.size+4<=(x5.setCell ⟨Y.y,7,O⟩ (I Q (wrap64 (Y.ac+1)))).heap.size:=Nat.le_trans hsz5 st7.1.size
 clear hS6 c7 zf hE7 st7 hsz5
 generalize (x5.setCell ⟨Y.y,7,O⟩ (I Q (wrap64 (Y.ac+1))))=x6 at *
 obtain⟨aw,capw,ew0,hw1,hw2,hw3⟩:=hS7.ey.rD
 obtain⟨gw,ewa,hwb,hwf,hwc⟩:=hw3 (Nat.lt_of_le_of_lt (Nat.zero_le _) hAl)
 subst ewa
 have ew:Y.wl=T (Z ⟨gw,0,O⟩) m.ws.length capw:=ew0
 have hgw:gw<w.heap.size:=HX.out.lt (.inr (.inr (.inr (.inl hwb))))
 have cx4:x6.cell? ⟨Y.y,2+2,O⟩=Z (T (Z ⟨gw,0,O⟩) m.ws.length capw):=by rw[<-ew];exact hS7.ey.c4
 simp only[Nat.reduceAdd] at cx4
 have cwA:=hwc A hAl
 obtain⟨WA,hWA⟩:∃ v,v=aF m.ws A:=⟨_,rfl⟩
 rw[<-hWA] at cwA rw0
 have HWA:=J hWA
 clear hWA hwc hwf hw3 ew0 hw1
 unfold maxLen at hw2
 have iA:(A:Int)<m.ws.length:=by omega
 go_upto_region 23 with fail
 have hO:So (x6.alloc (K #[T O 0 0,I Q 0,I Q (A:Nat),I Q 0,I Q 0,I Q 0] 64)) x6.heap.size A 0 0 0:=Bk.made _ _ _
 have hb7:Below x6.heap.size x6 (x6.alloc (K #[T O 0 0,I Q 0,I Q (A:Nat),I Q 0,I Q 0,I Q 0] 64)):=(H _ _).alloc (G _) _
 replace hJ:=hJ.below hb7
 have hS8:=hS7.below hb7
 have hsz8:w.heap.size+4<=(x6.alloc (K #[T O 0 0,I Q 0,I Q (A:Nat),I Q 0,I Q 0,I Q 0] 64)).heap.size:=Nat.le_trans hsz7 hb7.size
 clear hS7 hb7 cx4 cwA
 generalize (x6.alloc (K #[T O 0 0,I Q 0,I Q (A:Nat),I Q 0,I Q 0,I Q 0] 64))=x7 at *
 generalize x6.heap.size=b at *
 have hOwn:Hid (∀ i,Y.Own k.n i->i<w.heap.size):=J fun i hi=>HX.out.lt hi
 obtain⟨c0,c1,c2,c3,c4,c5,c6,c7,c8⟩:=Rb.cells hS8.c
 obtain⟨e0,e1,e2,e3,e4,e5,e6,e7⟩:=hJ.cells
 simp only at e0 e1 e2 e3 e4 e5 e6 e7
 go_upto_region 30 with fail
 have cx4:x7.cell? ⟨Y.y,2+2,O⟩=Z (T (Z ⟨gw,0,O⟩) m.ws.length capw):=by rw[<-ew];exact hS8.ey.c4
 simp only[Nat.reduceAdd] at cx4
 obtain⟨aw2,capw2,ew2,-,-,hw32⟩:=hS8.ey.rD
 obtain⟨gw2,ewa2,hwb2,hwf2,hwc2⟩:=hw32 (Nat.lt_of_le_of_lt (Nat.zero_le _) hAl)
 have egw:gw2=gw:=by rw[hwb] at hwb2;injection hwb2 with e;exact e.symm
 subst egw
 have cwA:=hwc2 A hAl
 rw[<-HWA.out] at cwA
 have zf2:=Bk.free hO
 obtain⟨q0,q1,q2,q3,q4,q5⟩:=hO.cells
 obtain⟨hE9,st9⟩:=hS8.ey.word ew A (v:=VT) rt
 have hS9:=hS8.dV hsz8 hE9 st9
 have hO9:So (x7.setCell ⟨gw2,A,O⟩ (I N VT)) b A 0 0 0:=Bk.off hO (p:=⟨gw2,A,O⟩) (by show b≠gw2;omega) _
 have hJ9:Jb (x7.setCell ⟨gw2,A,O⟩ (I N VT)) (w.heap.size+1+1+1) _:=Bk.off hJ (p:=⟨gw2,A,O⟩) (by show w.heap.size+1+1+1≠gw2;omega) _
 have hO10:So ((x7.setCell ⟨gw2,A,O⟩ (I N VT)).setCell ⟨b,3,O⟩ (I Q 1)) b A 1 0 0:=Bk.put hO9 3 (I Q 1)
 have hW10:=cO (x7.setCell ⟨gw2,A,O⟩ (I N VT)) b 3 (I Q 1)
 have hSw:=hS9.off hW10 (by omega) (by omega) (fun i hi e=>by have:=hOwn.out i hi;omega)
 have hJ10:Jb ((x7.setCell ⟨gw2,A,O⟩ (I N VT)).setCell ⟨b,3,O⟩ (I Q 1)) (w.heap.size+1+1+1) _:=Bk.off hJ9 (p:=⟨b,3,O⟩) (by show w.heap.size+1+1+1≠b;omega) _
 have hsz10:w.heap.size+4<=((x7.setCell ⟨gw2,A,O⟩ (I N VT)).setCell ⟨b,3,O⟩ (I Q 1)).heap.size:=Nat.le_trans hsz8 (Nat.le_trans st9.1.size hW10.size)
 clear hS9 hO9 hJ9 hE9 st9 hW10
 go_upto_region 31 with fail
 clear cx4 cwA zf2 q0 q1 q2 q3 q4 q5 c0 c1 c2 c3 c4 c5 c6 c7 c8 e0 e1 e2 e3 e4 e5 e6 e7 hS8 hO hJ hsz8 hwf2 hwc2 hw32 ew2
 generalize ((x7.setCell ⟨gw2,A,O⟩ (I N VT)).setCell ⟨b,3,O⟩ (I Q 1))=xw at *
 have hJ:=hJ10
 have hO:=hO10
 have hsz8:=hsz10
 clear hJ10 hO10 hsz10
 obtain⟨c0,c1,c2,c3,c4,c5,c6,c7,c8⟩:=Rb.cells hSw.c
 obtain⟨e0,e1,e2,e3,e4,e5,e6,e7⟩:=hJ.cells
 simp only at e0 e1 e2 e3 e4 e5 e6 e7
 have cd:=hSw.c.at_ hx8.1 hd8
 have zf:=Bk.free hSw.c
 have hSr:=hSw.Cj hx8.1 hd8 WA
 have hXr:bh ([r0,r1,r2,r3,r4,r5,r6,r7].set d WA):=hx8.put d rw0
 obtain⟨u0,u1,u2,u3,u4,u5,u6,u7,hu8'⟩:=aC hXr.1
 have hOr:So (xw.setCell ⟨w.heap.size+1,d,O⟩ (I Q WA)) b A 1 0 0:=Bk.off hO (p:=⟨w.heap.size+1,d,O⟩) (by show b≠w.heap.size+1;omega) _
 have hJr:Jb (xw.setCell ⟨w.heap.size+1,d,O⟩ (I Q WA)) (w.heap.size+1+1+1) _:=Bk.off hJ (p:=⟨w.heap.size+1,d,O⟩) (by show w.heap.size+1+1+1≠w.heap.size+1;omega) _
 have hsz8r:w.heap.size+4<=(xw.setCell ⟨w.heap.size+1,d,O⟩ (I Q WA)).heap.size:=Nat.le_trans hsz8 (cO xw (w.heap.size+1) d (I Q WA)).size
 go_upto_region 51 with fail
 rw[hu8'] at hSr hXr
 have HU8:=J hu8'
 clear hu8'
 clear cd zf c0 c1 c2 c3 c4 c5 c6 c7 c8 e0 e1 e2 e3 e4 e5 e6 e7 hSw hO hJ hsz8
 generalize xw.setCell ⟨w.heap.size+1,d,O⟩ (I Q WA)=xr at *
 have hJ:=hJr
 have hO:=hOr
 have hsz8:=hsz8r
 clear hJr hOr hsz8r
 obtain⟨c0,c1,c2,c3,c4,c5,c6,c7,c8⟩:=Rb.cells hSr.c
 obtain⟨e0,e1,e2,e3,e4,e5,e6,e7⟩:=hJ.cells
 simp only at e0 e1 e2 e3 e4 e5 e6 e7
 have zf:=Bk.free hSr.c
 have hSp:=hSr.place rfl ((n:Int)+1)
 have hOp:So (xr.setCell ⟨w.heap.size+1,8,O⟩ (I Q ((n:Int)+1))) b A 1 0 0:=Bk.off hO (p:=⟨w.heap.size+1,8,O⟩) (by show b≠w.heap.size+1;omega) _
 go_upto_region 52 with fail
 generalize xr.setCell ⟨w.heap.size+1,8,O⟩ (I Q ((n:Int)+1))=v at *
 clear c0 c1 c2 c3 c4 c5 c6 c7 c8 zf hSr e0 e1 e2 e3 e4 e5 e6 e7 hJ hO
 obtain⟨c0,c1,c2,c3,c4,c5,c6,c7,c8⟩:=Rb.cells hSp.c
 obtain⟨q0,q1,q2,q3,q4,q5⟩:=hOp.cells
 have hR:Calls Tryz.prog 48 #[U (Z ⟨Y.y,0,O⟩),I Q t,.agg #[I Q u0,I Q u1,I Q u2,I Q u3,I Q u4,I Q u5,I Q u6,I Q u7,I Q ((n:Int)+1)],.agg #[T O 0 0,I Q 0,I Q (A:Nat),I Q 1,I Q 0,I Q 0]] v (eP v { Y with ac:=wrap64 (Y.ac+1) } k BB):=by
  have h9:=zQ hSp.ey t ht ⟨[u0,u1,u2,u3,u4,u5,u6,u7],((n:Int)+1)⟩ hXr ⟨[],0,A,true,V,0⟩ _ rfl
  have hb:=HB.out
  rw[yP rfl,ec] at hb
  simp only[Int.toNat_natCast] at hb
  rw[<-HV3.out.2.1,<-HWA.out,HU8.out] at hb
  rw[hb]
  exact h9
 have st:=hSp.st
 have q02:=hSp.q
 have hf0:∀ i,({ Y with ac:=wrap64 (Y.ac+1) }:YP).Own k.n i->i≠w.heap.size:=fun i hi e=>by have:=hSp.ir i hi;omega
 have hlt:w.heap.size<v.heap.size:=hSp.q.lt
 clear hOp
 go_wp2_with fail
 refine hR.mono ?_
 rintro e v5 ⟨mv,Y',rfl,hl5,h5,hs5⟩
 obtain⟨a9,c9,e9,-⟩:=hl5.is
 subst e9
 have q5:=Bk.within q02 hs5.1 (fun e=>hf0 _ e rfl)
 have st5:=st.bp hs5
 have hfar:∀ i,Y'.Own k.n i->i≠w.heap.size:=fun i hi e=>by
  rcases hs5.2.1 i hi with e2 | e2
  ·exact hf0 i e2 e
  ·omega
 unfold BJ
 obtain⟨x0,x1,x2,x3,x4,x5⟩:=q5.gS
 have zf:=Bk.free q5
 have o1:=cm q5 (T a9 BB.2.ms.length c9) (I Q BB.2.done) (I Q BB.2.addr) (I Q (aG BB.2.wrote)) (I Q (aG BB.2.stay)) (I Q BB.2.e)
 have o2:=bd (y:=v5) (g:=w.heap.size) (T a9 BB.2.ms.length c9) (I Q BB.2.done) (I Q BB.2.addr) (I Q (aG BB.2.wrote)) (I Q (aG BB.2.stay)) (I Q BB.2.e)
 have hC:=J (dh (Y:=Y) (r:=BB) hl5 h5 st5 q5 (by decide) o2 (G _) hfar)
 clear q02 hl5 h5 hs5 st5 st o2 hR hSp c0 c1 c2 c3 c4 c5 c6 c7 c8 q0 q1 q2 q3 q4 q5
 go_wp2_with (refine bodyPost_ret (v:=.agg #[T a9 BB.2.ms.length c9,I Q BB.2.done,I Q BB.2.addr,I Q (aG BB.2.wrote),I Q (aG BB.2.stay),I Q BB.2.e]) (w:=co v5 w.heap.size (T a9 BB.2.ms.length c9) (I Q BB.2.done) (I Q BB.2.addr) (I Q (aG BB.2.wrote)) (I Q (aG BB.2.stay)) (I Q BB.2.e)) ?hres rfl ?hpost)
 case hpost=>exact hC.out
 case hres=>
  generalize co v5 w.heap.size (T a9 BB.2.ms.length c9) (I Q BB.2.done) (I Q BB.2.addr) (I Q (aG BB.2.wrote)) (I Q (aG BB.2.stay)) (I Q BB.2.e)=v9 at *
  obtain⟨o0,o1,o2,o3,o4,o5⟩:=o1.gS
  simp[results,Tryz.results25,go_sem,o0,o1,o2,o3,o4,o5]
end
