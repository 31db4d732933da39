import Derived.Test.YtieiifdhdjhnoaaGreatDoorQRuB
set_option linter.unusedVariables false
set_option maxHeartbeats 2000000
set_option maxRecDepth 100000
open Go.Value renaming int->I,slice->V
open Go.IntKind renaming i64->Q,u32->N
open Option renaming none->O,some->Z
open Go.Obj renaming cells->P
open Go.Lib renaming hid->S
open Go.RowKit.Below renaming refl->T
open Nat renaming le_refl->R
namespace Go.Proofs.YtieiifdhdjhnoaaGreatDoor
open Go.ChangeShapes Go.WideShapes Go.ChangeAt Go.RowKit
section
variable {w w':World}{Y:YP}{k:Lk}{m:Mc}
theorem B0 (h:Ey w Y k m)(t:Nat)(ht:t<k.n)(late:Bool)(L:Int){i:aU}(hm:ke k (m.cs t).pc=Z i)(hi:i.op≠22/\i.op≠23)(hf:gC k.zs i.a (aD (m.cs t).xs i.s.toNat)=O):
 Calls Tryz.prog 25 #[.pointer (Z ⟨Y.y,0,O⟩),I Q t,I Q L] w (eF w Y k (bC k m t late)):=by
 have HB0:=fV (late:=late) hm hi.1 hi.2
 rw[hf] at HB0
 simp only at HB0
 have HF0:=S hf
 clear hf
 obtain⟨BB,hBB⟩:∃ B,B=bC k m t late:=⟨_,rfl⟩
 rw[<-hBB] at HB0 ⊢
 have HB:=S HB0
 clear HB0 hBB
 have hnn:=h.lk.n64
 have hl64:=h.lk.parts.2.1
 obtain⟨r0,r1,r2,r3,r4,r5,r6,r7,pc,ec⟩:=h.eb ht
 have hx8:cX [r0,r1,r2,r3,r4,r5,r6,r7]:=by have:=h.mc.cs t ht;rw[ec] at this;exact this
 have HX:=S h
 rw[ec] at hm
 have q0:=Bk.made w 64 #[V O 0 0,I Q 0,I Q 0,I Q 0,I Q 0,I Q 0]
 have b0:Below w.heap.size w (w.alloc (P #[V O 0 0,I Q 0,I Q 0,I Q 0,I Q 0,I Q 0] 64)):=(T _ _).alloc (R _) _
 have s0:(w.alloc (P #[V O 0 0,I Q 0,I Q 0,I Q 0,I Q 0,I Q 0] 64)).heap.size=w.heap.size+1:=by simp
 go_enter Tryz.func25,Tryz.ntmps25
 go_upto_region 1 with fail
 generalize w.alloc (P #[V O 0 0,I Q 0,I Q 0,I Q 0,I Q 0,I Q 0] 64)=y at *
 have h2:=h.below b0
 obtain⟨gk,capk,ek,hk1,hk2,hkb,hkf,-⟩:=h2.qk
 unfold maxLen at hk2
 have cx6:=h2.c6
 rw[ek] at cx6
 obtain⟨c0,c1,c2,c3,c4,c5,c6,c7,c8⟩:=h2.core ht ec ek
 go_upto_region 2 with fail
 have q1:=Rb.made y [r0,r1,r2,r3,r4,r5,r6,r7] pc
 have s1:(y.alloc (P #[I Q r0,I Q r1,I Q r2,I Q r3,I Q r4,I Q r5,I Q r6,I Q r7,I Q pc] 111)).heap.size=w.heap.size+1+1:=by rw[World.size_alloc,s0]
 rw[s0] at q1
 simp only[dE,List.map_cons,List.map_nil,List.cons_append,List.nil_append] at q1
 have b1:Below y.heap.size y (y.alloc (P #[I Q r0,I Q r1,I Q r2,I Q r3,I Q r4,I Q r5,I Q r6,I Q r7,I Q pc] 111)):=(T _ _).alloc (R _) _
 replace q0:=(b1.block _ q0.lt).trans q0
 have h3:=h2.below b1
 replace b0:=b0.trans (b1.mono b0.size)
 clear c0 c1 c2 c3 c4 c5 c6 c7 c8 cx6 h2 b1 hkf s0 h hk1 hk2 hkb ek
 generalize y.alloc (P #[I Q r0,I Q r1,I Q r2,I Q r3,I Q r4,I Q r5,I Q r6,I Q r7,I Q pc] 111)=z at *
 go_upto_region 3 with fail
 have b1:Below z.heap.size z (z.alloc (P #[V O 0 0,I Q (-1),I Q (-1),I Q 0,I Q 0,I Q 11] 64)):=(T _ _).alloc (R _) _
 have q2:=Bk.made z 64 #[V O 0 0,I Q (-1),I Q (-1),I Q 0,I Q 0,I Q 11]
 have s2:(z.alloc (P #[V O 0 0,I Q (-1),I Q (-1),I Q 0,I Q 0,I Q 11] 64)).heap.size=w.heap.size+1+1+1:=by rw[World.size_alloc,s1]
 rw[s1] at q2
 have hS:SI w Y k [r0,r1,r2,r3,r4,r5,r6,r7] pc Y m (z.alloc (P #[V O 0 0,I Q (-1),I Q (-1),I Q 0,I Q 0,I Q 11] 64)):=⟨h3.below b1,(br.aT b0).grown b1,(b1.block _ (Bk.lt q0)).trans q0,(b1.block _ (Bk.lt q1)).trans q1,q2,fun i hi=>.inl (HX.out.lt hi)⟩
 clear h3 b0 b1 q0 q1 q2 s1
 have HS2:=S s2
 clear s2
 generalize z.alloc (P #[V O 0 0,I Q (-1),I Q (-1),I Q 0,I Q 0,I Q 11] 64)=x at *
 have HS:=S hS
 have cx0:=hS.ey.c0
 obtain⟨hpv,aV,cV,eV⟩:=hS.ey.pv
 rw[eV] at cx0 hpv
 obtain⟨a2,ca2,e2,_,_,_,hsl⟩:=hpv
 simp only[Value.agg.injEq,Array.mk.injEq,List.cons.injEq,Value.slice.injEq,and_true,true_and] at e2
 obtain⟨rfl,rfl⟩:=e2
 have HV:=S eV
 clear eV
 obtain⟨c0,c1,c2,c3,c4,c5,c6,c7,c8⟩:=hS.c.cells
 obtain⟨hp0,hp1,hj,hmj⟩:=gR hm
 have hOM:=HX.out.lk.Gl hm
 simp only at hp0 hp1 hj hOM
 obtain⟨n,rfl⟩:=Int.eq_ofNat_of_zero_le hp0
 rw[Int.toNat_natCast] at hj
 obtain⟨op,di,si,ti,ui,ai,k2,pl⟩:=i
 obtain⟨hop,hd,hs,ht2,hu,ha,hk,haw⟩:=hOM
 simp only at hop hd hs ht2 hu ha hk haw hmj hi ⊢
 obtain⟨d,rfl⟩:=Int.eq_ofNat_of_zero_le hd.1
 obtain⟨s,rfl⟩:=Int.eq_ofNat_of_zero_le hs.1
 obtain⟨t2,rfl⟩:=Int.eq_ofNat_of_zero_le ht2.1
 obtain⟨u,rfl⟩:=Int.eq_ofNat_of_zero_le hu.1
 obtain⟨a,rfl⟩:=Int.eq_ofNat_of_zero_le ha.1
 have hd8:d<8:=by omega
 have hs8:s<8:=by omega
 have ht8:t2<8:=by omega
 have hu8:u<8:=by omega
 have hi2:=hi
 obtain⟨g,off,rfl,hgl,f0,f1,f2,f3,f4,f5,f6,f7⟩:=hsl.at_ hj
 simp only at f0 f1 f2 f3 f4 f5 f6 f7
 have d0:decide ((n:Int)<0)=false:=by simp
 have d1:decide ((n:Int)>=(k.l.length:Int))=false:=by simp;omega
 have d4:decide (k.l.length<=n)=false:=by simp;omega
 have d2:decide (op<(16:Int))=false:=by first | decide | (simp;omega)
 have d3:(n:Int)<k.l.length:=hp1
 have HAW:=S (And.intro hk haw)
 clear hsl hS hj hm hmj hp0 hp1 hd hs ht2 hu ha haw hk
 go_quiet (fail)
 have hS3:=HS.out.below (aO x nq)
 have hsz:(x.drewN nq).heap.size=w.heap.size+1+1+1:=HS2.out
 replace cx0:(x.drewN nq).cell? ⟨Y.y,0,O⟩=_:=cx0
 replace f0:(x.drewN nq).cell? ⟨g,off+n*8,O⟩=_:=f0
 replace f1:(x.drewN nq).cell? ⟨g,off+n*8+1,O⟩=_:=f1
 replace f2:(x.drewN nq).cell? ⟨g,off+n*8+2,O⟩=_:=f2
 replace f3:(x.drewN nq).cell? ⟨g,off+n*8+3,O⟩=_:=f3
 replace f4:(x.drewN nq).cell? ⟨g,off+n*8+4,O⟩=_:=f4
 replace f5:(x.drewN nq).cell? ⟨g,off+n*8+5,O⟩=_:=f5
 replace f6:(x.drewN nq).cell? ⟨g,off+n*8+6,O⟩=_:=f6
 replace f7:(x.drewN nq).cell? ⟨g,off+n*8+7,O⟩=_:=f7
 have hgl':g<(x.drewN nq).heap.size:=hgl
 clear c0 c1 c2 c3 c4 c5 c6 c7 c8 HS HS2 hgl
 go_upto_region 5 with fail
 generalize x.drewN nq=x2 at *
 obtain⟨c0,c1,c2,c3,c4,c5,c6,c7,c8⟩:=hS3.c.cells
 have hA:Below x2.heap.size x2 (x2.alloc (P #[I Q 0,I Q 0,I Q 0,I Q 0,I Q 0,I Q 0,I N 0,I Q 0] 123)):=(T _ _).alloc (R _) _
 have cx0':(x2.alloc (P #[I Q 0,I Q 0,I Q 0,I Q 0,I Q 0,I Q 0,I N 0,I Q 0] 123)).cell? ⟨Y.y,0,O⟩=Z (V (Z ⟨g,off,O⟩) k.l.length cV):=(hA.cell (p:=⟨Y.y,0,O⟩) hS3.ey.ptr.lt).trans cx0
 have c8':(x2.alloc (P #[I Q 0,I Q 0,I Q 0,I Q 0,I Q 0,I Q 0,I N 0,I Q 0] 123)).cell? ⟨w.heap.size+1,8,O⟩=Z (I Q n):=(hA.cell (p:=⟨w.heap.size+1,8,O⟩) (Bk.lt hS3.c)).trans c8
 have f0':(x2.alloc (P #[I Q 0,I Q 0,I Q 0,I Q 0,I Q 0,I Q 0,I N 0,I Q 0] 123)).cell? ⟨g,off+n*8,O⟩=Z (I Q op):=(hA.cell (p:=⟨g,off+n*8,O⟩) hgl').trans f0
 have f1':(x2.alloc (P #[I Q 0,I Q 0,I Q 0,I Q 0,I Q 0,I Q 0,I N 0,I Q 0] 123)).cell? ⟨g,off+n*8+1,O⟩=Z (I Q (d:Nat)):=(hA.cell (p:=⟨g,off+n*8+1,O⟩) hgl').trans f1
 have f2':(x2.alloc (P #[I Q 0,I Q 0,I Q 0,I Q 0,I Q 0,I Q 0,I N 0,I Q 0] 123)).cell? ⟨g,off+n*8+2,O⟩=Z (I Q (s:Nat)):=(hA.cell (p:=⟨g,off+n*8+2,O⟩) hgl').trans f2
 have f3':(x2.alloc (P #[I Q 0,I Q 0,I Q 0,I Q 0,I Q 0,I Q 0,I N 0,I Q 0] 123)).cell? ⟨g,off+n*8+3,O⟩=Z (I Q (t2:Nat)):=(hA.cell (p:=⟨g,off+n*8+3,O⟩) hgl').trans f3
 have f4':(x2.alloc (P #[I Q 0,I Q 0,I Q 0,I Q 0,I Q 0,I Q 0,I N 0,I Q 0] 123)).cell? ⟨g,off+n*8+4,O⟩=Z (I Q (u:Nat)):=(hA.cell (p:=⟨g,off+n*8+4,O⟩) hgl').trans f4
 have f5':(x2.alloc (P #[I Q 0,I Q 0,I Q 0,I Q 0,I Q 0,I Q 0,I N 0,I Q 0] 123)).cell? ⟨g,off+n*8+5,O⟩=Z (I Q (a:Nat)):=(hA.cell (p:=⟨g,off+n*8+5,O⟩) hgl').trans f5
 have f6':(x2.alloc (P #[I Q 0,I Q 0,I Q 0,I Q 0,I Q 0,I Q 0,I N 0,I Q 0] 123)).cell? ⟨g,off+n*8+6,O⟩=Z (I N k2):=(hA.cell (p:=⟨g,off+n*8+6,O⟩) hgl').trans f6
 have f7':(x2.alloc (P #[I Q 0,I Q 0,I Q 0,I Q 0,I Q 0,I Q 0,I N 0,I Q 0] 123)).cell? ⟨g,off+n*8+7,O⟩=Z (I Q pl):=(hA.cell (p:=⟨g,off+n*8+7,O⟩) hgl').trans f7
 go_region
 have hJ:=Jb.made x2 op d s t2 u a k2 pl
 rw[hsz] at hJ
 have hb5:Below x2.heap.size x2 (x2.alloc (P #[I Q op,I Q (d:Nat),I Q (s:Nat),I Q (t2:Nat),I Q (u:Nat),I Q (a:Nat),I N k2,I Q pl] 123)).drew:=((T _ _).alloc (R _) _).drew
 have hS4:=hS3.below hb5
 replace hJ:Jb (x2.alloc (P #[I Q op,I Q (d:Nat),I Q (s:Nat),I Q (t2:Nat),I Q (u:Nat),I Q (a:Nat),I N k2,I Q pl] 123)).drew _ _:=hJ
 have hsz4:w.heap.size+4<=(x2.alloc (P #[I Q op,I Q (d:Nat),I Q (s:Nat),I Q (t2:Nat),I Q (u:Nat),I Q (a:Nat),I N k2,I Q pl] 123)).drew.heap.size:=by
  have e:(x2.alloc (P #[I Q op,I Q (d:Nat),I Q (s:Nat),I Q (t2:Nat),I Q (u:Nat),I Q (a:Nat),I N k2,I Q pl] 123)).drew.heap.size=x2.heap.size+1:=by simp
  omega
 clear cx0 cx0' c8' c0 c1 c2 c3 c4 c5 c6 c7 c8 hA hgl' hsz hb5 hS3 f0 f1 f2 f3 f4 f5 f6 f7 f0' f1' f2' f3' f4' f5' f6' f7'
 generalize (x2.alloc (P #[I Q op,I Q (d:Nat),I Q (s:Nat),I Q (t2:Nat),I Q (u:Nat),I Q (a:Nat),I N k2,I Q pl] 123)).drew=x3 at *
 obtain⟨VS,hVS⟩:∃ v,v=aD [r0,r1,r2,r3,r4,r5,r6,r7] s:=⟨_,rfl⟩
 obtain⟨VT,hVT⟩:∃ v,v=aD [r0,r1,r2,r3,r4,r5,r6,r7] t2:=⟨_,rfl⟩
 obtain⟨VU,hVU⟩:∃ v,v=aD [r0,r1,r2,r3,r4,r5,r6,r7] u:=⟨_,rfl⟩
 have cs:=hS4.c.at_ hx8.1 hs8
 have ct:=hS4.c.at_ hx8.1 ht8
 have cu:=hS4.c.at_ hx8.1 hu8
 have rs:=hx8.2.at_ s
 have rt:=hx8.2.at_ t2
 have ru:=hx8.2.at_ u
 rw[<-hVS] at cs rs
 rw[<-hVT] at ct rt
 rw[<-hVU] at cu ru
 have HV3:=S (And.intro hVS (And.intro hVT hVU))
 clear hVS hVT hVU
 have ws:=bT rs
 have wt:=bT rt
 have wu:=bT ru
 have is8:(s:Int)<8:=by omega
 have it8:(t2:Int)<8:=by omega
 have iu8:(u:Int)<8:=by omega
 have id8:(d:Int)<8:=by omega
 obtain⟨e0,e1,e2,e3,e4,e5,e6,e7⟩:=hJ.cells
 simp only at e0 e1 e2 e3 e4 e5 e6 e7
 go_upto_region 6 with fail
 go_quiet (fail)
 have hS5:=hS4.below (aO x3 nq)
 replace hJ:=hJ.below (aO x3 nq)
 replace hsz4:w.heap.size+4<=(x3.drewN nq).heap.size:=hsz4
 clear hS4 cs ct cu e0 e1 e2 e3 e4 e5 e6 e7
 generalize x3.drewN nq=x4 at *
 obtain⟨e0,e1,e2,e3,e4,e5,e6,e7⟩:=hJ.cells
 simp only at e0 e1 e2 e3 e4 e5 e6 e7
 have o22:(op==22)=false:=by simpa using hi2.1
 have o23:(op==23)=false:=by simpa using hi2.2
 clear hi hi2
 have cx3:=hS5.ey.c3
 have hf2:=HF0.out
 rw[ec] at hf2
 simp only[Int.toNat_natCast] at hf2
 rw[<-HV3.out.1] at hf2
 go_upto_region 17 with fail
 have g3:=fun g:fL x4=>g.cell cx3
 have g5:=fun g:fL x4=>g.cell e5
 have HFi:Hid (∀ g:fL x4,Calls Tryz.prog 54 #[Y.cl,I Q (a:Nat),I N VS] g.x fun e y=>e=.returned (I Q (-1))/\Below g.x.heap.size g.x y):=S fun g=>by
  have h1:=rd (hS5.ey.below g.ok) a VS rs.1 rs.2
  rw[hf2] at h1
  exact h1.mono fun e y ⟨q1,q2⟩=>⟨q1,aQ q2⟩
 clear cx3 e0 e1 e2 e3 e4 e5 e6 e7
 refine ap (by kernel_rfl) (by kernel_rfl) ?_
 repeat (go_big_quiet_step ((go_at_call 54;with_reducible exact ao (HFi.out _))))
 refine wpQuiet_nil ?_
 rintro x5 ⟨⟨_,hy5⟩,rfl⟩
 replace hJ:=hJ.below hy5
 have hS6:=hS5.below hy5
 have hsz5:=Nat.le_trans hsz4 hy5.size
 clear hS5 hy5 HFi g3 g5 hsz4
 have hb0:=HB.out
 clear HB
 subst hb0
 clear hJ
 go_upto_region 19 with fail
 generalize x5=v at *
 obtain⟨t0,t1,t2,t3,t4,t5⟩:=hS6.tr.pd
 have q5:=hS6.q
 have HT:=S hS6
 obtain⟨x0,x1,x2,x3,x4,x5⟩:=q5.pd
 have zf:=Bk.free q5
 have o1:=ep q5 (V O 0 0) (I Q (-1)) (I Q (-1)) (I Q 0) (I Q 0) (I Q 11)
 have o2:=bK (y:=v) (g:=w.heap.size) (V O 0 0) (I Q (-1)) (I Q (-1)) (I Q 0) (I Q 0) (I Q 11)
 have hC:=S (dj (Y:=Y) (r:=(m,jK)) (v:=V O 0 0) (ef.nil _ _ _) HT.out.ey HT.out.st HT.out.q (by decide) o2 (R _) (fun i hi e=>by have:=HT.out.mZ i hi;omega))
 clear hS6 o2 HT
 go_wp2_with (refine bodyPost_ret (v:=.agg #[V O 0 0,I Q (-1),I Q (-1),I Q 0,I Q 0,I Q 11]) (w:=eH v w.heap.size (V O 0 0) (I Q (-1)) (I Q (-1)) (I Q 0) (I Q 0) (I Q 11)) ?hres rfl ?hpost)
 case hpost=>exact hC.out
 case hres=>
  generalize eH v w.heap.size (V O 0 0) (I Q (-1)) (I Q (-1)) (I Q 0) (I Q 0) (I Q 11)=v9 at *
  obtain⟨o0,o1,o2,o3,o4,o5⟩:=o1.pd
  simp[results,Tryz.results25,go_sem,o0,o1,o2,o3,o4,o5]
end
