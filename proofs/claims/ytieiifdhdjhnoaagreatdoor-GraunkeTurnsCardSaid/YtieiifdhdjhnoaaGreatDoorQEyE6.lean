import Derived.Test.YtieiifdhdjhnoaaGreatDoorQRuB
set_option linter.unusedVariables false
set_option maxHeartbeats 2000000
set_option maxRecDepth 100000
open Go.Value renaming int->I,slice->V
open Go.IntKind renaming i64->Q,u32->N
open Option renaming none->O,some->Z
open Go.Obj renaming cells->P
open Go.Lib renaming hid->S
open Go.RowKit.Below renaming refl->T
open Nat renaming le_refl->R
namespace Go.Proofs.YtieiifdhdjhnoaaGreatDoor
open Go.ChangeShapes Go.WideShapes Go.ChangeAt Go.RowKit
section
variable {w w' W W':World}{Y Y0 Y':YP}{k:Lk}{m m':Mc}{xs:List Int}{pc:Int}
theorem rQ (h:Ey w Y k m)(t:Nat)(ht:t<k.n)(late:Bool)(L:Int){i:aU}(hm:ke k (m.cs t).pc=Z i)(hi:i.op=21){A:Nat}  (hf:gC k.zs i.a (aD (m.cs t).xs i.s.toNat)=Z A)(hh:(decide (aD m.ws A=aD (m.cs t).xs i.t.toNat) != decide (i.k=1))=true):
 Calls Tryz.prog 25 #[.pointer (Z ⟨Y.y,0,O⟩),I Q t,I Q L] w (eF w Y k (bC k m t late)):=by
 have HH0:=S hh
 clear hh
 have HB0:=fV (late:=late) hm (by rw[hi];decide) (by rw[hi];decide)
 rw[hf] at HB0
 simp only at HB0
 have HF0:=S hf
 clear hf
 obtain⟨BB,hBB⟩:∃ B,B=bC k m t late:=⟨_,rfl⟩
 rw[<-hBB] at HB0 ⊢
 have HB:=S HB0
 clear HB0 hBB
 have hnn:=h.lk.n64
 have hl64:=h.lk.parts.2.1
 obtain⟨r0,r1,r2,r3,r4,r5,r6,r7,pc,ec⟩:=h.eb ht
 have hx8:cX [r0,r1,r2,r3,r4,r5,r6,r7]:=by have:=h.mc.cs t ht;rw[ec] at this;exact this
 have HX:=S h
 rw[ec] at hm
 have q0:=Bk.made w 64 #[V O 0 0,I Q 0,I Q 0,I Q 0,I Q 0,I Q 0]
 have b0:Below w.heap.size w (w.alloc (P #[V O 0 0,I Q 0,I Q 0,I Q 0,I Q 0,I Q 0] 64)):=(T _ _).alloc (R _) _
 have s0:(w.alloc (P #[V O 0 0,I Q 0,I Q 0,I Q 0,I Q 0,I Q 0] 64)).heap.size=w.heap.size+1:=by simp
 go_enter Tryz.func25,Tryz.ntmps25
 go_upto_region 1 with fail
 generalize w.alloc (P #[V O 0 0,I Q 0,I Q 0,I Q 0,I Q 0,I Q 0] 64)=y at *
 have h2:=h.below b0
 obtain⟨gk,capk,ek,hk1,hk2,hkb,hkf,-⟩:=h2.qk
 unfold maxLen at hk2
 have cx6:=h2.c6
 rw[ek] at cx6
 obtain⟨c0,c1,c2,c3,c4,c5,c6,c7,c8⟩:=h2.core ht ec ek
 go_upto_region 2 with fail
 have q1:=Rb.made y [r0,r1,r2,r3,r4,r5,r6,r7] pc
 have s1:(y.alloc (P #[I Q r0,I Q r1,I Q r2,I Q r3,I Q r4,I Q r5,I Q r6,I Q r7,I Q pc] 111)).heap.size=w.heap.size+1+1:=by rw[World.size_alloc,s0]
 rw[s0] at q1
 simp only[dE,List.map_cons,List.map_nil,List.cons_append,List.nil_append] at q1
 have b1:Below y.heap.size y (y.alloc (P #[I Q r0,I Q r1,I Q r2,I Q r3,I Q r4,I Q r5,I Q r6,I Q r7,I Q pc] 111)):=(T _ _).alloc (R _) _
 replace q0:=(b1.block _ q0.lt).trans q0
 have h3:=h2.below b1
 replace b0:=b0.trans (b1.mono b0.size)
 clear c0 c1 c2 c3 c4 c5 c6 c7 c8 cx6 h2 b1 hkf s0 h hk1 hk2 hkb ek
 generalize y.alloc (P #[I Q r0,I Q r1,I Q r2,I Q r3,I Q r4,I Q r5,I Q r6,I Q r7,I Q pc] 111)=z at *
 go_upto_region 3 with fail
 have b1:Below z.heap.size z (z.alloc (P #[V O 0 0,I Q (-1),I Q (-1),I Q 0,I Q 0,I Q 11] 64)):=(T _ _).alloc (R _) _
 have q2:=Bk.made z 64 #[V O 0 0,I Q (-1),I Q (-1),I Q 0,I Q 0,I Q 11]
 have s2:(z.alloc (P #[V O 0 0,I Q (-1),I Q (-1),I Q 0,I Q 0,I Q 11] 64)).heap.size=w.heap.size+1+1+1:=by rw[World.size_alloc,s1]
 rw[s1] at q2
 have hS:SI w Y k [r0,r1,r2,r3,r4,r5,r6,r7] pc Y m (z.alloc (P #[V O 0 0,I Q (-1),I Q (-1),I Q 0,I Q 0,I Q 11] 64)):=⟨h3.below b1,(br.aT b0).grown b1,(b1.block _ (Bk.lt q0)).trans q0,(b1.block _ (Bk.lt q1)).trans q1,q2,fun i hi=>.inl (HX.out.lt hi)⟩
 clear h3 b0 b1 q0 q1 q2 s1
 have HS2:=S s2
 clear s2
 generalize z.alloc (P #[V O 0 0,I Q (-1),I Q (-1),I Q 0,I Q 0,I Q 11] 64)=x at *
 have HS:=S hS
 have cx0:=hS.ey.c0
 obtain⟨hpv,aV,cV,eV⟩:=hS.ey.pv
 rw[eV] at cx0 hpv
 obtain⟨a2,ca2,e2,_,_,_,hsl⟩:=hpv
 simp only[Value.agg.injEq,Array.mk.injEq,List.cons.injEq,Value.slice.injEq,and_true,true_and] at e2
 obtain⟨rfl,rfl⟩:=e2
 have HV:=S eV
 clear eV
 obtain⟨c0,c1,c2,c3,c4,c5,c6,c7,c8⟩:=hS.c.cells
 obtain⟨hp0,hp1,hj,hmj⟩:=gR hm
 have hOM:=HX.out.lk.Gl hm
 simp only at hp0 hp1 hj hOM
 obtain⟨n,rfl⟩:=Int.eq_ofNat_of_zero_le hp0
 rw[Int.toNat_natCast] at hj
 obtain⟨op,di,si,ti,ui,ai,k2,pl⟩:=i
 obtain⟨hop,hd,hs,ht2,hu,ha,hk,haw⟩:=hOM
 simp only at hop hd hs ht2 hu ha hk haw hmj hi ⊢
 obtain⟨d,rfl⟩:=Int.eq_ofNat_of_zero_le hd.1
 obtain⟨s,rfl⟩:=Int.eq_ofNat_of_zero_le hs.1
 obtain⟨t2,rfl⟩:=Int.eq_ofNat_of_zero_le ht2.1
 obtain⟨u,rfl⟩:=Int.eq_ofNat_of_zero_le hu.1
 obtain⟨a,rfl⟩:=Int.eq_ofNat_of_zero_le ha.1
 have hd8:d<8:=by omega
 have hs8:s<8:=by omega
 have ht8:t2<8:=by omega
 have hu8:u<8:=by omega
 subst hi
 obtain⟨g,off,rfl,hgl,f0,f1,f2,f3,f4,f5,f6,f7⟩:=hsl.at_ hj
 simp only at f0 f1 f2 f3 f4 f5 f6 f7
 have d0:decide ((n:Int)<0)=false:=by simp
 have d1:decide ((n:Int)>=(k.l.length:Int))=false:=by simp;omega
 have d4:decide (k.l.length<=n)=false:=by simp;omega
 have d2:decide (21<(16:Int))=false:=by first | decide | (simp;omega)
 have d3:(n:Int)<k.l.length:=hp1
 have HAW:=S (And.intro hk haw)
 clear hsl hS hj hm hmj hp0 hp1 hd hs ht2 hu ha haw hk
 go_quiet (fail)
 have hS3:=HS.out.below (aO x nq)
 have hsz:(x.drewN nq).heap.size=w.heap.size+1+1+1:=HS2.out
 replace cx0:(x.drewN nq).cell? ⟨Y.y,0,O⟩=_:=cx0
 replace f0:(x.drewN nq).cell? ⟨g,off+n*8,O⟩=_:=f0
 replace f1:(x.drewN nq).cell? ⟨g,off+n*8+1,O⟩=_:=f1
 replace f2:(x.drewN nq).cell? ⟨g,off+n*8+2,O⟩=_:=f2
 replace f3:(x.drewN nq).cell? ⟨g,off+n*8+3,O⟩=_:=f3
 replace f4:(x.drewN nq).cell? ⟨g,off+n*8+4,O⟩=_:=f4
 replace f5:(x.drewN nq).cell? ⟨g,off+n*8+5,O⟩=_:=f5
 replace f6:(x.drewN nq).cell? ⟨g,off+n*8+6,O⟩=_:=f6
 replace f7:(x.drewN nq).cell? ⟨g,off+n*8+7,O⟩=_:=f7
 have hgl':g<(x.drewN nq).heap.size:=hgl
 clear c0 c1 c2 c3 c4 c5 c6 c7 c8 HS HS2 hgl
 go_upto_region 5 with fail
 generalize x.drewN nq=x2 at *
 obtain⟨c0,c1,c2,c3,c4,c5,c6,c7,c8⟩:=hS3.c.cells
 have hA:Below x2.heap.size x2 (x2.alloc (P #[I Q 0,I Q 0,I Q 0,I Q 0,I Q 0,I Q 0,I N 0,I Q 0] 123)):=(T _ _).alloc (R _) _
 have cx0':(x2.alloc (P #[I Q 0,I Q 0,I Q 0,I Q 0,I Q 0,I Q 0,I N 0,I Q 0] 123)).cell? ⟨Y.y,0,O⟩=Z (V (Z ⟨g,off,O⟩) k.l.length cV):=(hA.cell (p:=⟨Y.y,0,O⟩) hS3.ey.ptr.lt).trans cx0
 have c8':(x2.alloc (P #[I Q 0,I Q 0,I Q 0,I Q 0,I Q 0,I Q 0,I N 0,I Q 0] 123)).cell? ⟨w.heap.size+1,8,O⟩=Z (I Q n):=(hA.cell (p:=⟨w.heap.size+1,8,O⟩) (Bk.lt hS3.c)).trans c8
 have f0':(x2.alloc (P #[I Q 0,I Q 0,I Q 0,I Q 0,I Q 0,I Q 0,I N 0,I Q 0] 123)).cell? ⟨g,off+n*8,O⟩=Z (I Q 21):=(hA.cell (p:=⟨g,off+n*8,O⟩) hgl').trans f0
 have f1':(x2.alloc (P #[I Q 0,I Q 0,I Q 0,I Q 0,I Q 0,I Q 0,I N 0,I Q 0] 123)).cell? ⟨g,off+n*8+1,O⟩=Z (I Q (d:Nat)):=(hA.cell (p:=⟨g,off+n*8+1,O⟩) hgl').trans f1
 have f2':(x2.alloc (P #[I Q 0,I Q 0,I Q 0,I Q 0,I Q 0,I Q 0,I N 0,I Q 0] 123)).cell? ⟨g,off+n*8+2,O⟩=Z (I Q (s:Nat)):=(hA.cell (p:=⟨g,off+n*8+2,O⟩) hgl').trans f2
 have f3':(x2.alloc (P #[I Q 0,I Q 0,I Q 0,I Q 0,I Q 0,I Q 0,I N 0,I Q 0] 123)).cell? ⟨g,off+n*8+3,O⟩=Z (I Q (t2:Nat)):=(hA.cell (p:=⟨g,off+n*8+3,O⟩) hgl').trans f3
 have f4':(x2.alloc (P #[I Q 0,I Q 0,I Q 0,I Q 0,I Q 0,I Q 0,I N 0,I Q 0] 123)).cell? ⟨g,off+n*8+4,O⟩=Z (I Q (u:Nat)):=(hA.cell (p:=⟨g,off+n*8+4,O⟩) hgl').trans f4
 have f5':(x2.alloc (P #[I Q 0,I Q 0,I Q 0,I Q 0,I Q 0,I Q 0,I N 0,I Q 0] 123)).cell? ⟨g,off+n*8+5,O⟩=Z (I Q (a:Nat)):=(hA.cell (p:=⟨g,off+n*8+5,O⟩) hgl').trans f5
 have f6':(x2.alloc (P #[I Q 0,I Q 0,I Q 0,I Q 0,I Q 0,I Q 0,I N 0,I Q 0] 123)).cell? ⟨g,off+n*8+6,O⟩=Z (I N k2):=(hA.cell (p:=⟨g,off+n*8+6,O⟩) hgl').trans f6
 have f7':(x2.alloc (P #[I Q 0,I Q 0,I Q 0,I Q 0,I Q 0,I Q 0,I N 0,I Q 0] 123)).cell? ⟨g,off+n*8+7,O⟩=Z (I Q pl):=(hA.cell (p:=⟨g,off+n*8+7,O⟩) hgl').trans f7
 go_region
 have hJ:=Jb.made x2 21 d s t2 u a k2 pl
 rw[hsz] at hJ
 have hb5:Below x2.heap.size x2 (x2.alloc (P #[I Q 21,I Q (d:Nat),I Q (s:Nat),I Q (t2:Nat),I Q (u:Nat),I Q (a:Nat),I N k2,I Q pl] 123)).drew:=((T _ _).alloc (R _) _).drew
 have hS4:=hS3.below hb5
 replace hJ:Jb (x2.alloc (P #[I Q 21,I Q (d:Nat),I Q (s:Nat),I Q (t2:Nat),I Q (u:Nat),I Q (a:Nat),I N k2,I Q pl] 123)).drew _ _:=hJ
 have hsz4:w.heap.size+4<=(x2.alloc (P #[I Q 21,I Q (d:Nat),I Q (s:Nat),I Q (t2:Nat),I Q (u:Nat),I Q (a:Nat),I N k2,I Q pl] 123)).drew.heap.size:=by
  have e:(x2.alloc (P #[I Q 21,I Q (d:Nat),I Q (s:Nat),I Q (t2:Nat),I Q (u:Nat),I Q (a:Nat),I N k2,I Q pl] 123)).drew.heap.size=x2.heap.size+1:=by simp
  omega
 clear cx0 cx0' c8' c0 c1 c2 c3 c4 c5 c6 c7 c8 hA hgl' hsz hb5 hS3 f0 f1 f2 f3 f4 f5 f6 f7 f0' f1' f2' f3' f4' f5' f6' f7'
 generalize (x2.alloc (P #[I Q 21,I Q (d:Nat),I Q (s:Nat),I Q (t2:Nat),I Q (u:Nat),I Q (a:Nat),I N k2,I Q pl] 123)).drew=x3 at *
 obtain⟨VS,hVS⟩:∃ v,v=aD [r0,r1,r2,r3,r4,r5,r6,r7] s:=⟨_,rfl⟩
 obtain⟨VT,hVT⟩:∃ v,v=aD [r0,r1,r2,r3,r4,r5,r6,r7] t2:=⟨_,rfl⟩
 obtain⟨VU,hVU⟩:∃ v,v=aD [r0,r1,r2,r3,r4,r5,r6,r7] u:=⟨_,rfl⟩
 have cs:=hS4.c.at_ hx8.1 hs8
 have ct:=hS4.c.at_ hx8.1 ht8
 have cu:=hS4.c.at_ hx8.1 hu8
 have rs:=hx8.2.at_ s
 have rt:=hx8.2.at_ t2
 have ru:=hx8.2.at_ u
 rw[<-hVS] at cs rs
 rw[<-hVT] at ct rt
 rw[<-hVU] at cu ru
 have HV3:=S (And.intro hVS (And.intro hVT hVU))
 clear hVS hVT hVU
 have ws:=bT rs
 have wt:=bT rt
 have wu:=bT ru
 have is8:(s:Int)<8:=by omega
 have it8:(t2:Int)<8:=by omega
 have iu8:(u:Int)<8:=by omega
 have id8:(d:Int)<8:=by omega
 obtain⟨e0,e1,e2,e3,e4,e5,e6,e7⟩:=hJ.cells
 simp only at e0 e1 e2 e3 e4 e5 e6 e7
 go_upto_region 6 with fail
 go_quiet (fail)
 have hS5:=hS4.below (aO x3 nq)
 replace hJ:=hJ.below (aO x3 nq)
 replace hsz4:w.heap.size+4<=(x3.drewN nq).heap.size:=hsz4
 clear hS4 cs ct cu e0 e1 e2 e3 e4 e5 e6 e7
 generalize x3.drewN nq=x4 at *
 obtain⟨e0,e1,e2,e3,e4,e5,e6,e7⟩:=hJ.cells
 simp only at e0 e1 e2 e3 e4 e5 e6 e7
 have cx3:=hS5.ey.c3
 have hf2:=HF0.out
 rw[ec] at hf2
 simp only[Int.toNat_natCast] at hf2
 rw[<-HV3.out.1] at hf2
 go_upto_region 17 with fail
 have g3:=fun g:fL x4=>g.cell cx3
 have g5:=fun g:fL x4=>g.cell e5
 have HFi:Hid (∀ g:fL x4,Calls Tryz.prog 54 #[Y.cl,I Q (a:Nat),I N VS] g.x fun e y=>e=.returned (I Q (A:Nat))/\Below g.x.heap.size g.x y):=S fun g=>by
  have h1:=rd (hS5.ey.below g.ok) a VS rs.1 rs.2
  rw[hf2] at h1
  exact h1.mono fun e y ⟨q1,q2⟩=>⟨q1,aQ q2⟩
 clear cx3 e0 e1 e2 e3 e4 e5 e6 e7
 refine ap (by kernel_rfl) (by kernel_rfl) ?_
 repeat (go_big_quiet_step ((go_at_call 54;with_reducible exact ao (HFi.out _))))
 refine wpQuiet_nil ?_
 rintro x5 ⟨⟨_,hy5⟩,rfl⟩
 replace hJ:=hJ.below hy5
 have hS6:=hS5.below hy5
 have hsz5:=Nat.le_trans hsz4 hy5.size
 clear hS5 hy5 HFi g3 g5 hsz4
 have hAl:A<m.ws.length:=by rw[HX.out.mc.len];exact lm hf2
 have rw0:=HX.out.mc.ws.at_ A
 have c7:=hS6.ey.c7
 have zf:=hS6.ey.ptr.free
 go_upto_region 21 with fail
 obtain⟨hE7,st7⟩:=hS6.ey.more (wrap64 (Y.ac+1))
 have hS7:=hS6.gy hsz5 hE7 st7
 replace hJ:Jb (x5.setCell ⟨Y.y,7,O⟩ (I Q (wrap64 (Y.ac+1)))) _ _:=Bk.within hJ st7.1 (fun e=>by have:=hS6.mZ _ e;omega)
 have hsz7:w.heap.size+4<=(x5.setCell ⟨Y.y,7,O⟩ (I Q (wrap64 (Y.ac+1)))).heap.size:=Nat.le_trans hsz5 st7.1.size
 clear hS6 c7 zf hE7 st7 hsz5
 generalize (x5.setCell ⟨Y.y,7,O⟩ (I Q (wrap64 (Y.ac+1))))=x6 at *
 obtain⟨aw,capw,ew0,hw1,hw2,hw3⟩:=hS7.ey.zy
 obtain⟨gw,ewa,hwb,hwf,hwc⟩:=hw3 (Nat.lt_of_le_of_lt (Nat.zero_le _) hAl)
 subst ewa
 have ew:Y.wl=V (Z ⟨gw,0,O⟩) m.ws.length capw:=ew0
 have hgw:gw<w.heap.size:=HX.out.lt (.inr (.inr (.inr (.inl hwb))))
 have cx4:x6.cell? ⟨Y.y,2+2,O⟩=Z (V (Z ⟨gw,0,O⟩) m.ws.length capw):=by rw[<-ew];exact hS7.ey.c4
 simp only[Nat.reduceAdd] at cx4
 have cwA:=hwc A hAl
 obtain⟨WA,hWA⟩:∃ v,v=aD m.ws A:=⟨_,rfl⟩
 rw[<-hWA] at cwA rw0
 have HWA:=S hWA
 clear hWA hwc hwf hw3 ew0 hw1
 unfold maxLen at hw2
 have iA:(A:Int)<m.ws.length:=by omega
 go_upto_region 23 with fail
 have hO:So (x6.alloc (P #[V O 0 0,I Q 0,I Q (A:Nat),I Q 0,I Q 0,I Q 0] 64)) x6.heap.size A 0 0 0:=Bk.made _ _ _
 have hb7:Below x6.heap.size x6 (x6.alloc (P #[V O 0 0,I Q 0,I Q (A:Nat),I Q 0,I Q 0,I Q 0] 64)):=(T _ _).alloc (R _) _
 replace hJ:=hJ.below hb7
 have hS8:=hS7.below hb7
 have hsz8:w.heap.size+4<=(x6.alloc (P #[V O 0 0,I Q 0,I Q (A:Nat),I Q 0,I Q 0,I Q 0] 64)).heap.size:=Nat.le_trans hsz7 hb7.size
 clear hS7 hb7 cx4 cwA
 generalize (x6.alloc (P #[V O 0 0,I Q 0,I Q (A:Nat),I Q 0,I Q 0,I Q 0] 64))=x7 at *
 generalize x6.heap.size=b at *
 have hOwn:Hid (∀ i,Y.Own k.n i->i<w.heap.size):=S fun i hi=>HX.out.lt hi
 obtain⟨c0,c1,c2,c3,c4,c5,c6,c7,c8⟩:=Rb.cells hS8.c
 obtain⟨e0,e1,e2,e3,e4,e5,e6,e7⟩:=hJ.cells
 simp only at e0 e1 e2 e3 e4 e5 e6 e7
 go_upto_region 41 with fail
 have cd:=hS8.c.at_ hx8.1 hd8
 have zf:=Bk.free hS8.c
 have hSr:=hS8.Fn hx8.1 hd8 WA
 have hXr:cX ([r0,r1,r2,r3,r4,r5,r6,r7].set d WA):=hx8.put d rw0
 obtain⟨u0,u1,u2,u3,u4,u5,u6,u7,hu8'⟩:=cG hXr.1
 have hOr:So (x7.setCell ⟨w.heap.size+1,d,O⟩ (I Q WA)) b A 0 0 0:=Bk.off hO (p:=⟨w.heap.size+1,d,O⟩) (by show b≠w.heap.size+1;omega) _
 have hJr:Jb (x7.setCell ⟨w.heap.size+1,d,O⟩ (I Q WA)) (w.heap.size+1+1+1) _:=Bk.off hJ (p:=⟨w.heap.size+1,d,O⟩) (by show w.heap.size+1+1+1≠w.heap.size+1;omega) _
 have hsz8r:w.heap.size+4<=(x7.setCell ⟨w.heap.size+1,d,O⟩ (I Q WA)).heap.size:=Nat.le_trans hsz8 (cT x7 (w.heap.size+1) d (I Q WA)).size
 go_upto_region 42 with fail
 rw[hu8'] at hSr hXr
 have HU8:=S hu8'
 clear hu8'
 clear cd zf c0 c1 c2 c3 c4 c5 c6 c7 c8 e0 e1 e2 e3 e4 e5 e6 e7 hS8 hO hJ hsz8
 generalize x7.setCell ⟨w.heap.size+1,d,O⟩ (I Q WA)=xr at *
 have hJ:=hJr
 have hO:=hOr
 have hsz8:=hsz8r
 clear hJr hOr hsz8r
 obtain⟨c0,c1,c2,c3,c4,c5,c6,c7,c8⟩:=Rb.cells hSr.c
 obtain⟨e0,e1,e2,e3,e4,e5,e6,e7⟩:=hJ.cells
 simp only at e0 e1 e2 e3 e4 e5 e6 e7
 have hh2:=HH0.out
 rw[ec] at hh2
 simp only at hh2
 rw[Int.toNat_natCast] at hh2
 have HH1:=S hh2
 rw[<-HV3.out.2.1,<-HWA.out] at hh2
 have HH2:=S hh2
 have HK:=S (HAW.out.2 rfl)
 clear hh2
 obtain⟨bv,b1,bk⟩:∃ bv,(WA==VT)=bv/\(k2==1)=!bv:=by
  rcases HK.out.1 with hk | hk
  ·have hw:WA=VT:=by have h9:=HH2.out;rw[hk] at h9;simpa using h9
   exact⟨true,by simpa using hw,by rw[hk];rfl⟩
  ·have hw:¬ WA=VT:=by have h9:=HH2.out;rw[hk] at h9;simpa using h9
   exact⟨false,by simpa using hw,by rw[hk];rfl⟩
 cases bv
 all_goals (
  simp only[Bool.not_true,Bool.not_false] at bk
  have zf:=Bk.free hSr.c
  have hSp:=hSr.place rfl ((n:Int)+1)
  have hOp:So (xr.setCell ⟨w.heap.size+1,8,O⟩ (I Q ((n:Int)+1))) b A 0 0 0:=Bk.off hO (p:=⟨w.heap.size+1,8,O⟩) (by show b≠w.heap.size+1;omega) _
  go_upto_region 52 with fail
  generalize xr.setCell ⟨w.heap.size+1,8,O⟩ (I Q ((n:Int)+1))=v at *
  clear c0 c1 c2 c3 c4 c5 c6 c7 c8 zf hSr e0 e1 e2 e3 e4 e5 e6 e7 hJ hO
  obtain⟨c0,c1,c2,c3,c4,c5,c6,c7,c8⟩:=Rb.cells hSp.c
  obtain⟨q0,q1,q2,q3,q4,q5⟩:=hOp.cells
  have hR:Calls Tryz.prog 48 #[.pointer (Z ⟨Y.y,0,O⟩),I Q t,.agg #[I Q u0,I Q u1,I Q u2,I Q u3,I Q u4,I Q u5,I Q u6,I Q u7,I Q ((n:Int)+1)],.agg #[V O 0 0,I Q 0,I Q (A:Nat),I Q 0,I Q 0,I Q 0]] v (eF v { Y with ac:=wrap64 (Y.ac+1) } k BB):=by
   have h9:=BQ hSp.ey t ht ⟨[u0,u1,u2,u3,u4,u5,u6,u7],((n:Int)+1)⟩ hXr ⟨[],0,A,false,false,0⟩ _ rfl
   have hb:=HB.out
   rw[qe rfl,ec] at hb
   simp only[Int.toNat_natCast] at hb
   rw[if_pos HH1.out,<-HWA.out,HU8.out] at hb
   rw[hb]
   exact h9
  have st:=hSp.st
  have q02:=hSp.q
  have hf0:∀ i,({ Y with ac:=wrap64 (Y.ac+1) }:YP).Own k.n i->i≠w.heap.size:=fun i hi e=>by have:=hSp.mZ i hi;omega
  have hlt:w.heap.size<v.heap.size:=hSp.q.lt
  clear hOp
  go_wp2_with fail
  refine hR.mono ?_
  rintro e v5 ⟨mv,Y',rfl,hl5,h5,hs5⟩
  obtain⟨a9,c9,e9,-⟩:=hl5.is
  subst e9
  have q5:=Bk.within q02 hs5.1 (fun e=>hf0 _ e rfl)
  have st5:=st.aJ hs5
  have hfar:∀ i,Y'.Own k.n i->i≠w.heap.size:=fun i hi e=>by
   rcases hs5.2.1 i hi with e2 | e2
   ·exact hf0 i e2 e
   ·omega
  unfold ro
  obtain⟨x0,x1,x2,x3,x4,x5⟩:=q5.pd
  have zf:=Bk.free q5
  have o1:=ep q5 (V a9 BB.2.ms.length c9) (I Q BB.2.done) (I Q BB.2.addr) (I Q (aH BB.2.wrote)) (I Q (aH BB.2.stay)) (I Q BB.2.e)
  have o2:=bK (y:=v5) (g:=w.heap.size) (V a9 BB.2.ms.length c9) (I Q BB.2.done) (I Q BB.2.addr) (I Q (aH BB.2.wrote)) (I Q (aH BB.2.stay)) (I Q BB.2.e)
  have hC:=S (dj (Y:=Y) (r:=BB) hl5 h5 st5 q5 (by decide) o2 (R _) hfar)
  clear q02 hl5 h5 hs5 st5 st o2 hR hSp c0 c1 c2 c3 c4 c5 c6 c7 c8 q0 q1 q2 q3 q4 q5
  go_wp2_with (refine bodyPost_ret (v:=.agg #[V a9 BB.2.ms.length c9,I Q BB.2.done,I Q BB.2.addr,I Q (aH BB.2.wrote),I Q (aH BB.2.stay),I Q BB.2.e]) (w:=eH v5 w.heap.size (V a9 BB.2.ms.length c9) (I Q BB.2.done) (I Q BB.2.addr) (I Q (aH BB.2.wrote)) (I Q (aH BB.2.stay)) (I Q BB.2.e)) ?hres rfl ?hpost)
  case hpost=>exact hC.out
  case hres=>
   generalize eH v5 w.heap.size (V a9 BB.2.ms.length c9) (I Q BB.2.done) (I Q BB.2.addr) (I Q (aH BB.2.wrote)) (I Q (aH BB.2.stay)) (I Q BB.2.e)=v9 at *
   obtain⟨o0,o1,o2,o3,o4,o5⟩:=o1.pd
   simp[results,Tryz.results25,go_sem,o0,o1,o2,o3,o4,o5])
end
