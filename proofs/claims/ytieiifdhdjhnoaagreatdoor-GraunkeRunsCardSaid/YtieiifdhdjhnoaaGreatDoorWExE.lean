import Derived.Test.YtieiifdhdjhnoaaGreatDoorWExC
set_option linter.unusedVariables false
set_option maxHeartbeats 4000000
set_option maxRecDepth 100000
open Go.Value renaming int->I,slice->T,pointer->U
open Go.IntKind renaming i64->Q,u32->O
open Option renaming none->Z,some->V
open Bool renaming false->P
open Go.Obj renaming cells->K
open Go.Lib renaming hid->J
open Go.RowKit.Below renaming refl->H
open Nat renaming le_refl->G
open Go renaming undef->F
namespace Go.Proofs.YtieiifdhdjhnoaaGreatDoor
open Go.ChangeShapes Go.WideShapes Go.ChangeAt Go.RowKit
def FV (w:World)(X:XP)(k:Lk)(m:Mc)(c:kX)(r:Option Dn)(e:Ending)(w':World):Prop:=match r with
 | none=>e=.returned (.tuple #[cv c.xs c.pc,zP (T Z 0 0) eL])/\Below w.heap.size w w'
 | some r=>e=.returned (.tuple #[cv r.c.xs r.c.pc,zP (T Z 0 0) ⟨[],-1,r.addr,r.wrote,r.stay,0⟩])/\∃ M',Ex w' { X with M:=M' } k r.m/\bc w k.n X w' { X with M:=M' }
structure rC (x:World)(n b:Nat)(xs:List Int)(pc:Int)(i:aN):Prop where
 di:Ib x n i
 dr:Cb x (n+1) [0,0,0,0,0,0,0,0] 0
 de:Bk x (n+1+1) 61 #[T Z 0 0,I Q 0,I Q 0,.bool P,.bool P,I Q 0]
 dc:Cb x b xs pc
 lt:n+1+1<b
theorem rC.within {x y:World}{n b:Nat}{xs:List Int}{pc:Int}{i:aN}{S:Nat->Prop}(h:rC x n b xs pc i)(hw:ab x y S)(hn:∀ j,n<=j->j<x.heap.size->¬ S j):rC y n b xs pc i:=
 ⟨Bk.within h.di hw (hn _ (G _) (Bk.lt h.di)),Bk.within h.dr hw (hn _ (by omega) (Bk.lt h.dr)),h.de.within hw (hn _ (by omega) (Bk.lt h.de)),Bk.within h.dc hw (hn _ (by have:=h.lt;omega) (Bk.lt h.dc)),h.lt⟩
theorem rC.Cj {x:World}{n b:Nat}{xs:List Int}{pc:Int}{i:aN}(h:rC x n b xs pc i)(h8:xs.length=8){d:Nat}(hd:d<8)(v:Int):rC (x.setCell ⟨b,d,Z⟩ (I O v)) n b (xs.set d v) pc i:=by
 have hl:=h.lt
 exact⟨Bk.off h.di (p:=⟨b,d,Z⟩) (by show n≠b;omega) _,Bk.off h.dr (p:=⟨b,d,Z⟩) (by show n+1≠b;omega) _,Bk.off h.de (p:=⟨b,d,Z⟩) (by show n+1+1≠b;omega) _,h.dc.set h8 hd v,hl⟩
theorem rC.place {x:World}{n b:Nat}{r0 r1 r2 r3 r4 r5 r6 r7:Int}{pc:Int}{i:aN}(h:rC x n b [r0,r1,r2,r3,r4,r5,r6,r7] pc i)(v:Int):rC (x.setCell ⟨b,8,Z⟩ (I Q v)) n b [r0,r1,r2,r3,r4,r5,r6,r7] v i:=by
 have hl:=h.lt
 exact⟨Bk.off h.di (p:=⟨b,8,Z⟩) (by show n≠b;omega) _,Bk.off h.dr (p:=⟨b,8,Z⟩) (by show n+1≠b;omega) _,Bk.off h.de (p:=⟨b,8,Z⟩) (by show n+1+1≠b;omega) _,Bk.put h.dc 8 (I Q v),hl⟩
theorem rC.end_ {w y:World}{b:Nat}{xs0:List Int}{pc PC:Int}{i:aN}(hI:rC y w.heap.size b xs0 pc i){s0 s1 s2 s3 s4 s5 s6 s7:Int}{v0 v1 v2 v3 v4 v5:Value}:
 Cb (co (bn y (w.heap.size+1) (I O s0) (I O s1) (I O s2) (I O s3) (I O s4) (I O s5) (I O s6) (I O s7) (I Q PC)) (w.heap.size+1+1) v0 v1 v2 v3 v4 v5) (w.heap.size+1) [s0,s1,s2,s3,s4,s5,s6,s7] PC/\
 Bk (co (bn y (w.heap.size+1) (I O s0) (I O s1) (I O s2) (I O s3) (I O s4) (I O s5) (I O s6) (I O s7) (I Q PC)) (w.heap.size+1+1) v0 v1 v2 v3 v4 v5) (w.heap.size+1+1) 61 #[v0,v1,v2,v3,v4,v5]/\
 ab y (co (bn y (w.heap.size+1) (I O s0) (I O s1) (I O s2) (I O s3) (I O s4) (I O s5) (I O s6) (I O s7) (I Q PC)) (w.heap.size+1+1) v0 v1 v2 v3 v4 v5) (fun i=>w.heap.size<=i/\i<=b):=by
 have hbl:=hI.lt
 have hW1:=gp (y:=y) (g:=w.heap.size+1) (I O s0) (I O s1) (I O s2) (I O s3) (I O s4) (I O s5) (I O s6) (I O s7) (I Q PC)
 have h9:Cb (bn y (w.heap.size+1) (I O s0) (I O s1) (I O s2) (I O s3) (I O s4) (I O s5) (I O s6) (I O s7) (I Q PC)) (w.heap.size+1) [s0,s1,s2,s3,s4,s5,s6,s7] PC:=bz hI.dr (I O s0) (I O s1) (I O s2) (I O s3) (I O s4) (I O s5) (I O s6) (I O s7) (I Q PC)
 have h9':Bk (bn y (w.heap.size+1) (I O s0) (I O s1) (I O s2) (I O s3) (I O s4) (I O s5) (I O s6) (I O s7) (I Q PC)) (w.heap.size+1+1) _ _:=dX hI.de (by omega) (I O s0) (I O s1) (I O s2) (I O s3) (I O s4) (I O s5) (I O s6) (I O s7) (I Q PC)
 generalize bn y (w.heap.size+1) (I O s0) (I O s1) (I O s2) (I O s3) (I O s4) (I O s5) (I O s6) (I O s7) (I Q PC)=z1 at *
 have hW2:=bd (y:=z1) (g:=w.heap.size+1+1) v0 v1 v2 v3 v4 v5
 have r1:Cb (co z1 (w.heap.size+1+1) v0 v1 v2 v3 v4 v5) _ _ _:=mZ h9 (by omega) v0 v1 v2 v3 v4 v5
 have r2:=cm h9' v0 v1 v2 v3 v4 v5
 generalize co z1 (w.heap.size+1+1) v0 v1 v2 v3 v4 v5=z2 at *
 exact⟨r1,r2,(hW1.wide (fun i e _=>by omega)).bp (hW2.wide (fun i e _=>(by omega:w.heap.size<=i/\i<=b))) (fun i e=>.inl e)⟩
section
variable {w w':World}{X:XP}{k:Lk}{m:Mc}
theorem Bg {n each c:Nat}{free:Nat->List Nat}{gen out:List Int}{fr:Nat->List Int}{os:Int->Bool}(h:jx n each free gen out fr os c)(x:Int):F3 gen out x=Cl (n*each) gen out x:=by
 unfold F3 Cl
 rw[h.lenO]
 rfl
theorem qZ {n each c:Nat}{free:Nat->List Nat}{gen out:List Int}{fr:Nat->List Int}{os:Int->Bool}(h:jx n each free gen out fr os c){q:Nat}(hq:q<n*each):0<=kt gen q/\kt gen q<4294967296:=by
 have:=h.le
 obtain⟨f1,f2,_⟩:=iT h.gens (q:=q) (by omega)
 omega
theorem D1 (h:Ex w X k m)(t:Nat)(ht:t<k.n):
 Calls Tryz.prog 81 #[U (V ⟨X.pp,0,Z⟩),I Q t] w fun e w'=>e=.returned (.tuple #[I O (kV m.pn t).2,I Q 0])/\∃ M',Ex w' { X with M:=M' } k { m with pn:=(kV m.pn t).1 }/\bc w k.n X w' { X with M:=M' }:=by
 obtain⟨fr,os,c,hp,hs⟩:=h.dV
 unfold kV
 cases he:m.pn.free t with
 | nil=>
  have hfr:=hs.frs t ht
  rw[he] at hfr
  refine(sA hp t ht hfr).mono ?_
  rintro e w' ⟨rfl,rfl⟩
  exact⟨rfl,X.M,h,bc.refl _ _ _⟩
 | cons q rest=>
  obtain⟨hq,ho,hfr,hos,hs2⟩:=hs.take ht he
  have hw:=qZ hs hq
  have hc:c<1000000:=by
   have h1:=(mT hs.outs (k.n*k.each)).2
   have h2:=hs.cnt
   have h3:=hs.le
   omega
  refine(CP hp hc t ht hfr hw.1 hw.2 hos).mono ?_
  rintro e w' ⟨M',rfl,hp2,hst⟩
  exact⟨rfl,M',h.nodes hp hp2 hs2 hst,bc.nodes hst⟩
theorem D3 (h:Ex w X k m)(x:Int)(h0:0<=x)(h1:x<4294967296):
 Calls Tryz.prog 82 #[U (V ⟨X.pp,0,Z⟩),I O x] w fun e w'=>match pT k.each m.pn x with
  | none=>e=.returned (I Q 10)/\Below w.heap.size w w'
  | some p=>e=.returned (I Q 0)/\∃ M',Ex w' { X with M:=M' } k { m with pn:=p }/\bc w k.n X w' { X with M:=M' }:=by
 obtain⟨fr,os,c,hp,hs⟩:=h.dV
 unfold pT
 by_cases hz:x=0
 ·subst hz
  rw[if_pos rfl]
  refine AN.mono ?_
  rintro e w' ⟨rfl,rfl⟩
  exact⟨rfl,X.M,h,bc.refl _ _ _⟩
 ·rw[if_neg hz,Bg hs,<-hs.oss x h0 h1]
  cases hos:os x with
  | false=>
   refine(xG hp x h0 h1 hos hz).mono ?_
   rintro e w' ⟨rfl,j,rfl⟩
   exact⟨rfl,Go.below_drewN (H _ _) j⟩
  | true=>
   obtain⟨t,i,ht,hi,hn,hl,hc,hs2⟩:=hs.back h0 h1 hos
   refine(CQ hp x h0 h1 hos hi ht hn hl).mono ?_
   rintro e w' ⟨M',rfl,hp2,hst⟩
   have e1:(x % 4096-1).toNat=t*k.each+i:=by omega
   have e2:(t*k.each+i) / k.each=t:=by rw[Nat.mul_comm,Nat.mul_add_div (by omega),Nat.div_eq_of_lt hi,Nat.add_zero]
   simp only[if_true,e1,e2]
   exact⟨trivial,M',h.nodes hp hp2 hs2 hst,bc.nodes hst⟩
theorem Ex.ir {n b:Nat}(h:Ex w X k m)(hw:ab w w' (fun i=>n<=i/\i<=b))(hn:∀ i,X.Own k.n i->i<n\/b<i):Ex w' X k m:=h.kept hw fun i hi e=>by have:=hn i hi;omega
theorem bc.ir {n N b:Nat}{v:World}{X':XP}(h:bc v N X w X')(hw:ab w w' (fun i=>n<=i/\i<=b))(hn:v.heap.size<=n):bc v N X w' X':=
 ⟨h.1.bp hw (fun i e=>.inr (by omega)),h.2.1,h.2.2⟩
def F2 (w:World)(b:Nat)(xs:List Int)(pc:Int)(i:aN)(cs:List Value):Nat->World->Prop
 | 0,W=>rC W w.heap.size b xs pc i/\Below w.heap.size w W
 | 1,W=>Bk W (w.heap.size+1) 107 cs.toArray/\Bk W (w.heap.size+1+1) 61 #[T Z 0 0,I Q 0,I Q 0,.bool P,.bool P,I Q 0]/\Below w.heap.size w W
 | _,W=>Bk W (w.heap.size+1) 107 cs.toArray/\Bk W (w.heap.size+1+1) 61 #[T Z 0 0,I Q (-1),I Q (-1),.bool P,.bool P,I Q 11]/\Below w.heap.size w W
theorem oJ {w W W':World}{b:Nat}{xs:List Int}{pc:Int}{i:aN}{cs:List Value}{k:Nat}(h:F2 w b xs pc i cs k W)(hb:Below W.heap.size W W'):F2 w b xs pc i cs k W':=by
 match k,h with
 | 0,h=>exact⟨h.1.within (ay hb) (by simp),h.2.trans (hb.mono h.2.size)⟩
 | 1,h=>exact⟨(hb.block _ h.1.lt).trans h.1,(hb.block _ h.2.1.lt).trans h.2.1,h.2.2.trans (hb.mono h.2.2.size)⟩
 | _+2,h=>exact⟨(hb.block _ (Bk.lt h.1)).trans h.1,(hb.block _ (Bk.lt h.2.1)).trans h.2.1,h.2.2.trans (hb.mono h.2.2.size)⟩
theorem Ca {w W:World}{b:Nat}{xs:List Int}{pc:Int}{i:aN}(h:rC W w.heap.size b xs pc i/\Below w.heap.size w W)(v0 v1 v2 v3 v4 v5 v6 v7 v8:Value):
 Bk (bn W (w.heap.size+1) v0 v1 v2 v3 v4 v5 v6 v7 v8) (w.heap.size+1) 107 #[v0,v1,v2,v3,v4,v5,v6,v7,v8]/\Bk (bn W (w.heap.size+1) v0 v1 v2 v3 v4 v5 v6 v7 v8) (w.heap.size+1+1) 61 #[T Z 0 0,I Q 0,I Q 0,.bool P,.bool P,I Q 0]/\Below w.heap.size w (bn W (w.heap.size+1) v0 v1 v2 v3 v4 v5 v6 v7 v8):=
 ⟨bz h.1.dr v0 v1 v2 v3 v4 v5 v6 v7 v8,dX h.1.de (by omega) v0 v1 v2 v3 v4 v5 v6 v7 v8,ba h.2 (by omega) v0 v1 v2 v3 v4 v5 v6 v7 v8⟩
theorem B9 {w W:World}{cs:Array Value}{x0 x1 x2 x3 x4 x5:Value}(h:Bk W (w.heap.size+1) 107 cs/\Bk W (w.heap.size+1+1) 61 #[x0,x1,x2,x3,x4,x5]/\Below w.heap.size w W)(v0 v1 v2 v3 v4 v5:Value):
 Bk (co W (w.heap.size+1+1) v0 v1 v2 v3 v4 v5) (w.heap.size+1) 107 cs/\Bk (co W (w.heap.size+1+1) v0 v1 v2 v3 v4 v5) (w.heap.size+1+1) 61 #[v0,v1,v2,v3,v4,v5]/\Below w.heap.size w (co W (w.heap.size+1+1) v0 v1 v2 v3 v4 v5):=
 ⟨mZ h.1 (by omega) v0 v1 v2 v3 v4 v5,cm h.2.1 v0 v1 v2 v3 v4 v5,sx h.2.2 (by omega) v0 v1 v2 v3 v4 v5⟩
def F4 (w:World)(X:XP)(k:Lk)(b:Nat)(pc:Int)(i:aN)(R:Option Dn)(y:World):Prop:=
 ∃ M' m' xs',xs'.length=8/\rC y w.heap.size b xs' pc i/\Ex y { X with M:=M' } k m'/\bc w k.n X y { X with M:=M' }/\(∀ j,XP.Own { X with M:=M' } k.n j->j<w.heap.size\/b<j)/\Hid (R=V ⟨m',⟨xs',pc+1⟩,-1,P,P⟩)
theorem F6 (h:Ex w X k m)(t:Nat)(ht:t<k.n)(i:aN)(late:Bool)(hm:iq k (m.cs t).pc=V i):
 Calls Tryz.prog 50 #[U (V ⟨X.x,0,Z⟩),I Q t,iv i,.bool late] w (FV w X k m (m.cs t) (Cc k m t (m.cs t) late i)):=by
 have hf:=h.lk.n64
 have hi:=h.lk.DS hm
 obtain⟨hp0,hp1,-,-⟩:=fg hm
 have hl:=h.lk.parts.2.1
 have hx:=h.mc.cs t ht
 have HE8:=J hx
 obtain⟨r0,r1,r2,r3,r4,r5,r6,r7,pc,ec⟩:=h.bA ht
 rw[ec] at hp0 hp1 hx ⊢
 simp only at hp0 hp1 hx
 have hd:=hi.d
 have hs:=hi.s
 obtain⟨op,d,s,t',u,a',k',pl⟩:=i
 simp only at hd hs
 obtain⟨dn,rfl⟩:∃ n:Nat,d=n:=⟨d.toNat,by omega⟩
 obtain⟨sn,rfl⟩:∃ n:Nat,s=n:=⟨s.toNat,by omega⟩
 have hd8:dn<8:=by omega
 have hs8:sn<8:=by omega
 have hS32:=hx.2.at_ sn
 have hHI:=J hi
 obtain⟨R,hR⟩:∃ R,R=Cc k m t ⟨[r0,r1,r2,r3,r4,r5,r6,r7],pc⟩ late ⟨op,dn,sn,t',u,a',k',pl⟩:=⟨_,rfl⟩
 rw[<-hR]
 have HR:=J hR
 clear hR
 have q0:=Ib.made w op dn sn t' u a' k' pl
 have q1:=Cb.made (w.alloc (K #[I Q op,I Q dn,I Q sn,I Q t',I Q u,I Q a',I O k',I Q pl] 117)) [0,0,0,0,0,0,0,0] 0
 have q2:=Bk.made ((w.alloc (K #[I Q op,I Q dn,I Q sn,I Q t',I Q u,I Q a',I O k',I Q pl] 117)).alloc (K (bP [0,0,0,0,0,0,0,0] 0).toArray 107)) 61 #[T Z 0 0,I Q 0,I Q 0,.bool P,.bool P,I Q 0]
 simp only[World.size_alloc] at q1 q2
 have b0:Below w.heap.size w (((w.alloc (K #[I Q op,I Q dn,I Q sn,I Q t',I Q u,I Q a',I O k',I Q pl] 117)).alloc (K (bP [0,0,0,0,0,0,0,0] 0).toArray 107)).alloc (K #[T Z 0 0,I Q 0,I Q 0,.bool P,.bool P,I Q 0] 61)):=(((H _ _).alloc (G _) _).alloc (by simp) _).alloc (by simp;omega) _
 replace q0:=Bk.alloc (Bk.alloc q0 (K (bP [0,0,0,0,0,0,0,0] 0).toArray 107)) (K #[T Z 0 0,I Q 0,I Q 0,.bool P,.bool P,I Q 0] 61)
 replace q1:=Bk.alloc q1 (K #[T Z 0 0,I Q 0,I Q 0,.bool P,.bool P,I Q 0] 61)
 unfold iv
 simp only[bP,List.map_cons,List.map_nil,List.cons_append,List.nil_append] at q0 q1 q2 b0 ⊢
 go_enter Tryz.func50,Tryz.ntmps50
 go_upto_region 1 with fail
 generalize (((w.alloc (K #[I Q op,I Q dn,I Q sn,I Q t',I Q u,I Q a',I O k',I Q pl] 117)).alloc (K #[I O 0,I O 0,I O 0,I O 0,I O 0,I O 0,I O 0,I O 0,I Q 0] 107)).alloc (K #[T Z 0 0,I Q 0,I Q 0,.bool P,.bool P,I Q 0] 61))=x at *
 have h2:=h.below b0
 have c5:=h2.c5
 obtain⟨c0,c1,c2,c3,c4,c5',c6,c7,c8⟩:=h2.core ht ec
 go_upto_region 2 with fail
 have hI:rC (x.alloc (K #[I O r0,I O r1,I O r2,I O r3,I O r4,I O r5,I O r6,I O r7,I Q pc] 107)) w.heap.size x.heap.size [r0,r1,r2,r3,r4,r5,r6,r7] pc ⟨op,dn,sn,t',u,a',k',pl⟩:=
  ⟨Bk.alloc q0 _,Bk.alloc q1 _,Bk.alloc q2 _,Cb.made x [r0,r1,r2,r3,r4,r5,r6,r7] pc,q2.lt⟩
 replace b0:=b0.alloc (o:=K #[I O r0,I O r1,I O r2,I O r3,I O r4,I O r5,I O r6,I O r7,I Q pc] 107) b0.size
 clear q0 q1 q2 h2 c0 c1 c2 c3 c4 c5 c5' c6 c7 c8
 generalize x.heap.size=b at *
 generalize x.alloc (K #[I O r0,I O r1,I O r2,I O r3,I O r4,I O r5,I O r6,I O r7,I Q pc] 107)=y at *
 have h2:=h.below b0
 obtain⟨e0,e1,e2,e3,e4,e5,e6,e7⟩:=hI.di.cells
 simp only at e0 e1 e2 e3 e4 e5 e6 e7
 have cS:=hI.dc.at_ rfl hs8
 have x3:=h2.c3
 have x4:=h2.c4
 generalize hSe:aF [r0,r1,r2,r3,r4,r5,r6,r7] sn=S at *
 have ES:=J hSe
 clear hSe
 have hHas:∀ j,w.heap.size<=j->¬ X.Has k.n j:=fun j hj e=>by have:=h.lt (XP.i4 e);omega
 have hOwn:∀ j,X.Own k.n j->j<w.heap.size:=fun j e=>h.lt e
 have hby:b<y.heap.size:=Bk.lt hI.dc
 have hbl:=hI.lt
 have HX:=J h
 have HX2:=J h2
 have hdi0:(0:Int)<=dn:=by omega
 have hdi1:(dn:Int)<8:=by omega
 have hsi0:(0:Int)<=sn:=by omega
 have hsi1:(sn:Int)<8:=by omega
 have kx:∀ (W:World) (u:Value) (i j:Nat),(W.setCell ⟨b,i,Z⟩ u).cell? ⟨X.x,j,Z⟩=W.cell? ⟨X.x,j,Z⟩:=fun W u i j=>bY (by have:=h.ptr.lt;omega)
 have kn:∀ (W:World) (u:Value) (i j:Nat),(W.setCell ⟨b,i,Z⟩ u).cell? ⟨w.heap.size,j,Z⟩=W.cell? ⟨w.heap.size,j,Z⟩:=fun W u i j=>bY (by omega)
 have hw1:Hid (wrap64 (pc+1)=pc+1):=J (IntWalk.wrap64_in _ (by omega))
 have hpp:Hid (0<=pc/\pc<1000):=J (by omega)
 have hBB:=J b0
 have hII:=J hI
 have hLL:=J (And.intro hby hbl)
 clear h h2 hp0 hp1 hl hd hs b0 hby hbl hx
 go_upto_block 0 with fail
 go_cut [10] (fun v wx=>v=U (V ⟨b,0,Z⟩)/\F4 w X k b pc ⟨op,dn,sn,t',u,a',k',pl⟩ R wx)
 case first=>
  by_cases h22:op=22
  ·subst h22
   have hT:=J (D1 (HX2.out.below (Go.below_drewN (H _ _) 1)) t ht)
   have cD:=hI.dc.at_ rfl hd8
   have zf:=Bk.free hI.dc
   go_upto_region 8 with fail
   clear hI
   generalize aF [r0,r1,r2,r3,r4,r5,r6,r7] dn=VD at *
   go_region_held3 (fun W=>W.cell? ⟨X.x,4,Z⟩=V (U (V ⟨X.pp,0,Z⟩))/\W.cell? ⟨w.heap.size,1,Z⟩=V (I Q dn)) (first | (exact⟨x4,e1⟩) | (exact⟨f1,f2⟩) | go_keep)
    (first | (go_at_call 81;refine hT.out.mono ?_;rintro e w4 ⟨rfl,M',hX4,hS4⟩;have hI4:rC w4 w.heap.size b _ _ _:=(hII.out.within ((ab.refl y (fun _=>False)).dg 1) (by simp)).within hS4.1 (fun j hj _=>hHas j hj);have f1:w4.cell? ⟨X.x,4,Z⟩=V (U (V ⟨X.pp,0,Z⟩)):=hX4.c4;have f2:w4.cell? ⟨w.heap.size,1,Z⟩=V (I Q dn):=(hI4.di.cells).2.1;have f4:=hI4.dc.at_ rfl hd8;have f5:=Bk.free hI4.dc))
   all_goals (
    have GM:Hid (F4 w X k b pc ⟨22,dn,sn,t',u,a',k',pl⟩ R (w4.setCell ⟨b,dn,Z⟩ (I O (kV m.pn t).2))):=J (by
     have hfar:ab w4 (w4.setCell ⟨b,dn,Z⟩ (I O (kV m.pn t).2)) (fun i=>w.heap.size<=i/\i<=b):=(ab.refl _ _).put _ _ _ (.inl ⟨by have:=hLL.out.2;omega,G _⟩)
     have hown:∀ j,XP.Own { X with M:=M' } k.n j->j<w.heap.size\/b<j:=fun j hj=>by
      rcases hS4.2.1 j hj with e | e
      ·exact .inl (hOwn j e)
      ·have:=hLL.out.1;exact .inr (Nat.lt_of_lt_of_le this e)
     refine⟨M',_,_,by simp,hI4.Cj rfl hd8 _,hX4.ir hfar hown,((bc.az (hBB.out.trans ((Go.below_drewN (H _ _) 1).mono hBB.out.size))).bp hS4).ir hfar (G _),hown,J ?_⟩
     rw[HR.out]
     simp only[Cc]
     simp)
    clear f1 f2 f4 f5 hX4 hS4 hI4 x3 x4 e0 e1 e2 e3 e4 e5 e6 e7 cS kx kn
    go_wp2
    go_meet
    case rel=>exact⟨rfl,GM.out⟩)
  ·by_cases h23:op=23
   ·subst h23
    have hFr:=J (D3 (HX2.out.below (Go.below_drewN (H _ _) 1)) S hS32.1 hS32.2)
    go_upto_region 10 with fail
    clear hI
    cases hbk:pT k.each m.pn S with
    | none=>
     rw[hbk] at hFr
     simp only at hFr
     have HNo:Hid (R=Z):=J (by rw[HR.out];simp only[Cc];simp[ES.out,hbk])
     go_region_held3 (fun W=>W.cell? ⟨X.x,4,Z⟩=V (U (V ⟨X.pp,0,Z⟩))/\W.cell? ⟨w.heap.size,2,Z⟩=V (I Q sn)/\W.cell? ⟨b,sn,Z⟩=V (I O S)) (first | (exact⟨x4,e2,cS⟩) | (exact⟨f1,f2,f3⟩) | go_keep)
      (first | (go_at_call 82;refine hFr.out.mono ?_;rintro e w5 ⟨rfl,hb5⟩;have hI9:rC w5 w.heap.size b _ _ _:=hII.out.within (ay (dj hb5)) (by simp);have f1:w5.cell? ⟨X.x,4,Z⟩=V (U (V ⟨X.pp,0,Z⟩)):=(HX2.out.below (dj hb5)).c4;have f2:w5.cell? ⟨w.heap.size,2,Z⟩=V (I Q sn):=(hI9.di.cells).2.2.1;have f3:w5.cell? ⟨b,sn,Z⟩=V (I O S):=by rw[<-ES.out];exact hI9.dc.at_ rfl hs8))
     all_goals (
      have hB9:Below w.heap.size w w5:=hBB.out.trans ((dj hb5).mono hBB.out.size)
      clear f1 f2 f3 hb5 hbk hFr
      go_upto_region 12 with fail
      have hTr:=J (fun W=>zE W)
      unfold zP eL at hTr
      simp only at hTr
      have hD0:rC w5 w.heap.size b [r0,r1,r2,r3,r4,r5,r6,r7] pc ⟨23,dn,sn,t',u,a',k',pl⟩/\Below w.heap.size w w5:=⟨hI9,hB9⟩
      clear hI9 hB9
      refine cg [2,3] (F2 w b [r0,r1,r2,r3,r4,r5,r6,r7] pc ⟨23,dn,sn,t',u,a',k',pl⟩ [I O r0,I O r1,I O r2,I O r3,I O r4,I O r5,I O r6,I O r7,I Q pc]) (fun _ _ _=>True) (fun vs=>{ tmps:=#[U (V ⟨X.x,0,Z⟩),I Q (t:Int),.agg #[I Q 23,I Q (dn:Int),I Q (sn:Int),I Q t',I Q u,I Q a',I O k',I Q pl],.bool late,F,F,U (V ⟨w.heap.size,0,Z⟩),F,U (V ⟨w.heap.size+1,0,Z⟩),U (V ⟨w.heap.size+1+1,0,Z⟩),U (V ⟨b,0,Z⟩),I Q 10,F,F,U (V ⟨X.x,0,Z⟩),U (V ⟨X.x,0,Z⟩),U (V ⟨X.x,5,Z⟩),T (V ⟨X.kb,0,Z⟩) k.n k.n,I Q (t:Int),U (V ⟨X.kb,t*9,Z⟩),.agg #[I O r0,I O r1,I O r2,I O r3,I O r4,I O r5,I O r6,I O r7,I Q pc],U (V ⟨w.heap.size,0,Z⟩),I Q 23,F,F,F,F,F,F,F,F,F,F,F,F,F,F,F,F,F,F,F,F,F,F,F,F,F,F,F,.bool P,.bool P,F,F,F,F,F,F,F,F,F,F,F,F,F,.bool true,.bool true,U (V ⟨X.x,0,Z⟩),U (V ⟨X.x,0,Z⟩),U (V ⟨X.x,4,Z⟩),U (V ⟨X.pp,0,Z⟩),U (V ⟨w.heap.size,2,Z⟩),I Q (sn:Int),U (V ⟨b,0,Z⟩),U (V ⟨b,sn,Z⟩),I O S,I Q 10,I Q 10,.bool true,vs 0,vs 1,F,F,F,F,F,F],defers:=[] }) (oP [.agg #[I O r0,I O r1,I O r2,I O r3,I O r4,I O r5,I O r6,I O r7,I Q pc],.agg #[T Z 0 0,I Q (-1),I Q (-1),.bool P,.bool P,I Q 11],F,F]) ?ghm ?ghr ?ghc ?ghnd ?ghlit ?gh0 ?ghW ?ghF ?ghS ?gops ?gdone
      case ghm=>kernel_rfl
      case ghr=>kernel_rfl
      case ghc=>kernel_rfl
      case ghnd=>decide
      case ghlit=>intro vs;rfl
      case gh0=>exact hD0
      case ghW=>exact fun k W W2 h hb=>oJ h hb
      case ghF=>exact df
      case ghS=>exact fun k W W2 _ _ i v h=>h
      case gops=>
       refine⟨?_,?_,?_,?_,trivial⟩
       ·intro vs W k h1 h2 hW hd
        obtain rfl:k=0:=Nat.le_zero.1 h2
        refine aa rfl ?_
        obtain⟨j1,-⟩:rC W w.heap.size b [r0,r1,r2,r3,r4,r5,r6,r7] pc ⟨23,dn,sn,t',u,a',k',pl⟩/\Below w.heap.size w W:=id hW;obtain⟨c0,c1,c2,c3,c4,c5,c6,c7,c8⟩:=j1.dc.cells;obtain⟨z0,z1,z2,z3,z4,z5,z6,z7,z8⟩:=j1.dr.cells;have zf:=Bk.free j1.dr;clear j1
        clear hd
        go_simp
        exact⟨rfl,H _ _⟩
       ·intro vs W k h1 h2 hW hd
        obtain rfl:k=0:=Nat.le_zero.1 h2
        refine aa rfl ?_
        clear hd
        go_simp
        refine(hTr.out _).mono ?_
        rintro e z ⟨rfl,hz⟩
        exact⟨_,rfl,rfl,hz⟩
       ·intro vs W hW hd
        have e0:vs 0=.agg #[I O r0,I O r1,I O r2,I O r3,I O r4,I O r5,I O r6,I O r7,I Q pc]:=hd 0 (by decide)
        obtain⟨j1,-⟩:rC W w.heap.size b [r0,r1,r2,r3,r4,r5,r6,r7] pc ⟨23,dn,sn,t',u,a',k',pl⟩/\Below w.heap.size w W:=id hW;obtain⟨c0,c1,c2,c3,c4,c5,c6,c7,c8⟩:=j1.dc.cells;obtain⟨z0,z1,z2,z3,z4,z5,z6,z7,z8⟩:=j1.dr.cells;have zf:=Bk.free j1.dr;clear j1
        refine aM rfl ?_
        clear hd
        go_simp
        exact⟨rfl,Ca hW (I O r0) (I O r1) (I O r2) (I O r3) (I O r4) (I O r5) (I O r6) (I O r7) (I Q pc)⟩
       ·intro vs W hW hd
        have e1:vs 1=.agg #[T Z 0 0,I Q (-1),I Q (-1),.bool P,.bool P,I Q 11]:=hd 1 (by decide)
        obtain⟨-,j2,-⟩:Bk W (w.heap.size+1) 107 #[I O r0,I O r1,I O r2,I O r3,I O r4,I O r5,I O r6,I O r7,I Q pc]/\Bk W (w.heap.size+1+1) 61 #[T Z 0 0,I Q 0,I Q 0,.bool P,.bool P,I Q 0]/\Below w.heap.size w W:=id hW;obtain⟨z0,z1,z2,z3,z4,z5⟩:=j2.gS;have zf:=Bk.free j2;clear j2
        refine aM rfl ?_
        clear hd
        go_simp
        exact⟨rfl,B9 hW _ _ _ _ _ _⟩
      case gdone=>
       intro vs W hW hf
       have f0:vs 0=.agg #[I O r0,I O r1,I O r2,I O r3,I O r4,I O r5,I O r6,I O r7,I Q pc]:=hf 0 (by decide)
       have f1:vs 1=.agg #[T Z 0 0,I Q (-1),I Q (-1),.bool P,.bool P,I Q 11]:=hf 1 (by decide)
       simp only[f0,f1]
       clear f0 f1 hf
       obtain⟨p1,p2,p3⟩:Bk W (w.heap.size+1) 107 #[I O r0,I O r1,I O r2,I O r3,I O r4,I O r5,I O r6,I O r7,I Q pc]/\Bk W (w.heap.size+1+1) 61 #[(T Z 0 0),I Q (-1),I Q (-1),.bool P,.bool P,I Q 11]/\Below w.heap.size w W:=id hW
       have HBE:=J p3
       clear hW p3 hD0 hTr
       obtain⟨c0,c1,c2,c3,c4,c5,c6,c7,c8⟩:=Cb.cells (r0:=r0) (r1:=r1) (r2:=r2) (r3:=r3) (r4:=r4) (r5:=r5) (r6:=r6) (r7:=r7) (pc:=pc) p1
       obtain⟨o0,o1,o2,o3,o4,o5⟩:=p2.gS
       go_wp
       exact bodyPost_ret (v:=.tuple #[.agg #[I O r0,I O r1,I O r2,I O r3,I O r4,I O r5,I O r6,I O r7,I Q pc],.agg #[(T Z 0 0),I Q (-1),I Q (-1),.bool P,.bool P,I Q 11]]) (by simp[results,Tryz.results50,go_sem,c0,c1,c2,c3,c4,c5,c6,c7,c8,o0,o1,o2,o3,o4,o5]) rfl (by rw[HNo.out];exact⟨rfl,HBE.out⟩))
    | some pn'=>
     rw[hbk] at hFr
     simp only at hFr
     go_region_held3 (fun W=>W.cell? ⟨X.x,4,Z⟩=V (U (V ⟨X.pp,0,Z⟩))/\W.cell? ⟨w.heap.size,2,Z⟩=V (I Q sn)/\W.cell? ⟨b,sn,Z⟩=V (I O S)) (first | (exact⟨x4,e2,cS⟩) | (exact⟨f1,f2,f3⟩) | go_keep)
      (first | (go_at_call 82;refine hFr.out.mono ?_;rintro e w4 ⟨rfl,M',hX4,hS4⟩;have hI4:rC w4 w.heap.size b _ _ _:=(hII.out.within ((ab.refl y (fun _=>False)).dg 1) (by simp)).within hS4.1 (fun j hj _=>hHas j hj);have f1:w4.cell? ⟨X.x,4,Z⟩=V (U (V ⟨X.pp,0,Z⟩)):=hX4.c4;have f2:w4.cell? ⟨w.heap.size,2,Z⟩=V (I Q sn):=(hI4.di.cells).2.2.1;have f3:w4.cell? ⟨b,sn,Z⟩=V (I O S):=by rw[<-ES.out];exact hI4.dc.at_ rfl hs8))
     all_goals (
      have GM:Hid (F4 w X k b pc ⟨23,dn,sn,t',u,a',k',pl⟩ R w4):=J (by
       have hown:∀ j,XP.Own { X with M:=M' } k.n j->j<w.heap.size\/b<j:=fun j hj=>by
        rcases hS4.2.1 j hj with e | e
        ·exact .inl (hOwn j e)
        ·have:=hLL.out.1;exact .inr (Nat.lt_of_lt_of_le this e)
       refine⟨M',_,[r0,r1,r2,r3,r4,r5,r6,r7],rfl,hI4,hX4,(bc.az (hBB.out.trans ((Go.below_drewN (H _ _) 1).mono hBB.out.size))).bp hS4,hown,J ?_⟩
       rw[HR.out]
       simp only[Cc]
       simp[ES.out,hbk])
      clear f1 f2 f3 hX4 hS4 hI4 x3 x4 e0 e1 e2 e3 e4 e5 e6 e7 cS kx kn hbk hFr
      go_wp2
      go_meet
      case rel=>exact⟨rfl,GM.out⟩)
   ·have hn22:(op==22)=P:=by simpa using h22
    have hn23:(op==23)=P:=by simpa using h23
    have HN:=J (And.intro h22 h23)
    clear h22 h23 hI
    cases hfm:fc k.zs a' S with
    | none=>
     have HNo:Hid (R=Z):=J (by
      rw[HR.out]
      simp only[Cc,if_neg HN.out.1,if_neg HN.out.2]
      simp[ES.out,hfm])
     have hAd:Hid (∀ W,Mm W X.p X.q X.g X.s k.zs m.ws->Calls Tryz.prog 83 #[U (V ⟨X.p,0,Z⟩),I Q a',I O S] W fun e w'=>e=.returned (.tuple #[I Q 0,.bool P])/\w'=W):=J fun W hW=>(tA hW a' S hS32.1 hS32.2 (by
      unfold fc at hfm
      split at hfm
      ·cases hfm
      ·omega)).mono fun _ _ ⟨q1,q2⟩=>⟨q1,q2.symm⟩
     have hMm:=J HX2.out.mem
     clear hfm
     go_upto_region 3 with fail
     go_quiet ((go_at_call 83;exact Calls.quiet_of_same (hAd.out _ (hMm.out.drewN _))))
     have hI9:=hII.out.within ((ab.refl y (fun _=>False)).dg nq) (by simp)
     have hB9:=Go.below_drewN hBB.out nq
     clear x3 x4 e0 e1 e2 e3 e4 e5 e6 e7 cS kx hAd hMm
     generalize y.drewN nq=y5 at *
     go_upto_region 5 with fail
     have hTr:=J (fun W=>zE W)
     unfold zP eL at hTr
     simp only at hTr
     have hD0:rC y5 w.heap.size b [r0,r1,r2,r3,r4,r5,r6,r7] pc ⟨op,dn,sn,t',u,a',k',pl⟩/\Below w.heap.size w y5:=⟨hI9,hB9⟩
     clear hI9 hB9
     refine cg [2,3] (F2 w b [r0,r1,r2,r3,r4,r5,r6,r7] pc ⟨op,dn,sn,t',u,a',k',pl⟩ [I O r0,I O r1,I O r2,I O r3,I O r4,I O r5,I O r6,I O r7,I Q pc]) (fun _ _ _=>True) (fun vs=>{ tmps:=#[U (V ⟨X.x,0,Z⟩),I Q (t:Int),.agg #[I Q op,I Q (dn:Int),I Q (sn:Int),I Q t',I Q u,I Q a',I O k',I Q pl],.bool late,F,F,U (V ⟨w.heap.size,0,Z⟩),F,U (V ⟨w.heap.size+1,0,Z⟩),U (V ⟨w.heap.size+1+1,0,Z⟩),U (V ⟨b,0,Z⟩),F,I Q 0,.bool P,U (V ⟨X.x,0,Z⟩),U (V ⟨X.x,0,Z⟩),U (V ⟨X.x,5,Z⟩),T (V ⟨X.kb,0,Z⟩) k.n k.n,I Q (t:Int),U (V ⟨X.kb,t*9,Z⟩),.agg #[I O r0,I O r1,I O r2,I O r3,I O r4,I O r5,I O r6,I O r7,I Q pc],U (V ⟨w.heap.size,0,Z⟩),I Q op,.tuple #[I Q 0,.bool P],U (V ⟨X.x,0,Z⟩),U (V ⟨X.x,0,Z⟩),U (V ⟨X.x,3,Z⟩),U (V ⟨X.p,0,Z⟩),U (V ⟨w.heap.size,5,Z⟩),I Q a',U (V ⟨w.heap.size,2,Z⟩),I Q (sn:Int),U (V ⟨b,0,Z⟩),U (V ⟨b,sn,Z⟩),I O S,.tuple #[I Q 0,.bool P],I Q 0,.bool P,.bool P,.bool true,vs 0,vs 1,F,F,F,F,F,F,F,F,.bool P,.bool P,F,F,F,F,F,F,F,F,F,F,F,F,F,.bool P,.bool P,F,F,F,F,F,F,F,F,F,F,F,F,F,F,F,F,F,F,F,F],defers:=[] }) (oP [.agg #[I O r0,I O r1,I O r2,I O r3,I O r4,I O r5,I O r6,I O r7,I Q pc],.agg #[T Z 0 0,I Q (-1),I Q (-1),.bool P,.bool P,I Q 11],F,F]) ?ghm ?ghr ?ghc ?ghnd ?ghlit ?gh0 ?ghW ?ghF ?ghS ?gops ?gdone
     case ghm=>kernel_rfl
     case ghr=>kernel_rfl
     case ghc=>kernel_rfl
     case ghnd=>decide
     case ghlit=>intro vs;rfl
     case gh0=>exact hD0
     case ghW=>exact fun k W W2 h hb=>oJ h hb
     case ghF=>exact df
     case ghS=>exact fun k W W2 _ _ i v h=>h
     case gops=>
      refine⟨?_,?_,?_,?_,trivial⟩
      ·intro vs W k h1 h2 hW hd
       obtain rfl:k=0:=Nat.le_zero.1 h2
       refine aa rfl ?_
       obtain⟨j1,-⟩:rC W w.heap.size b [r0,r1,r2,r3,r4,r5,r6,r7] pc ⟨op,dn,sn,t',u,a',k',pl⟩/\Below w.heap.size w W:=id hW;obtain⟨c0,c1,c2,c3,c4,c5,c6,c7,c8⟩:=j1.dc.cells;obtain⟨z0,z1,z2,z3,z4,z5,z6,z7,z8⟩:=j1.dr.cells;have zf:=Bk.free j1.dr;clear j1
       clear hd
       go_simp
       exact⟨rfl,H _ _⟩
      ·intro vs W k h1 h2 hW hd
       obtain rfl:k=0:=Nat.le_zero.1 h2
       refine aa rfl ?_
       clear hd
       go_simp
       refine(hTr.out _).mono ?_
       rintro e z ⟨rfl,hz⟩
       exact⟨_,rfl,rfl,hz⟩
      ·intro vs W hW hd
       have e0:vs 0=.agg #[I O r0,I O r1,I O r2,I O r3,I O r4,I O r5,I O r6,I O r7,I Q pc]:=hd 0 (by decide)
       obtain⟨j1,-⟩:rC W w.heap.size b [r0,r1,r2,r3,r4,r5,r6,r7] pc ⟨op,dn,sn,t',u,a',k',pl⟩/\Below w.heap.size w W:=id hW;obtain⟨c0,c1,c2,c3,c4,c5,c6,c7,c8⟩:=j1.dc.cells;obtain⟨z0,z1,z2,z3,z4,z5,z6,z7,z8⟩:=j1.dr.cells;have zf:=Bk.free j1.dr;clear j1
       refine aM rfl ?_
       clear hd
       go_simp
       exact⟨rfl,Ca hW (I O r0) (I O r1) (I O r2) (I O r3) (I O r4) (I O r5) (I O r6) (I O r7) (I Q pc)⟩
      ·intro vs W hW hd
       have e1:vs 1=.agg #[T Z 0 0,I Q (-1),I Q (-1),.bool P,.bool P,I Q 11]:=hd 1 (by decide)
       obtain⟨-,j2,-⟩:Bk W (w.heap.size+1) 107 #[I O r0,I O r1,I O r2,I O r3,I O r4,I O r5,I O r6,I O r7,I Q pc]/\Bk W (w.heap.size+1+1) 61 #[T Z 0 0,I Q 0,I Q 0,.bool P,.bool P,I Q 0]/\Below w.heap.size w W:=id hW;obtain⟨z0,z1,z2,z3,z4,z5⟩:=j2.gS;have zf:=Bk.free j2;clear j2
       refine aM rfl ?_
       clear hd
       go_simp
       exact⟨rfl,B9 hW _ _ _ _ _ _⟩
     case gdone=>
      intro vs W hW hf
      have f0:vs 0=.agg #[I O r0,I O r1,I O r2,I O r3,I O r4,I O r5,I O r6,I O r7,I Q pc]:=hf 0 (by decide)
      have f1:vs 1=.agg #[T Z 0 0,I Q (-1),I Q (-1),.bool P,.bool P,I Q 11]:=hf 1 (by decide)
      simp only[f0,f1]
      clear f0 f1 hf
      obtain⟨p1,p2,p3⟩:Bk W (w.heap.size+1) 107 #[I O r0,I O r1,I O r2,I O r3,I O r4,I O r5,I O r6,I O r7,I Q pc]/\Bk W (w.heap.size+1+1) 61 #[(T Z 0 0),I Q (-1),I Q (-1),.bool P,.bool P,I Q 11]/\Below w.heap.size w W:=id hW
      have HBE:=J p3
      clear hW p3 hD0 hTr
      obtain⟨c0,c1,c2,c3,c4,c5,c6,c7,c8⟩:=Cb.cells (r0:=r0) (r1:=r1) (r2:=r2) (r3:=r3) (r4:=r4) (r5:=r5) (r6:=r6) (r7:=r7) (pc:=pc) p1
      obtain⟨o0,o1,o2,o3,o4,o5⟩:=p2.gS
      go_wp
      exact bodyPost_ret (v:=.tuple #[.agg #[I O r0,I O r1,I O r2,I O r3,I O r4,I O r5,I O r6,I O r7,I Q pc],.agg #[(T Z 0 0),I Q (-1),I Q (-1),.bool P,.bool P,I Q 11]]) (by simp[results,Tryz.results50,go_sem,c0,c1,c2,c3,c4,c5,c6,c7,c8,o0,o1,o2,o3,o4,o5]) rfl (by rw[HNo.out];exact⟨rfl,HBE.out⟩)
    | some a=>
     obtain⟨AA,hAA⟩:∃ q,q=gC m.ws ⟨[r0,r1,r2,r3,r4,r5,r6,r7],pc⟩ late ⟨op,dn,sn,t',u,a',k',pl⟩ a:=⟨_,rfl⟩
     have hE8:bh [r0,r1,r2,r3,r4,r5,r6,r7]:=by
      have:=HE8.out
      rw[ec] at this
      exact this
     have hWu:fC AA.ws:=by rw[hAA];exact yR HX.out.mc.ws hE8
     have hWl:AA.ws.length=m.ws.length:=by rw[hAA];exact yS
     have hE:bh AA.c.xs:=by rw[hAA];exact my HX.out.mc.ws hE8
     have hal:a<m.ws.length:=by
      unfold fc at hfm
      split at hfm
      ·rename_i hc
       injection hfm with hfm
       have h3:=zH HX.out.mem.right (k:=a'.toNat) (by omega)
       have h4:=tH (zs:=k.zs) (a:=a'.toNat) (p:=(S % 4096).toNat) (by omega) (by omega)
       have h5:=HX.out.mc.len
       omega
      ·cases hfm
     have HAcc0:=fun W (hW:Ex W X k m)=>Ad hW ⟨[r0,r1,r2,r3,r4,r5,r6,r7],pc⟩ ⟨op,dn,sn,t',u,a',k',pl⟩ k.l.length a late hE8 hHI.out HN.out.1 HN.out.2 hal hpp.out.1 hpp.out.2
     rw[<-hAA] at HAcc0
     have HRs:Hid (R=V ⟨{ m with ws:=AA.ws },AA.c,a,AA.wrote,AA.stay⟩):=J (by
      rw[HR.out]
      simp only[Cc,if_neg HN.out.1,if_neg HN.out.2]
      simp[ES.out,hfm,<-hAA])
     have hAd:Hid (∀ W,Mm W X.p X.q X.g X.s k.zs m.ws->Calls Tryz.prog 83 #[U (V ⟨X.p,0,Z⟩),I Q a',I O S] W fun e w'=>e=.returned (.tuple #[I Q (a:Int),.bool true])/\w'=W):=J fun W hW=>by
      unfold fc at hfm
      split at hfm
      ·rename_i hc
       injection hfm with hfm
       obtain⟨A0,rfl⟩:=Int.eq_ofNat_of_zero_le hc.1
       have h6:=yK hW A0 (by omega) S hS32.1 hS32.2 (by have:=hc.2.2;rwa [Int.toNat_natCast] at this)
       refine h6.mono fun e w' hq=>⟨?_,hq.2.symm⟩
       rw[hq.1,<-hfm,Int.toNat_natCast]
      ·cases hfm
     have hMm:=J HX2.out.mem
     clear hfm
     obtain⟨WS,⟨cxs,PC⟩,WR,ST⟩:=AA
     simp only at hWu hWl hE HRs HAcc0
     obtain⟨s0,s1,s2,s3,s4,s5,s6,s7,rfl⟩:=aC hE.1
     have HAcc:Hid (∀ W,Ex W X k m->Calls Tryz.prog 84 #[U (V ⟨X.x,0,Z⟩),.agg #[I O r0,I O r1,I O r2,I O r3,I O r4,I O r5,I O r6,I O r7,I Q pc],.agg #[I Q op,I Q dn,I Q sn,I Q t',I Q u,I Q a',I O k',I Q pl],I Q (a:Int),.bool late] W fun e w'=>e=.returned (.tuple #[.agg #[I O s0,I O s1,I O s2,I O s3,I O s4,I O s5,I O s6,I O s7,I Q PC],.agg #[(T Z 0 0),I Q (-1),I Q a,.bool WR,.bool ST,I Q 0]])/\Mm w' X.p X.q X.g X.s k.zs WS/\fD W w' X.g):=J fun W hW=>HAcc0 W hW
     have HWW:=J (And.intro hWu hWl)
     clear HAcc0 hWu hWl hE hAA hE8
     go_upto_region 3 with fail
     go_quiet ((go_at_call 83;exact Calls.quiet_of_same (hAd.out _ (hMm.out.drewN _))))
     have hI9:=hII.out.within ((ab.refl y (fun _=>False)).dg nq) (by simp)
     have hB9:=Go.below_drewN hBB.out nq
     have hX9:=HX2.out.below (Go.below_drewN (H _ _) nq)
     clear x3 x4 e0 e1 e2 e3 e4 e5 e6 e7 cS kx kn hAd hMm
     have hyn:Hid (b<(y.drewN nq).heap.size):=J hLL.out.1
     generalize y.drewN nq=y5 at *
     obtain⟨c0,c1,c2,c3,c4,c5,c6,c7,c8⟩:=hI9.dc.cells
     obtain⟨e0,e1,e2,e3,e4,e5,e6,e7⟩:=hI9.di.cells
     simp only at e0 e1 e2 e3 e4 e5 e6 e7
     go_wp2_with fail
     refine(HAcc.out _ hX9).mono ?_
     rintro e y6 ⟨rfl,hM6,hO6⟩
     have hW6:ab y5 y6 (fun i=>i=X.g):=.az hO6 (by rintro i e;injection e with e;exact .inl e.symm)
     have hg6:X.g<w.heap.size:=hOwn _ (.inr (.inr (.inr (.inr (.inr (.inl rfl))))))
     have hI6:=hI9.within hW6 (fun j hj _ e=>by omega)
     have hX6:Ex y6 { X with M:=X.M } k { m with ws:=WS }:=hX9.words hM6 hO6 HWW.out.1 HWW.out.2
     have hS6:bc w k.n X y6 { X with M:=X.M }:=(bc.az hB9).bp (bc.words hO6)
     have hO7:∀ j,XP.Own { X with M:=X.M } k.n j->j<w.heap.size\/b<j:=fun j hj=>.inl (hOwn j hj)
     clear hI9 hB9 hX9 c0 c1 c2 c3 c4 c5 c6 c7 c8 e0 e1 e2 e3 e4 e5 e6 e7 hM6 hO6 hW6 hg6 HAcc HWW
     obtain⟨p1,p2,p3⟩:=rC.end_ (s0:=s0) (s1:=s1) (s2:=s2) (s3:=s3) (s4:=s4) (s5:=s5) (s6:=s6) (s7:=s7) (PC:=PC) (v0:=T Z 0 0) (v1:=I Q (-1)) (v2:=I Q a) (v3:=.bool WR) (v4:=.bool ST) (v5:=I Q 0) hI6
     obtain⟨c0,c1,c2,c3,c4,c5,c6,c7,c8⟩:=Cb.cells hI6.dc
     obtain⟨z0,z1,z2,z3,z4,z5,z6,z7,z8⟩:=Cb.cells hI6.dr
     obtain⟨x0,x1,x2,x3,x4,x5⟩:=hI6.de.gS
     have zf1:=Bk.free hI6.dr
     have zf2:=Bk.free hI6.de
     have HFI:Hid (∀ v,ab y6 v (fun i=>w.heap.size<=i/\i<=b)->∃ M',Ex v { X with M:=M' } k { m with ws:=WS }/\bc w k.n X v { X with M:=M' }):=J fun v hv=>⟨X.M,hX6.ir hv hO7,hS6.ir hv (G _)⟩
     clear hI6 hX6 hS6 hO7
     go_wp2
     generalize hv9:((((((((((((((((y6.setCell ⟨(w.heap.size+1),0,Z⟩ (I O s0)).setCell ⟨(w.heap.size+1),1,Z⟩ (I O s1)).setCell ⟨(w.heap.size+1),2,Z⟩ (I O s2)).setCell ⟨(w.heap.size+1),3,Z⟩ (I O s3)).setCell ⟨(w.heap.size+1),4,Z⟩ (I O s4)).setCell ⟨(w.heap.size+1),5,Z⟩ (I O s5)).setCell ⟨(w.heap.size+1),6,Z⟩ (I O s6)).setCell ⟨(w.heap.size+1),7,Z⟩ (I O s7)).setCell ⟨(w.heap.size+1),8,Z⟩ (I Q PC))).setCell ⟨(w.heap.size+1+1),0,Z⟩ ((T Z 0 0))).setCell ⟨(w.heap.size+1+1),1,Z⟩ (I Q (-1))).setCell ⟨(w.heap.size+1+1),2,Z⟩ (I Q a)).setCell ⟨(w.heap.size+1+1),3,Z⟩ (.bool WR)).setCell ⟨(w.heap.size+1+1),4,Z⟩ (.bool ST)).setCell ⟨(w.heap.size+1+1),5,Z⟩ (I Q 0))=v9
     replace hv9:co (bn y6 (w.heap.size+1) (I O s0) (I O s1) (I O s2) (I O s3) (I O s4) (I O s5) (I O s6) (I O s7) (I Q PC)) (w.heap.size+1+1) (T Z 0 0) (I Q (-1)) (I Q a) (.bool WR) (.bool ST) (I Q 0)=v9:=hv9
     rw[hv9] at p1 p2 p3
     have HFE:=J (HFI.out v9 p3)
     clear hv9 p3 HFI c0 c1 c2 c3 c4 c5 c6 c7 c8 z0 z1 z2 z3 z4 z5 z6 z7 z8 x0 x1 x2 x3 x4 x5 zf1 zf2
     obtain⟨c0,c1,c2,c3,c4,c5,c6,c7,c8⟩:=p1.cells
     obtain⟨o0,o1,o2,o3,o4,o5⟩:=p2.gS
     exact bodyPost_ret (v:=.tuple #[.agg #[I O s0,I O s1,I O s2,I O s3,I O s4,I O s5,I O s6,I O s7,I Q PC],.agg #[(T Z 0 0),I Q (-1),I Q a,.bool WR,.bool ST,I Q 0]]) (by simp[results,Tryz.results50,go_sem,c0,c1,c2,c3,c4,c5,c6,c7,c8,o0,o1,o2,o3,o4,o5]) rfl (by rw[HRs.out];exact⟨rfl,HFE.out⟩)
 case rest=>
  obtain⟨rfl,M',m',xs',h8,hI',hX',hS',hO',hRR⟩:=hcut
  clear hI e0 e1 e2 e3 e4 e5 e6 e7 x3 x4 cS kx kn
  obtain⟨s0,s1,s2,s3,s4,s5,s6,s7,rfl⟩:=aC h8
  obtain⟨c0,c1,c2,c3,c4,c5,c6,c7,c8⟩:=hI'.dc.cells
  have zf:=Bk.free hI'.dc
  replace hw1:=hw1.out
  have g3:=hI'.place (pc+1)
  have hfar:ab wc (wc.setCell ⟨b,8,Z⟩ (I Q (pc+1))) (fun i=>w.heap.size<=i/\i<=b):=(ab.refl _ _).put _ _ _ (.inl ⟨by have:=hLL.out.2;omega,G _⟩)
  have g1:=hX'.ir hfar hO'
  have g2:=hS'.ir hfar (G _)
  go_upto_region 14 with fail
  clear hI' hX' hS' c0 c1 c2 c3 c4 c5 c6 c7 c8 zf hw1 hfar
  generalize wc.setCell ⟨b,8,Z⟩ (I Q (pc+1))=y6 at *
  obtain⟨p1,p2,p3⟩:=rC.end_ (s0:=s0) (s1:=s1) (s2:=s2) (s3:=s3) (s4:=s4) (s5:=s5) (s6:=s6) (s7:=s7) (PC:=(pc+1)) (v0:=T Z 0 0) (v1:=I Q (-1)) (v2:=I Q (-1)) (v3:=.bool P) (v4:=.bool P) (v5:=I Q 0) g3
  obtain⟨c0,c1,c2,c3,c4,c5,c6,c7,c8⟩:=Cb.cells g3.dc
  obtain⟨z0,z1,z2,z3,z4,z5,z6,z7,z8⟩:=Cb.cells g3.dr
  obtain⟨x0,x1,x2,x3,x4,x5⟩:=g3.de.gS
  have zf1:=Bk.free g3.dr
  have zf2:=Bk.free g3.de
  have HFI:Hid (∀ v,ab y6 v (fun i=>w.heap.size<=i/\i<=b)->∃ M',Ex v { X with M:=M' } k m'/\bc w k.n X v { X with M:=M' }):=J fun v hv=>⟨M',g1.ir hv hO',g2.ir hv (G _)⟩
  clear g1 g2 g3 hO'
  go_wp
  generalize hv9:((((((((((((((((y6.setCell ⟨(w.heap.size+1),0,Z⟩ (I O s0)).setCell ⟨(w.heap.size+1),1,Z⟩ (I O s1)).setCell ⟨(w.heap.size+1),2,Z⟩ (I O s2)).setCell ⟨(w.heap.size+1),3,Z⟩ (I O s3)).setCell ⟨(w.heap.size+1),4,Z⟩ (I O s4)).setCell ⟨(w.heap.size+1),5,Z⟩ (I O s5)).setCell ⟨(w.heap.size+1),6,Z⟩ (I O s6)).setCell ⟨(w.heap.size+1),7,Z⟩ (I O s7)).setCell ⟨(w.heap.size+1),8,Z⟩ (I Q (pc+1)))).setCell ⟨(w.heap.size+1+1),0,Z⟩ ((T Z 0 0))).setCell ⟨(w.heap.size+1+1),1,Z⟩ (I Q (-1))).setCell ⟨(w.heap.size+1+1),2,Z⟩ (I Q (-1))).setCell ⟨(w.heap.size+1+1),3,Z⟩ (.bool P)).setCell ⟨(w.heap.size+1+1),4,Z⟩ (.bool P)).setCell ⟨(w.heap.size+1+1),5,Z⟩ (I Q 0))=v9
  replace hv9:co (bn y6 (w.heap.size+1) (I O s0) (I O s1) (I O s2) (I O s3) (I O s4) (I O s5) (I O s6) (I O s7) (I Q (pc+1))) (w.heap.size+1+1) (T Z 0 0) (I Q (-1)) (I Q (-1)) (.bool P) (.bool P) (I Q 0)=v9:=hv9
  rw[hv9] at p1 p2 p3
  have HFE:=J (HFI.out v9 p3)
  clear hv9 p3 HFI c0 c1 c2 c3 c4 c5 c6 c7 c8 z0 z1 z2 z3 z4 z5 z6 z7 z8 x0 x1 x2 x3 x4 x5 zf1 zf2
  obtain⟨c0,c1,c2,c3,c4,c5,c6,c7,c8⟩:=p1.cells
  obtain⟨o0,o1,o2,o3,o4,o5⟩:=p2.gS
  exact bodyPost_ret (v:=.tuple #[.agg #[I O s0,I O s1,I O s2,I O s3,I O s4,I O s5,I O s6,I O s7,I Q (pc+1)],.agg #[(T Z 0 0),I Q (-1),I Q (-1),.bool P,.bool P,I Q 0]]) (by simp[results,Tryz.results50,go_sem,c0,c1,c2,c3,c4,c5,c6,c7,c8,o0,o1,o2,o3,o4,o5]) rfl (by rw[hRR.out];exact⟨rfl,HFE.out⟩)
end
def zY (w:World)(X:XP)(k:Lk)(r:Mc×Ot)(e:Ending)(w':World):Prop:=
 ∃ v M',e=.returned (zP v r.2)/\dH w.heap.size w' v r.2.ms/\Ex w' { X with M:=M' } k r.1/\bc w k.n X w' { X with M:=M' }
theorem fW {W W':World}{m:Value}{ms:List Int}{S:Nat->Prop}(hl:eH .i64 3 W m ms)(hW:ab W W' S)(hS:∀ b,S b->∃ t cs,Bk W b t cs/\t≠3):eH .i64 3 W' m ms:=
 hl.within hW fun g e hg=>by
  obtain⟨cs,hcs⟩:=hl.bk e
  obtain⟨t,cs',h1,h2⟩:=hS g hg
  exact Bk.aj hcs h1 (fun e=>h2 e.symm) rfl
theorem dC {B:Nat}{W W':World}{m:Value}{ms:List Int}{S:Nat->Prop}(hl:dH B W m ms)(hW:ab W W' S)(hS:∀ b,S b->∃ t cs,Bk W b t cs/\t≠3):dH B W' m ms:=⟨fW hl.1 hW hS,hl.2⟩
section
variable {w w':World}{X:XP}{k:Lk}{m:Mc}
theorem yX (h:Ex w X k m)(t:Nat)(ht:t<k.n)(un:Bool):
 Calls Tryz.prog 22 #[U (V ⟨X.x,0,Z⟩),I Q t,.bool un] w (zY w X k (cJ k m t un)):=by
 have hnn:=h.lk.n64
 have hl:=h.lk.parts.2.1
 have hx:=h.mc.cs t ht
 obtain⟨r0,r1,r2,r3,r4,r5,r6,r7,pc,ec⟩:=h.bA ht
 have HB0:=fun(v:Value) W hW=>Bz ⟨k.l,k.lo,k.un⟩ v (m.cs t).xs (m.cs t).pc t un W hW hl h.lk.ok hx (by omega) (by omega)
 have hE:=fV h.lk.ok (self:=(t:Int)) (by omega) (by omega) 256 (m.cs t).xs (if un then k.un else k.lo) [] hx
 obtain⟨RR,hRR⟩:∃ R,R=fM (t:Int) k.l 256 (m.cs t).xs (if un then k.un else k.lo) []:=⟨_,rfl⟩
 rw[<-hRR] at hE
 have HR:Hid (cJ k m t un=({ m with cs:=fA m.cs t ⟨RR.xs,RR.pc⟩ },⟨RR.ms,RR.done,-1,P,P,RR.e⟩)):=J (by unfold cJ ib;simp only[hRR])
 have HX:=J h
 obtain⟨sxs,PC,ms,D,E⟩:=RR
 simp only at hE HR
 obtain⟨s0,s1,s2,s3,s4,s5,s6,s7,rfl⟩:=aC hE.1
 have HE8:=J hE
 have HB:Hid (∀ W,Ex W X k m->Calls Tryz.prog 47 #[.agg #[I O r0,I O r1,I O r2,I O r3,I O r4,I O r5,I O r6,I O r7,I Q pc],.agg #[X.cv,I Q k.lo,I Q k.un],I Q t,.bool un] W fun e w'=>∃ m5,e=.returned (.tuple #[.agg #[I O s0,I O s1,I O s2,I O s3,I O s4,I O s5,I O s6,I O s7,I Q PC],m5,I Q D,I Q E])/\dH W.heap.size w' m5 ms/\Below W.heap.size W w'):=J fun W hW=>by
  have h1:=HB0 _ W hW.pv.1
  rw[ec] at h1 hRR
  simp only at h1
  rw[<-hRR] at h1
  exact h1.mono fun e w' ⟨m5,q1,q2,q3⟩=>⟨m5,q1,q2,q3⟩
 clear HB0 hE hRR hx
 rw[HR.out]
 clear HR
 have q0:=Bk.made w 61 #[T Z 0 0,I Q 0,I Q 0,.bool P,.bool P,I Q 0]
 have b0:Below w.heap.size w (w.alloc (K #[T Z 0 0,I Q 0,I Q 0,.bool P,.bool P,I Q 0] 61)):=(H _ _).alloc (G _) _
 go_enter Tryz.func22,Tryz.ntmps22
 go_upto_region 1 with fail
 generalize w.alloc (K #[T Z 0 0,I Q 0,I Q 0,.bool P,.bool P,I Q 0] 61)=y at *
 have h2:=h.below b0
 go_wp2_with fail
 refine(lP h2 t ht).mono ?_
 rintro e w' ⟨rfl,rfl⟩
 clear h
 go_upto_region 3 with fail
 refine ja 19 20 107 #[I O 0,I O 0,I O 0,I O 0,I O 0,I O 0,I O 0,I O 0,I Q 0] (fun W b=>bn W b (I O s0) (I O s1) (I O s2) (I O s3) (I O s4) (I O s5) (I O s6) (I O s7) (I Q PC)) (fun W b=>Cb W b [s0,s1,s2,s3,s4,s5,s6,s7] PC) (fun vs=>{ tmps:=#[U (V ⟨X.x,0,Z⟩),I Q (t:Int),.bool un,F,F,F,U (V ⟨w.heap.size,0,Z⟩),vs 19,vs 21,vs 22,vs 23,U (V ⟨X.x,0,Z⟩),I Q (t:Int),.bool true,.bool P,F,vs 14,vs 0,vs 1,vs 2,vs 3,vs 4,vs 5,vs 6,vs 7,vs 8,vs 9,vs 10,vs 11,vs 12,vs 13,vs 15,vs 16,vs 17,vs 18,F,F,F,F,F,F,F,F,F,F,F],defers:=[] }) (lE [(13,(gD w.heap.size (.agg #[I O s0,I O s1,I O s2,I O s3,I O s4,I O s5,I O s6,I O s7,I Q PC]) ms D E)),(14,(gD w.heap.size (.agg #[I O s0,I O s1,I O s2,I O s3,I O s4,I O s5,I O s6,I O s7,I Q PC]) ms D E)),(16,(fun v W=>dH w.heap.size W v ms)),(21,(fun v W=>dH w.heap.size W v ms))] [U (V ⟨X.x,0,Z⟩),U (V ⟨X.x,0,Z⟩),U (V ⟨X.x,5,Z⟩),T (V ⟨X.kb,0,Z⟩) k.n k.n,I Q (t:Int),U (V ⟨X.kb,t*9,Z⟩),.agg #[I O r0,I O r1,I O r2,I O r3,I O r4,I O r5,I O r6,I O r7,I Q pc],U (V ⟨X.x,0,Z⟩),U (V ⟨X.x,0,Z⟩),U (V ⟨X.x,0,Z⟩),.agg #[X.cv,I Q k.lo,I Q k.un],I Q (t:Int),.bool un,F,F,.agg #[I O s0,I O s1,I O s2,I O s3,I O s4,I O s5,I O s6,I O s7,I Q PC],F,I Q D,I Q E,F,F,F,I Q D,I Q E]) ?ghm ?ghr ?ghns ?ghlen ?glit ?gst ?gst2 ?gd1 ?gbel ?gdn ?gnew ?gsto ?gops ?gdone
 case ghm=>kernel_rfl
 case ghr=>kernel_rfl
 case ghns=>kernel_rfl
 case ghlen=>rfl
 case glit=>intro vs;rfl
 case gst=>exact dB (by
  intro p hp
  simp only[List.mem_cons,List.not_mem_nil,or_false] at hp
  rcases hp with rfl|rfl|rfl|rfl
  ·exact fun v W W2 h hb=>gD.below h hb
  ·exact fun v W W2 h hb=>gD.below h hb
  ·exact fun v W W2 h hb=>eC h hb
  ·exact fun v W W2 h hb=>eC h hb)
 case gst2=>
  have hk:=gN (R:=fun W W2=>∃ b,Bk W b 107 #[I O 0,I O 0,I O 0,I O 0,I O 0,I O 0,I O 0,I O 0,I Q 0]/\W2=bn W b (I O s0) (I O s1) (I O s2) (I O s3) (I O s4) (I O s5) (I O s6) (I O s7) (I Q PC)) (ps:=[(13,(gD w.heap.size (.agg #[I O s0,I O s1,I O s2,I O s3,I O s4,I O s5,I O s6,I O s7,I Q PC]) ms D E)),(14,(gD w.heap.size (.agg #[I O s0,I O s1,I O s2,I O s3,I O s4,I O s5,I O s6,I O s7,I Q PC]) ms D E)),(16,(fun v W=>dH w.heap.size W v ms)),(21,(fun v W=>dH w.heap.size W v ms))]) (l:=[U (V ⟨X.x,0,Z⟩),U (V ⟨X.x,0,Z⟩),U (V ⟨X.x,5,Z⟩),T (V ⟨X.kb,0,Z⟩) k.n k.n,I Q (t:Int),U (V ⟨X.kb,t*9,Z⟩),.agg #[I O r0,I O r1,I O r2,I O r3,I O r4,I O r5,I O r6,I O r7,I Q pc],U (V ⟨X.x,0,Z⟩),U (V ⟨X.x,0,Z⟩),U (V ⟨X.x,0,Z⟩),.agg #[X.cv,I Q k.lo,I Q k.un],I Q (t:Int),.bool un,F,F,.agg #[I O s0,I O s1,I O s2,I O s3,I O s4,I O s5,I O s6,I O s7,I Q PC],F,I Q D,I Q E,F,F,F,I Q D,I Q E]) (by
   intro p hp
   simp only[List.mem_cons,List.not_mem_nil,or_false] at hp
   rcases hp with rfl|rfl|rfl|rfl
   ·rintro v W W2 ⟨m5,e5,h5⟩ ⟨b,hk,rfl⟩;exact⟨m5,e5,iS h5 hk (by decide) (I O s0) (I O s1) (I O s2) (I O s3) (I O s4) (I O s5) (I O s6) (I O s7) (I Q PC)⟩
   ·rintro v W W2 ⟨m5,e5,h5⟩ ⟨b,hk,rfl⟩;exact⟨m5,e5,iS h5 hk (by decide) (I O s0) (I O s1) (I O s2) (I O s3) (I O s4) (I O s5) (I O s6) (I O s7) (I Q PC)⟩
   ·rintro v W W2 h ⟨b,hk,rfl⟩;exact iS h hk (by decide) (I O s0) (I O s1) (I O s2) (I O s3) (I O s4) (I O s5) (I O s6) (I O s7) (I Q PC)
   ·rintro v W W2 h ⟨b,hk,rfl⟩;exact iS h hk (by decide) (I O s0) (I O s1) (I O s2) (I O s3) (I O s4) (I O s5) (I O s6) (I O s7) (I Q PC))
  exact fun i v W b h hb=>hk i v W _ h ⟨b,hb,rfl⟩
 case gd1=>exact fun W W2 b h hb=>Cb.below h hb
 case gbel=>exact fun W b hb h=>ba h hb (I O s0) (I O s1) (I O s2) (I O s3) (I O s4) (I O s5) (I O s6) (I O s7) (I Q PC)
 case gdn=>exact fun W b h=>bz h (I O s0) (I O s1) (I O s2) (I O s3) (I O s4) (I O s5) (I O s6) (I O s7) (I Q PC)
 case gnew=>
  intro o ho vs W hW
  injection ho with ho
  subst ho
  refine aa rfl ?_
  go_simp
  exact⟨⟨W.heap.size,rfl,hW.size,Cb.made W [0,0,0,0,0,0,0,0] 0⟩,(H _ _).alloc (G _) _⟩
 case gsto=>
  intro o ho vs W b hW hd hb hk
  injection ho with ho
  subst ho
  have ev:vs 15=.agg #[I O s0,I O s1,I O s2,I O s3,I O s4,I O s5,I O s6,I O s7,I Q PC]:=hd 15 (by decide) rfl
  have zf:=Bk.free hk
  obtain⟨z0,z1,z2,z3,z4,z5,z6,z7,z8⟩:=Cb.cells hk
  refine aM rfl ?_
  clear hd
  go_simp
  rfl
 case gops=>
  refine⟨?_,?_,?_,?_,?_,?_,?_,?_,?_,?_,?_,?_,?_,?_,?_,?_,?_,?_,?_,?_,?_,?_,?_,?_,trivial⟩
  ·intro _ vs W hW hd
   refine aa rfl ?_
   go_simp
   exact⟨rfl,H _ _⟩
  ·intro _ vs W hW hd
   refine aa rfl ?_
   have e0:vs 0=U (V ⟨X.x,0,Z⟩):=hd 0 (by decide) rfl
   go_simp
   exact⟨rfl,H _ _⟩
  ·intro _ vs W hW hd
   refine aa rfl ?_
   have e1:vs 1=U (V ⟨X.x,0,Z⟩):=hd 1 (by decide) rfl
   go_simp
   exact⟨rfl,H _ _⟩
  ·intro _ vs W hW hd
   refine aa rfl ?_
   have e2:vs 2=U (V ⟨X.x,5,Z⟩):=hd 2 (by decide) rfl
   have hq:=h2.below hW;have c0x:=hq.c0;have c1x:=hq.c1;have c2x:=hq.c2;have c5x:=hq.c5;obtain⟨c0,c1,c2,c3,c4,c5,c6,c7,c8⟩:=hq.core ht ec;clear hq
   go_simp
   exact⟨rfl,H _ _⟩
  ·intro _ vs W hW hd
   refine aa rfl ?_
   go_simp
   exact⟨rfl,H _ _⟩
  ·intro _ vs W hW hd
   refine aa rfl ?_
   have e3:vs 3=T (V ⟨X.kb,0,Z⟩) k.n k.n:=hd 3 (by decide) rfl
   have e4:vs 4=I Q (t:Int):=hd 4 (by decide) rfl
   go_simp
   exact⟨rfl,H _ _⟩
  ·intro _ vs W hW hd
   refine aa rfl ?_
   have e5:vs 5=U (V ⟨X.kb,t*9,Z⟩):=hd 5 (by decide) rfl
   have hq:=h2.below hW;have c0x:=hq.c0;have c1x:=hq.c1;have c2x:=hq.c2;have c5x:=hq.c5;obtain⟨c0,c1,c2,c3,c4,c5,c6,c7,c8⟩:=hq.core ht ec;clear hq
   go_simp
   exact⟨rfl,H _ _⟩
  ·intro _ vs W hW hd
   refine aa rfl ?_
   go_simp
   exact⟨rfl,H _ _⟩
  ·intro _ vs W hW hd
   refine aa rfl ?_
   have e7:vs 7=U (V ⟨X.x,0,Z⟩):=hd 7 (by decide) rfl
   go_simp
   exact⟨rfl,H _ _⟩
  ·intro _ vs W hW hd
   refine aa rfl ?_
   have e8:vs 8=U (V ⟨X.x,0,Z⟩):=hd 8 (by decide) rfl
   go_simp
   exact⟨rfl,H _ _⟩
  ·intro _ vs W hW hd
   refine aa rfl ?_
   have e9:vs 9=U (V ⟨X.x,0,Z⟩):=hd 9 (by decide) rfl
   have hq:=h2.below hW;have c0x:=hq.c0;have c1x:=hq.c1;have c2x:=hq.c2;have c5x:=hq.c5;obtain⟨c0,c1,c2,c3,c4,c5,c6,c7,c8⟩:=hq.core ht ec;clear hq
   go_simp
   exact⟨rfl,H _ _⟩
  ·intro _ vs W hW hd
   refine aa rfl ?_
   go_simp
   exact⟨rfl,H _ _⟩
  ·intro _ vs W hW hd
   refine aa rfl ?_
   go_simp
   exact⟨rfl,H _ _⟩
  ·intro _ vs W hW hd
   refine aa rfl ?_
   have e6:vs 6=.agg #[I O r0,I O r1,I O r2,I O r3,I O r4,I O r5,I O r6,I O r7,I Q pc]:=hd 6 (by decide) rfl
   have e10:vs 10=.agg #[X.cv,I Q k.lo,I Q k.un]:=hd 10 (by decide) rfl
   have e11:vs 11=I Q (t:Int):=hd 11 (by decide) rfl
   have e12:vs 12=.bool un:=hd 12 (by decide) rfl
   have HS:=J (HB.out W (h2.below hW))
   clear hd
   go_simp
   refine HS.out.mono ?_
   rintro e z ⟨m5,he,hm5,hz⟩
   exact⟨_,he,⟨m5,rfl,hm5.mono (Nat.le_trans b0.size hW.size)⟩,hz⟩
  ·intro _ vs W hW hd
   refine aa rfl ?_
   obtain⟨m5,e13,hm5⟩:gD w.heap.size (.agg #[I O s0,I O s1,I O s2,I O s3,I O s4,I O s5,I O s6,I O s7,I Q PC]) ms D E (vs 13) W:=hd 13 (by decide) rfl
   clear hd
   go_simp
   exact⟨⟨m5,rfl,hm5⟩,H _ _⟩
  ·intro _ vs W hW hd
   refine aa rfl ?_
   obtain⟨m5,e14,hm5⟩:gD w.heap.size (.agg #[I O s0,I O s1,I O s2,I O s3,I O s4,I O s5,I O s6,I O s7,I Q PC]) ms D E (vs 14) W:=hd 14 (by decide) rfl
   clear hd
   go_simp
   exact⟨rfl,H _ _⟩
  ·intro _ vs W hW hd
   refine aa rfl ?_
   obtain⟨m5,e14,hm5⟩:gD w.heap.size (.agg #[I O s0,I O s1,I O s2,I O s3,I O s4,I O s5,I O s6,I O s7,I Q PC]) ms D E (vs 14) W:=hd 14 (by decide) rfl
   clear hd
   go_simp
   exact⟨hm5,H _ _⟩
  ·intro _ vs W hW hd
   refine aa rfl ?_
   obtain⟨m5,e14,hm5⟩:gD w.heap.size (.agg #[I O s0,I O s1,I O s2,I O s3,I O s4,I O s5,I O s6,I O s7,I Q PC]) ms D E (vs 14) W:=hd 14 (by decide) rfl
   clear hd
   go_simp
   exact⟨rfl,H _ _⟩
  ·intro _ vs W hW hd
   refine aa rfl ?_
   obtain⟨m5,e14,hm5⟩:gD w.heap.size (.agg #[I O s0,I O s1,I O s2,I O s3,I O s4,I O s5,I O s6,I O s7,I Q PC]) ms D E (vs 14) W:=hd 14 (by decide) rfl
   clear hd
   go_simp
   exact⟨rfl,H _ _⟩
  ·exact fun h=>absurd h (by decide)
  ·exact fun h=>absurd h (by decide)
  ·intro _ vs W hW hd
   refine aa rfl ?_
   have h8:dH w.heap.size W (vs 16) ms:=hd 16 (by decide) rfl
   clear hd
   go_simp
   exact⟨h8,H _ _⟩
  ·intro _ vs W hW hd
   refine aa rfl ?_
   have e17:vs 17=I Q D:=hd 17 (by decide) rfl
   go_simp
   exact⟨rfl,H _ _⟩
  ·intro _ vs W hW hd
   refine aa rfl ?_
   have e18:vs 18=I Q E:=hd 18 (by decide) rfl
   go_simp
   exact⟨rfl,H _ _⟩
 case gdone=>
  intro vs W b hW hf hgv hgb pb
  have f0:vs 0=U (V ⟨X.x,0,Z⟩):=hf 0 (by decide) rfl
  have f1:vs 1=U (V ⟨X.x,0,Z⟩):=hf 1 (by decide) rfl
  have f2:vs 2=U (V ⟨X.x,5,Z⟩):=hf 2 (by decide) rfl
  have f3:vs 3=T (V ⟨X.kb,0,Z⟩) k.n k.n:=hf 3 (by decide) rfl
  have f4:vs 4=I Q (t:Int):=hf 4 (by decide) rfl
  have f5:vs 5=U (V ⟨X.kb,t*9,Z⟩):=hf 5 (by decide) rfl
  have f6:vs 6=.agg #[I O r0,I O r1,I O r2,I O r3,I O r4,I O r5,I O r6,I O r7,I Q pc]:=hf 6 (by decide) rfl
  have f7:vs 7=U (V ⟨X.x,0,Z⟩):=hf 7 (by decide) rfl
  have f8:vs 8=U (V ⟨X.x,0,Z⟩):=hf 8 (by decide) rfl
  have f9:vs 9=U (V ⟨X.x,0,Z⟩):=hf 9 (by decide) rfl
  have f10:vs 10=.agg #[X.cv,I Q k.lo,I Q k.un]:=hf 10 (by decide) rfl
  have f11:vs 11=I Q (t:Int):=hf 11 (by decide) rfl
  have f12:vs 12=.bool un:=hf 12 (by decide) rfl
  have f15:vs 15=.agg #[I O s0,I O s1,I O s2,I O s3,I O s4,I O s5,I O s6,I O s7,I Q PC]:=hf 15 (by decide) rfl
  have f17:vs 17=I Q D:=hf 17 (by decide) rfl
  have f18:vs 18=I Q E:=hf 18 (by decide) rfl
  have f22:vs 22=I Q D:=hf 22 (by decide) rfl
  have f23:vs 23=I Q E:=hf 23 (by decide) rfl
  simp only[f0,f1,f2,f3,f4,f5,f6,f7,f8,f9,f10,f11,f12,f15,f17,f18,f22,f23]
  have hm2:dH w.heap.size W (vs 21) ms:=hf 21 (by decide) rfl
  simp only[hgv]
  clear hf hgv f0 f1 f2 f3 f4 f5 f6 f7 f8 f9 f10 f11 f12 f15 f17 f18 f22 f23
  generalize vs 21=m2 at *
  generalize vs 13=w13 at *
  generalize vs 14=w14 at *
  generalize vs 16=w16 at *
  have h3:=h2.below hW
  have q3:=(hW.block _ q0.lt).trans q0
  replace b0:=b0.trans (hW.mono b0.size)
  clear h2 q0 hW hgb
  have cx5:=h3.c5
  obtain⟨c0,c1,c2,c3,c4,c5,c6,c7,c8⟩:=h3.core ht ec
  obtain⟨d0,d1,d2,d3,d4,d5,d6,d7,d8⟩:=pb.cells
  have zf:=h3.free
  have hOwn:∀ i,X.Own k.n i->i<w.heap.size:=fun i hi=>HX.out.lt hi
  have hkb:X.kb<w.heap.size:=hOwn _ (.inr (.inr (.inl rfl)))
  have hkb2:w.heap.size≠X.kb:=by omega
  go_upto_region 4 with fail
  go_region
  have h4:=h3.put ht (c:=⟨[s0,s1,s2,s3,s4,s5,s6,s7],PC⟩) HE8.out
  have hw4:ab W (ic W X.kb (t*9) (bP [s0,s1,s2,s3,s4,s5,s6,s7] PC)) (fun i=>i=X.kb):=.az (eF _ _ _) (by rintro i e;injection e with e;exact .inl e.symm)
  have q4:=Bk.within q3 hw4 hkb2
  have l4:=dC hm2 hw4 (by rintro b' rfl;exact⟨_,_,h3.cores,by decide⟩)
  have st4:=(bc.az (n:=k.n) (X:=X) b0).bp (bc.put (X:=X) (n:=k.n) (w:=W) (t:=t*9) (vs:=bP [s0,s1,s2,s3,s4,s5,s6,s7] PC))
  generalize hv4:(((((((((W.setCell ⟨X.kb,(t*9),Z⟩ (I O s0)).setCell ⟨X.kb,(t*9)+1,Z⟩ (I O s1)).setCell ⟨X.kb,(t*9)+2,Z⟩ (I O s2)).setCell ⟨X.kb,(t*9)+3,Z⟩ (I O s3)).setCell ⟨X.kb,(t*9)+4,Z⟩ (I O s4)).setCell ⟨X.kb,(t*9)+5,Z⟩ (I O s5)).setCell ⟨X.kb,(t*9)+6,Z⟩ (I O s6)).setCell ⟨X.kb,(t*9)+7,Z⟩ (I O s7)).setCell ⟨X.kb,(t*9)+8,Z⟩ (I Q PC))=v4
  replace hv4:ic W X.kb (t*9) (bP [s0,s1,s2,s3,s4,s5,s6,s7] PC)=v4:=hv4
  rw[hv4] at h4 hw4 q4 l4 st4
  clear hv4 hw4 h3 q3 hm2 b0 c0 c1 c2 c3 c4 c5 c6 c7 c8 d0 d1 d2 d3 d4 d5 d6 d7 d8 zf pb cx5
  replace h4:=h4.below (H _ v4).drew
  replace q4:Bk v4.drew _ _ _:=q4
  replace l4:dH w.heap.size v4.drew m2 ms:=l4
  replace st4:=st4.grown (H _ v4).drew
  generalize v4.drew=v5 at *
  obtain⟨z0,z1,z2,z3,z4,z5⟩:=q4.gS
  have zf:=Bk.free q4
  have p1:=cm q4 m2 (I Q D) (I Q (-1)) (.bool P) (.bool P) (I Q E)
  have p2:=bd (y:=v5) (g:=w.heap.size) m2 (I Q D) (I Q (-1)) (.bool P) (.bool P) (I Q E)
  obtain⟨a9,c9,e9,-⟩:=l4.1.is
  have l6:=dC l4 p2 (by rintro b' rfl;exact⟨_,_,q4,by decide⟩)
  have h6:=h4.ir (n:=w.heap.size) (b:=w.heap.size) (p2.wide (fun i e _=>by omega)) (fun i hi=>.inl (hOwn i hi))
  have st6:=st4.ir (n:=w.heap.size) (b:=w.heap.size) (p2.wide (fun i e _=>by omega)) (G _)
  subst e9
  go_wp2
  generalize hv9:((((((v5.setCell ⟨w.heap.size,0,Z⟩ ((T a9 ms.length c9))).setCell ⟨w.heap.size,1,Z⟩ (I Q D)).setCell ⟨w.heap.size,2,Z⟩ (I Q (-1))).setCell ⟨w.heap.size,3,Z⟩ (.bool P)).setCell ⟨w.heap.size,4,Z⟩ (.bool P)).setCell ⟨w.heap.size,5,Z⟩ (I Q E))=v9
  replace hv9:co v5 w.heap.size (T a9 ms.length c9) (I Q D) (I Q (-1)) (.bool P) (.bool P) (I Q E)=v9:=hv9
  rw[hv9] at p1 l6 h6 st6
  clear hv9 p2 h4 st4 l4 q4 z0 z1 z2 z3 z4 z5 zf
  obtain⟨o0,o1,o2,o3,o4,o5⟩:=p1.gS
  exact bodyPost_ret (v:=.agg #[(T a9 ms.length c9),I Q D,I Q (-1),.bool P,.bool P,I Q E]) (by simp[results,Tryz.results22,go_sem,o0,o1,o2,o3,o4,o5]) rfl ⟨T a9 ms.length c9,X.M,rfl,l6,h6,st6⟩
end
