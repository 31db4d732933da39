import Derived.Test.YtbgaaclplgghcaaGreatDoorWAsmD
import Derived.Test.YtbgaaclplgghcaaGreatDoorWArR
import Derived.Test.YtbgaaclplgghcaaGreatDoorWPool
set_option linter.unusedVariables false
set_option maxHeartbeats 4000000
set_option maxRecDepth 100000
open Go.Value renaming int->I,slice->U,pointer->K
open Go.IntKind renaming i64->Q,u32->O
open Option renaming none->Z,some->V
open Bool renaming false->T
open Go.Lib renaming hid->J
open Go.RowKit.Below renaming refl->H
open Nat renaming le_refl->G
open Go renaming undef->F
namespace Go.Proofs.YtbgaaclplgghcaaGreatDoor
open Go.ChangeShapes Go.WideShapes Go.ChangeAt Go.RowKit
def FJ (w:World)(X:XP)(k:Lk)(m:Mc)(c:kg)(r:Option Dn)(e:Ending)(w':World):Prop:=match r with
 | none=>e=.returned (.tuple #[cv c.xs c.pc,zE (U Z 0 0) eX])/\Below w.heap.size w w'
 | some r=>e=.returned (.tuple #[cv r.c.xs r.c.pc,zE (U Z 0 0) ⟨[],-1,r.addr,r.wrote,r.stay,0⟩])/\∃ M',Ex w' { X with M:=M' } k r.m/\bh w k.n X w' { X with M:=M' }
structure wF (x:World)(n b:Nat)(xs:List Int)(pc:Int)(i:aM):Prop where
 di:Ib x n i
 dr:Cb x (n+1) [0,0,0,0,0,0,0,0] 0
 de:Bk x (n+1+1) 64 #[U Z 0 0,I Q 0,I Q 0,.bool T,.bool T,I Q 0]
 dc:Cb x b xs pc
 lt:n+1+1<b
theorem wF.within {x y:World}{n b:Nat}{xs:List Int}{pc:Int}{i:aM}{S:Nat->Prop}(h:wF x n b xs pc i)(hw:ab x y S)(hn:∀ j,n<=j->j<x.heap.size->¬ S j):wF y n b xs pc i:=
 ⟨Bk.within h.di hw (hn _ (G _) (Bk.lt h.di)),Bk.within h.dr hw (hn _ (by omega) (Bk.lt h.dr)),h.de.within hw (hn _ (by omega) (Bk.lt h.de)),Bk.within h.dc hw (hn _ (by have:=h.lt;omega) (Bk.lt h.dc)),h.lt⟩
theorem wF.DB {x:World}{n b:Nat}{xs:List Int}{pc:Int}{i:aM}(h:wF x n b xs pc i)(h8:xs.length=8){d:Nat}(hd:d<8)(v:Int):wF (x.setCell ⟨b,d,Z⟩ (I O v)) n b (xs.set d v) pc i:=by
 have hl:=h.lt
 exact⟨Bk.off h.di (p:=⟨b,d,Z⟩) (by show n≠b;omega) _,Bk.off h.dr (p:=⟨b,d,Z⟩) (by show n+1≠b;omega) _,Bk.off h.de (p:=⟨b,d,Z⟩) (by show n+1+1≠b;omega) _,h.dc.set h8 hd v,hl⟩
theorem wF.place {x:World}{n b:Nat}{r0 r1 r2 r3 r4 r5 r6 r7:Int}{pc:Int}{i:aM}(h:wF x n b [r0,r1,r2,r3,r4,r5,r6,r7] pc i)(v:Int):wF (x.setCell ⟨b,8,Z⟩ (I Q v)) n b [r0,r1,r2,r3,r4,r5,r6,r7] v i:=by
 have hl:=h.lt
 exact⟨Bk.off h.di (p:=⟨b,8,Z⟩) (by show n≠b;omega) _,Bk.off h.dr (p:=⟨b,8,Z⟩) (by show n+1≠b;omega) _,Bk.off h.de (p:=⟨b,8,Z⟩) (by show n+1+1≠b;omega) _,Bk.put h.dc 8 (I Q v),hl⟩
theorem wF.end_ {w y:World}{b:Nat}{xs0:List Int}{pc PC:Int}{i:aM}(hI:wF y w.heap.size b xs0 pc i){s0 s1 s2 s3 s4 s5 s6 s7:Int}{v0 v1 v2 v3 v4 v5:Value}:
 Cb (cr (bm y (w.heap.size+1) (I O s0) (I O s1) (I O s2) (I O s3) (I O s4) (I O s5) (I O s6) (I O s7) (I Q PC)) (w.heap.size+1+1) v0 v1 v2 v3 v4 v5) (w.heap.size+1) [s0,s1,s2,s3,s4,s5,s6,s7] PC/\
 Bk (cr (bm y (w.heap.size+1) (I O s0) (I O s1) (I O s2) (I O s3) (I O s4) (I O s5) (I O s6) (I O s7) (I Q PC)) (w.heap.size+1+1) v0 v1 v2 v3 v4 v5) (w.heap.size+1+1) 64 #[v0,v1,v2,v3,v4,v5]/\
 ab y (cr (bm y (w.heap.size+1) (I O s0) (I O s1) (I O s2) (I O s3) (I O s4) (I O s5) (I O s6) (I O s7) (I Q PC)) (w.heap.size+1+1) v0 v1 v2 v3 v4 v5) (fun i=>w.heap.size<=i/\i<=b):=by
 have hbl:=hI.lt
 have hW1:=gg (y:=y) (g:=w.heap.size+1) (I O s0) (I O s1) (I O s2) (I O s3) (I O s4) (I O s5) (I O s6) (I O s7) (I Q PC)
 have h9:Cb (bm y (w.heap.size+1) (I O s0) (I O s1) (I O s2) (I O s3) (I O s4) (I O s5) (I O s6) (I O s7) (I Q PC)) (w.heap.size+1) [s0,s1,s2,s3,s4,s5,s6,s7] PC:=bu hI.dr (I O s0) (I O s1) (I O s2) (I O s3) (I O s4) (I O s5) (I O s6) (I O s7) (I Q PC)
 have h9':Bk (bm y (w.heap.size+1) (I O s0) (I O s1) (I O s2) (I O s3) (I O s4) (I O s5) (I O s6) (I O s7) (I Q PC)) (w.heap.size+1+1) _ _:=dU hI.de (by omega) (I O s0) (I O s1) (I O s2) (I O s3) (I O s4) (I O s5) (I O s6) (I O s7) (I Q PC)
 generalize bm y (w.heap.size+1) (I O s0) (I O s1) (I O s2) (I O s3) (I O s4) (I O s5) (I O s6) (I O s7) (I Q PC)=z1 at *
 have hW2:=ba (y:=z1) (g:=w.heap.size+1+1) v0 v1 v2 v3 v4 v5
 have r1:Cb (cr z1 (w.heap.size+1+1) v0 v1 v2 v3 v4 v5) _ _ _:=mS h9 (by omega) v0 v1 v2 v3 v4 v5
 have r2:=cx h9' v0 v1 v2 v3 v4 v5
 generalize cr z1 (w.heap.size+1+1) v0 v1 v2 v3 v4 v5=z2 at *
 exact⟨r1,r2,(hW1.wide (fun i e _=>by omega)).bx (hW2.wide (fun i e _=>(by omega:w.heap.size<=i/\i<=b))) (fun i e=>.inl e)⟩
section
variable {w w':World}{X:XP}{k:Lk}{m:Mc}
theorem xI {n each c:Nat}{free:Nat->List Nat}{gen out:List Int}{fr:Nat->List Int}{os:Int->Bool}(h:mt n each free gen out fr os c){q:Nat}(hq:q<n*each):0<=lB gen q/\lB gen q<4294967296:=by
 have:=h.le
 obtain⟨f1,f2,_⟩:=kD h.gens (q:=q) (by omega)
 omega
theorem Ex.iP {n b:Nat}(h:Ex w X k m)(hw:ab w w' (fun i=>n<=i/\i<=b))(hn:∀ i,X.Own k.n i->i<n\/b<i):Ex w' X k m:=h.kept hw fun i hi e=>by have:=hn i hi;omega
theorem bh.iP {n N b:Nat}{v:World}{X':XP}(h:bh v N X w X')(hw:ab w w' (fun i=>n<=i/\i<=b))(hn:v.heap.size<=n):bh v N X w' X':=
 ⟨h.1.bx hw (fun i e=>.inr (by omega)),h.2.1,h.2.2⟩
def FQ (w:World)(b:Nat)(xs:List Int)(pc:Int)(i:aM)(cs:List Value):Nat->World->Prop
 | 0,W=>wF W w.heap.size b xs pc i/\Below w.heap.size w W
 | 1,W=>Bk W (w.heap.size+1) 111 cs.toArray/\Bk W (w.heap.size+1+1) 64 #[U Z 0 0,I Q 0,I Q 0,.bool T,.bool T,I Q 0]/\Below w.heap.size w W
 | _,W=>Bk W (w.heap.size+1) 111 cs.toArray/\Bk W (w.heap.size+1+1) 64 #[U Z 0 0,I Q (-1),I Q (-1),.bool T,.bool T,I Q 11]/\Below w.heap.size w W
theorem vD {w W W':World}{b:Nat}{xs:List Int}{pc:Int}{i:aM}{cs:List Value}{k:Nat}(h:FQ w b xs pc i cs k W)(hb:Below W.heap.size W W'):FQ w b xs pc i cs k W':=by
 match k,h with
 | 0,h=>exact⟨h.1.within (av hb) (by simp),h.2.trans (hb.mono h.2.size)⟩
 | 1,h=>exact⟨(hb.block _ h.1.lt).trans h.1,(hb.block _ h.2.1.lt).trans h.2.1,h.2.2.trans (hb.mono h.2.2.size)⟩
 | _+2,h=>exact⟨(hb.block _ (Bk.lt h.1)).trans h.1,(hb.block _ (Bk.lt h.2.1)).trans h.2.1,h.2.2.trans (hb.mono h.2.2.size)⟩
theorem Er {w W:World}{b:Nat}{xs:List Int}{pc:Int}{i:aM}(h:wF W w.heap.size b xs pc i/\Below w.heap.size w W)(v0 v1 v2 v3 v4 v5 v6 v7 v8:Value):
 Bk (bm W (w.heap.size+1) v0 v1 v2 v3 v4 v5 v6 v7 v8) (w.heap.size+1) 111 #[v0,v1,v2,v3,v4,v5,v6,v7,v8]/\Bk (bm W (w.heap.size+1) v0 v1 v2 v3 v4 v5 v6 v7 v8) (w.heap.size+1+1) 64 #[U Z 0 0,I Q 0,I Q 0,.bool T,.bool T,I Q 0]/\Below w.heap.size w (bm W (w.heap.size+1) v0 v1 v2 v3 v4 v5 v6 v7 v8):=
 ⟨bu h.1.dr v0 v1 v2 v3 v4 v5 v6 v7 v8,dU h.1.de (by omega) v0 v1 v2 v3 v4 v5 v6 v7 v8,aX h.2 (by omega) v0 v1 v2 v3 v4 v5 v6 v7 v8⟩
theorem Ep {w W:World}{cs:Array Value}{x0 x1 x2 x3 x4 x5:Value}(h:Bk W (w.heap.size+1) 111 cs/\Bk W (w.heap.size+1+1) 64 #[x0,x1,x2,x3,x4,x5]/\Below w.heap.size w W)(v0 v1 v2 v3 v4 v5:Value):
 Bk (cr W (w.heap.size+1+1) v0 v1 v2 v3 v4 v5) (w.heap.size+1) 111 cs/\Bk (cr W (w.heap.size+1+1) v0 v1 v2 v3 v4 v5) (w.heap.size+1+1) 64 #[v0,v1,v2,v3,v4,v5]/\Below w.heap.size w (cr W (w.heap.size+1+1) v0 v1 v2 v3 v4 v5):=
 ⟨mS h.1 (by omega) v0 v1 v2 v3 v4 v5,cx h.2.1 v0 v1 v2 v3 v4 v5,rU h.2.2 (by omega) v0 v1 v2 v3 v4 v5⟩
def F8 (w:World)(X:XP)(k:Lk)(b:Nat)(pc:Int)(i:aM)(R:Option Dn)(y:World):Prop:=
 ∃ M' m' xs',xs'.length=8/\wF y w.heap.size b xs' pc i/\Ex y { X with M:=M' } k m'/\bh w k.n X y { X with M:=M' }/\(∀ j,XP.Own { X with M:=M' } k.n j->j<w.heap.size\/b<j)/\Hid (R=V ⟨m',⟨xs',pc+1⟩,-1,T,T⟩)
end
def zK (w:World)(X:XP)(k:Lk)(r:Mc×Ot)(e:Ending)(w':World):Prop:=
 ∃ v M',e=.returned (zE v r.2)/\dD w.heap.size w' v r.2.ms/\Ex w' { X with M:=M' } k r.1/\bh w k.n X w' { X with M:=M' }
theorem fT {W W':World}{m:Value}{ms:List Int}{S:Nat->Prop}(hl:eG .i64 3 W m ms)(hW:ab W W' S)(hS:∀ b,S b->∃ t cs,Bk W b t cs/\t≠3):eG .i64 3 W' m ms:=
 hl.within hW fun g e hg=>by
  obtain⟨cs,hcs⟩:=hl.bk e
  obtain⟨t,cs',h1,h2⟩:=hS g hg
  exact Bk.aj hcs h1 (fun e=>h2 e.symm) rfl
theorem dz {B:Nat}{W W':World}{m:Value}{ms:List Int}{S:Nat->Prop}(hl:dD B W m ms)(hW:ab W W' S)(hS:∀ b,S b->∃ t cs,Bk W b t cs/\t≠3):dD B W' m ms:=⟨fT hl.1 hW hS,hl.2⟩
section
variable {w w':World}{X:XP}{k:Lk}{m:Mc}
theorem yL (h:Ex w X k m)(t:Nat)(ht:t<k.n)(un:Bool):
 Calls Tryz.prog 22 #[K (V ⟨X.x,0,Z⟩),I Q t,.bool un] w (zK w X k (co k m t un)):=by
 have hnn:=h.lk.n64
 have hl:=h.lk.parts.2.1
 have hx:=h.mc.cs t ht
 obtain⟨r0,r1,r2,r3,r4,r5,r6,r7,pc,ec⟩:=h.bC ht
 have HB0:=fun(v:Value) W hW=>Ba ⟨k.l,k.lo,k.un⟩ v (m.cs t).xs (m.cs t).pc t un W hW hl h.lk.ok hx (by omega) (by omega)
 have hE:=fS h.lk.ok (self:=(t:Int)) (by omega) (by omega) 256 (m.cs t).xs (if un then k.un else k.lo) [] hx
 obtain⟨RR,hRR⟩:∃ R,R=fJ (t:Int) k.l 256 (m.cs t).xs (if un then k.un else k.lo) []:=⟨_,rfl⟩
 rw[<-hRR] at hE
 have HR:Hid (co k m t un=({ m with cs:=eL m.cs t ⟨RR.xs,RR.pc⟩ },⟨RR.ms,RR.done,-1,T,T,RR.e⟩)):=J (by unfold co im;simp only[hRR])
 have HX:=J h
 obtain⟨sxs,PC,ms,D,E⟩:=RR
 simp only at hE HR
 obtain⟨s0,s1,s2,s3,s4,s5,s6,s7,rfl⟩:=aD hE.1
 have HE8:=J hE
 have HB:Hid (∀ W,Ex W X k m->Calls Tryz.prog 51 #[.agg #[I O r0,I O r1,I O r2,I O r3,I O r4,I O r5,I O r6,I O r7,I Q pc],.agg #[X.cv,I Q k.lo,I Q k.un],I Q t,.bool un] W fun e w'=>∃ m5,e=.returned (.tuple #[.agg #[I O s0,I O s1,I O s2,I O s3,I O s4,I O s5,I O s6,I O s7,I Q PC],m5,I Q D,I Q E])/\dD W.heap.size w' m5 ms/\Below W.heap.size W w'):=J fun W hW=>by
  have h1:=HB0 _ W hW.pv.1
  rw[ec] at h1 hRR
  simp only at h1
  rw[<-hRR] at h1
  exact h1.mono fun e w' ⟨m5,q1,q2,q3⟩=>⟨m5,q1,q2,q3⟩
 clear HB0 hE hRR hx
 rw[HR.out]
 clear HR
 have q0:=Bk.made w 64 #[U Z 0 0,I Q 0,I Q 0,.bool T,.bool T,I Q 0]
 have b0:Below w.heap.size w (w.alloc (.cells #[U Z 0 0,I Q 0,I Q 0,.bool T,.bool T,I Q 0] 64)):=(H _ _).alloc (G _) _
 go_enter Tryz.func22,Tryz.ntmps22
 go_upto_region 1 with fail
 generalize w.alloc (.cells #[U Z 0 0,I Q 0,I Q 0,.bool T,.bool T,I Q 0] 64)=y at *
 have h2:=h.below b0
 go_wp2_with fail
 refine(lI h2 t ht).mono ?_
 rintro e w' ⟨rfl,rfl⟩
 clear h
 go_upto_region 3 with fail
 refine iY 19 20 111 #[I O 0,I O 0,I O 0,I O 0,I O 0,I O 0,I O 0,I O 0,I Q 0] (fun W b=>bm W b (I O s0) (I O s1) (I O s2) (I O s3) (I O s4) (I O s5) (I O s6) (I O s7) (I Q PC)) (fun W b=>Cb W b [s0,s1,s2,s3,s4,s5,s6,s7] PC) (fun vs=>{ tmps:=#[K (V ⟨X.x,0,Z⟩),I Q (t:Int),.bool un,F,F,F,K (V ⟨w.heap.size,0,Z⟩),vs 19,vs 21,vs 22,vs 23,K (V ⟨X.x,0,Z⟩),I Q (t:Int),.bool true,.bool T,F,vs 14,vs 0,vs 1,vs 2,vs 3,vs 4,vs 5,vs 6,vs 7,vs 8,vs 9,vs 10,vs 11,vs 12,vs 13,vs 15,vs 16,vs 17,vs 18,F,F,F,F,F,F,F,F,F,F,F],defers:=[] }) (lq [(13,(gu w.heap.size (.agg #[I O s0,I O s1,I O s2,I O s3,I O s4,I O s5,I O s6,I O s7,I Q PC]) ms D E)),(14,(gu w.heap.size (.agg #[I O s0,I O s1,I O s2,I O s3,I O s4,I O s5,I O s6,I O s7,I Q PC]) ms D E)),(16,(fun v W=>dD w.heap.size W v ms)),(21,(fun v W=>dD w.heap.size W v ms))] [K (V ⟨X.x,0,Z⟩),K (V ⟨X.x,0,Z⟩),K (V ⟨X.x,5,Z⟩),U (V ⟨X.kb,0,Z⟩) k.n k.n,I Q (t:Int),K (V ⟨X.kb,t*9,Z⟩),.agg #[I O r0,I O r1,I O r2,I O r3,I O r4,I O r5,I O r6,I O r7,I Q pc],K (V ⟨X.x,0,Z⟩),K (V ⟨X.x,0,Z⟩),K (V ⟨X.x,0,Z⟩),.agg #[X.cv,I Q k.lo,I Q k.un],I Q (t:Int),.bool un,F,F,.agg #[I O s0,I O s1,I O s2,I O s3,I O s4,I O s5,I O s6,I O s7,I Q PC],F,I Q D,I Q E,F,F,F,I Q D,I Q E]) ?ghm ?ghr ?ghns ?ghlen ?glit ?gst ?gst2 ?gd1 ?gbel ?gdn ?gnew ?gsto ?gops ?gdone
 case ghm=>kernel_rfl
 case ghr=>kernel_rfl
 case ghns=>kernel_rfl
 case ghlen=>rfl
 case glit=>intro vs;rfl
 case gst=>exact dy (by
  intro p hp
  simp only[List.mem_cons,List.not_mem_nil,or_false] at hp
  rcases hp with rfl|rfl|rfl|rfl
  ·exact fun v W W2 h hb=>gu.below h hb
  ·exact fun v W W2 h hb=>gu.below h hb
  ·exact fun v W W2 h hb=>ez h hb
  ·exact fun v W W2 h hb=>ez h hb)
 case gst2=>
  have hk:=gK (R:=fun W W2=>∃ b,Bk W b 111 #[I O 0,I O 0,I O 0,I O 0,I O 0,I O 0,I O 0,I O 0,I Q 0]/\W2=bm W b (I O s0) (I O s1) (I O s2) (I O s3) (I O s4) (I O s5) (I O s6) (I O s7) (I Q PC)) (ps:=[(13,(gu w.heap.size (.agg #[I O s0,I O s1,I O s2,I O s3,I O s4,I O s5,I O s6,I O s7,I Q PC]) ms D E)),(14,(gu w.heap.size (.agg #[I O s0,I O s1,I O s2,I O s3,I O s4,I O s5,I O s6,I O s7,I Q PC]) ms D E)),(16,(fun v W=>dD w.heap.size W v ms)),(21,(fun v W=>dD w.heap.size W v ms))]) (l:=[K (V ⟨X.x,0,Z⟩),K (V ⟨X.x,0,Z⟩),K (V ⟨X.x,5,Z⟩),U (V ⟨X.kb,0,Z⟩) k.n k.n,I Q (t:Int),K (V ⟨X.kb,t*9,Z⟩),.agg #[I O r0,I O r1,I O r2,I O r3,I O r4,I O r5,I O r6,I O r7,I Q pc],K (V ⟨X.x,0,Z⟩),K (V ⟨X.x,0,Z⟩),K (V ⟨X.x,0,Z⟩),.agg #[X.cv,I Q k.lo,I Q k.un],I Q (t:Int),.bool un,F,F,.agg #[I O s0,I O s1,I O s2,I O s3,I O s4,I O s5,I O s6,I O s7,I Q PC],F,I Q D,I Q E,F,F,F,I Q D,I Q E]) (by
   intro p hp
   simp only[List.mem_cons,List.not_mem_nil,or_false] at hp
   rcases hp with rfl|rfl|rfl|rfl
   ·rintro v W W2 ⟨m5,e5,h5⟩ ⟨b,hk,rfl⟩;exact⟨m5,e5,iL h5 hk (by decide) (I O s0) (I O s1) (I O s2) (I O s3) (I O s4) (I O s5) (I O s6) (I O s7) (I Q PC)⟩
   ·rintro v W W2 ⟨m5,e5,h5⟩ ⟨b,hk,rfl⟩;exact⟨m5,e5,iL h5 hk (by decide) (I O s0) (I O s1) (I O s2) (I O s3) (I O s4) (I O s5) (I O s6) (I O s7) (I Q PC)⟩
   ·rintro v W W2 h ⟨b,hk,rfl⟩;exact iL h hk (by decide) (I O s0) (I O s1) (I O s2) (I O s3) (I O s4) (I O s5) (I O s6) (I O s7) (I Q PC)
   ·rintro v W W2 h ⟨b,hk,rfl⟩;exact iL h hk (by decide) (I O s0) (I O s1) (I O s2) (I O s3) (I O s4) (I O s5) (I O s6) (I O s7) (I Q PC))
  exact fun i v W b h hb=>hk i v W _ h ⟨b,hb,rfl⟩
 case gd1=>exact fun W W2 b h hb=>Cb.below h hb
 case gbel=>exact fun W b hb h=>aX h hb (I O s0) (I O s1) (I O s2) (I O s3) (I O s4) (I O s5) (I O s6) (I O s7) (I Q PC)
 case gdn=>exact fun W b h=>bu h (I O s0) (I O s1) (I O s2) (I O s3) (I O s4) (I O s5) (I O s6) (I O s7) (I Q PC)
 case gnew=>
  intro o ho vs W hW
  injection ho with ho
  subst ho
  refine aa rfl ?_
  go_simp
  exact⟨⟨W.heap.size,rfl,hW.size,Cb.made W [0,0,0,0,0,0,0,0] 0⟩,(H _ _).alloc (G _) _⟩
 case gsto=>
  intro o ho vs W b hW hd hb hk
  injection ho with ho
  subst ho
  have ev:vs 15=.agg #[I O s0,I O s1,I O s2,I O s3,I O s4,I O s5,I O s6,I O s7,I Q PC]:=hd 15 (by decide) rfl
  have zf:=Bk.free hk
  obtain⟨z0,z1,z2,z3,z4,z5,z6,z7,z8⟩:=Cb.cells hk
  refine aO rfl ?_
  clear hd
  go_simp
  rfl
 case gops=>
  refine⟨?_,?_,?_,?_,?_,?_,?_,?_,?_,?_,?_,?_,?_,?_,?_,?_,?_,?_,?_,?_,?_,?_,?_,?_,trivial⟩
  ·intro _ vs W hW hd
   refine aa rfl ?_
   go_simp
   exact⟨rfl,H _ _⟩
  ·intro _ vs W hW hd
   refine aa rfl ?_
   have e0:vs 0=K (V ⟨X.x,0,Z⟩):=hd 0 (by decide) rfl
   go_simp
   exact⟨rfl,H _ _⟩
  ·intro _ vs W hW hd
   refine aa rfl ?_
   have e1:vs 1=K (V ⟨X.x,0,Z⟩):=hd 1 (by decide) rfl
   go_simp
   exact⟨rfl,H _ _⟩
  ·intro _ vs W hW hd
   refine aa rfl ?_
   have e2:vs 2=K (V ⟨X.x,5,Z⟩):=hd 2 (by decide) rfl
   have hq:=h2.below hW;have c0x:=hq.c0;have c1x:=hq.c1;have c2x:=hq.c2;have c5x:=hq.c5;obtain⟨c0,c1,c2,c3,c4,c5,c6,c7,c8⟩:=hq.core ht ec;clear hq
   go_simp
   exact⟨rfl,H _ _⟩
  ·intro _ vs W hW hd
   refine aa rfl ?_
   go_simp
   exact⟨rfl,H _ _⟩
  ·intro _ vs W hW hd
   refine aa rfl ?_
   have e3:vs 3=U (V ⟨X.kb,0,Z⟩) k.n k.n:=hd 3 (by decide) rfl
   have e4:vs 4=I Q (t:Int):=hd 4 (by decide) rfl
   go_simp
   exact⟨rfl,H _ _⟩
  ·intro _ vs W hW hd
   refine aa rfl ?_
   have e5:vs 5=K (V ⟨X.kb,t*9,Z⟩):=hd 5 (by decide) rfl
   have hq:=h2.below hW;have c0x:=hq.c0;have c1x:=hq.c1;have c2x:=hq.c2;have c5x:=hq.c5;obtain⟨c0,c1,c2,c3,c4,c5,c6,c7,c8⟩:=hq.core ht ec;clear hq
   go_simp
   exact⟨rfl,H _ _⟩
  ·intro _ vs W hW hd
   refine aa rfl ?_
   go_simp
   exact⟨rfl,H _ _⟩
  ·intro _ vs W hW hd
   refine aa rfl ?_
   have e7:vs 7=K (V ⟨X.x,0,Z⟩):=hd 7 (by decide) rfl
   go_simp
   exact⟨rfl,H _ _⟩
  ·intro _ vs W hW hd
   refine aa rfl ?_
   have e8:vs 8=K (V ⟨X.x,0,Z⟩):=hd 8 (by decide) rfl
   go_simp
   exact⟨rfl,H _ _⟩
  ·intro _ vs W hW hd
   refine aa rfl ?_
   have e9:vs 9=K (V ⟨X.x,0,Z⟩):=hd 9 (by decide) rfl
   have hq:=h2.below hW;have c0x:=hq.c0;have c1x:=hq.c1;have c2x:=hq.c2;have c5x:=hq.c5;obtain⟨c0,c1,c2,c3,c4,c5,c6,c7,c8⟩:=hq.core ht ec;clear hq
   go_simp
   exact⟨rfl,H _ _⟩
  ·intro _ vs W hW hd
   refine aa rfl ?_
   go_simp
   exact⟨rfl,H _ _⟩
  ·intro _ vs W hW hd
   refine aa rfl ?_
   go_simp
   exact⟨rfl,H _ _⟩
  ·intro _ vs W hW hd
   refine aa rfl ?_
   have e6:vs 6=.agg #[I O r0,I O r1,I O r2,I O r3,I O r4,I O r5,I O r6,I O r7,I Q pc]:=hd 6 (by decide) rfl
   have e10:vs 10=.agg #[X.cv,I Q k.lo,I Q k.un]:=hd 10 (by decide) rfl
   have e11:vs 11=I Q (t:Int):=hd 11 (by decide) rfl
   have e12:vs 12=.bool un:=hd 12 (by decide) rfl
   have HS:=J (HB.out W (h2.below hW))
   clear hd
   go_simp
   refine HS.out.mono ?_
   rintro e z ⟨m5,he,hm5,hz⟩
   exact⟨_,he,⟨m5,rfl,hm5.mono (Nat.le_trans b0.size hW.size)⟩,hz⟩
  ·intro _ vs W hW hd
   refine aa rfl ?_
   obtain⟨m5,e13,hm5⟩:gu w.heap.size (.agg #[I O s0,I O s1,I O s2,I O s3,I O s4,I O s5,I O s6,I O s7,I Q PC]) ms D E (vs 13) W:=hd 13 (by decide) rfl
   clear hd
   go_simp
   exact⟨⟨m5,rfl,hm5⟩,H _ _⟩
  ·intro _ vs W hW hd
   refine aa rfl ?_
   obtain⟨m5,e14,hm5⟩:gu w.heap.size (.agg #[I O s0,I O s1,I O s2,I O s3,I O s4,I O s5,I O s6,I O s7,I Q PC]) ms D E (vs 14) W:=hd 14 (by decide) rfl
   clear hd
   go_simp
   exact⟨rfl,H _ _⟩
  ·intro _ vs W hW hd
   refine aa rfl ?_
   obtain⟨m5,e14,hm5⟩:gu w.heap.size (.agg #[I O s0,I O s1,I O s2,I O s3,I O s4,I O s5,I O s6,I O s7,I Q PC]) ms D E (vs 14) W:=hd 14 (by decide) rfl
   clear hd
   go_simp
   exact⟨hm5,H _ _⟩
  ·intro _ vs W hW hd
   refine aa rfl ?_
   obtain⟨m5,e14,hm5⟩:gu w.heap.size (.agg #[I O s0,I O s1,I O s2,I O s3,I O s4,I O s5,I O s6,I O s7,I Q PC]) ms D E (vs 14) W:=hd 14 (by decide) rfl
   clear hd
   go_simp
   exact⟨rfl,H _ _⟩
  ·intro _ vs W hW hd
   refine aa rfl ?_
   obtain⟨m5,e14,hm5⟩:gu w.heap.size (.agg #[I O s0,I O s1,I O s2,I O s3,I O s4,I O s5,I O s6,I O s7,I Q PC]) ms D E (vs 14) W:=hd 14 (by decide) rfl
   clear hd
   go_simp
   exact⟨rfl,H _ _⟩
  ·exact fun h=>absurd h (by decide)
  ·exact fun h=>absurd h (by decide)
  ·intro _ vs W hW hd
   refine aa rfl ?_
   have h8:dD w.heap.size W (vs 16) ms:=hd 16 (by decide) rfl
   clear hd
   go_simp
   exact⟨h8,H _ _⟩
  ·intro _ vs W hW hd
   refine aa rfl ?_
   have e17:vs 17=I Q D:=hd 17 (by decide) rfl
   go_simp
   exact⟨rfl,H _ _⟩
  ·intro _ vs W hW hd
   refine aa rfl ?_
   have e18:vs 18=I Q E:=hd 18 (by decide) rfl
   go_simp
   exact⟨rfl,H _ _⟩
 case gdone=>
  intro vs W b hW hf hgv hgb pb
  have f0:vs 0=K (V ⟨X.x,0,Z⟩):=hf 0 (by decide) rfl
  have f1:vs 1=K (V ⟨X.x,0,Z⟩):=hf 1 (by decide) rfl
  have f2:vs 2=K (V ⟨X.x,5,Z⟩):=hf 2 (by decide) rfl
  have f3:vs 3=U (V ⟨X.kb,0,Z⟩) k.n k.n:=hf 3 (by decide) rfl
  have f4:vs 4=I Q (t:Int):=hf 4 (by decide) rfl
  have f5:vs 5=K (V ⟨X.kb,t*9,Z⟩):=hf 5 (by decide) rfl
  have f6:vs 6=.agg #[I O r0,I O r1,I O r2,I O r3,I O r4,I O r5,I O r6,I O r7,I Q pc]:=hf 6 (by decide) rfl
  have f7:vs 7=K (V ⟨X.x,0,Z⟩):=hf 7 (by decide) rfl
  have f8:vs 8=K (V ⟨X.x,0,Z⟩):=hf 8 (by decide) rfl
  have f9:vs 9=K (V ⟨X.x,0,Z⟩):=hf 9 (by decide) rfl
  have f10:vs 10=.agg #[X.cv,I Q k.lo,I Q k.un]:=hf 10 (by decide) rfl
  have f11:vs 11=I Q (t:Int):=hf 11 (by decide) rfl
  have f12:vs 12=.bool un:=hf 12 (by decide) rfl
  have f15:vs 15=.agg #[I O s0,I O s1,I O s2,I O s3,I O s4,I O s5,I O s6,I O s7,I Q PC]:=hf 15 (by decide) rfl
  have f17:vs 17=I Q D:=hf 17 (by decide) rfl
  have f18:vs 18=I Q E:=hf 18 (by decide) rfl
  have f22:vs 22=I Q D:=hf 22 (by decide) rfl
  have f23:vs 23=I Q E:=hf 23 (by decide) rfl
  simp only[f0,f1,f2,f3,f4,f5,f6,f7,f8,f9,f10,f11,f12,f15,f17,f18,f22,f23]
  have hm2:dD w.heap.size W (vs 21) ms:=hf 21 (by decide) rfl
  simp only[hgv]
  clear hf hgv f0 f1 f2 f3 f4 f5 f6 f7 f8 f9 f10 f11 f12 f15 f17 f18 f22 f23
  generalize vs 21=m2 at *
  generalize vs 13=w13 at *
  generalize vs 14=w14 at *
  generalize vs 16=w16 at *
  have h3:=h2.below hW
  have q3:=(hW.block _ q0.lt).trans q0
  replace b0:=b0.trans (hW.mono b0.size)
  clear h2 q0 hW hgb
  have cx5:=h3.c5
  obtain⟨c0,c1,c2,c3,c4,c5,c6,c7,c8⟩:=h3.core ht ec
  obtain⟨d0,d1,d2,d3,d4,d5,d6,d7,d8⟩:=pb.cells
  have zf:=h3.free
  have hOwn:∀ i,X.Own k.n i->i<w.heap.size:=fun i hi=>HX.out.lt hi
  have hkb:X.kb<w.heap.size:=hOwn _ (.inr (.inr (.inl rfl)))
  have hkb2:w.heap.size≠X.kb:=by omega
  go_upto_region 4 with fail
  go_region
  have h4:=h3.put ht (c:=⟨[s0,s1,s2,s3,s4,s5,s6,s7],PC⟩) HE8.out
  have hw4:ab W (gV W X.kb (t*9) (bO [s0,s1,s2,s3,s4,s5,s6,s7] PC)) (fun i=>i=X.kb):=.ay (eE _ _ _) (by rintro i e;injection e with e;exact .inl e.symm)
  have q4:=Bk.within q3 hw4 hkb2
  have l4:=dz hm2 hw4 (by rintro b' rfl;exact⟨_,_,h3.cores,by decide⟩)
  have st4:=(bh.ay (n:=k.n) (X:=X) b0).bx (bh.put (X:=X) (n:=k.n) (w:=W) (t:=t*9) (vs:=bO [s0,s1,s2,s3,s4,s5,s6,s7] PC))
  generalize hv4:(((((((((W.setCell ⟨X.kb,(t*9),Z⟩ (I O s0)).setCell ⟨X.kb,(t*9)+1,Z⟩ (I O s1)).setCell ⟨X.kb,(t*9)+2,Z⟩ (I O s2)).setCell ⟨X.kb,(t*9)+3,Z⟩ (I O s3)).setCell ⟨X.kb,(t*9)+4,Z⟩ (I O s4)).setCell ⟨X.kb,(t*9)+5,Z⟩ (I O s5)).setCell ⟨X.kb,(t*9)+6,Z⟩ (I O s6)).setCell ⟨X.kb,(t*9)+7,Z⟩ (I O s7)).setCell ⟨X.kb,(t*9)+8,Z⟩ (I Q PC))=v4
  replace hv4:gV W X.kb (t*9) (bO [s0,s1,s2,s3,s4,s5,s6,s7] PC)=v4:=hv4
  rw[hv4] at h4 hw4 q4 l4 st4
  clear hv4 hw4 h3 q3 hm2 b0 c0 c1 c2 c3 c4 c5 c6 c7 c8 d0 d1 d2 d3 d4 d5 d6 d7 d8 zf pb cx5
  replace h4:=h4.below (H _ v4).drew
  replace q4:Bk v4.drew _ _ _:=q4
  replace l4:dD w.heap.size v4.drew m2 ms:=l4
  replace st4:=st4.grown (H _ v4).drew
  generalize v4.drew=v5 at *
  obtain⟨z0,z1,z2,z3,z4,z5⟩:=q4.ia
  have zf:=Bk.free q4
  have p1:=cx q4 m2 (I Q D) (I Q (-1)) (.bool T) (.bool T) (I Q E)
  have p2:=ba (y:=v5) (g:=w.heap.size) m2 (I Q D) (I Q (-1)) (.bool T) (.bool T) (I Q E)
  obtain⟨a9,c9,e9,-⟩:=l4.1.is
  have l6:=dz l4 p2 (by rintro b' rfl;exact⟨_,_,q4,by decide⟩)
  have h6:=h4.iP (n:=w.heap.size) (b:=w.heap.size) (p2.wide (fun i e _=>by omega)) (fun i hi=>.inl (hOwn i hi))
  have st6:=st4.iP (n:=w.heap.size) (b:=w.heap.size) (p2.wide (fun i e _=>by omega)) (G _)
  subst e9
  go_wp2
  generalize hv9:((((((v5.setCell ⟨w.heap.size,0,Z⟩ ((U a9 ms.length c9))).setCell ⟨w.heap.size,1,Z⟩ (I Q D)).setCell ⟨w.heap.size,2,Z⟩ (I Q (-1))).setCell ⟨w.heap.size,3,Z⟩ (.bool T)).setCell ⟨w.heap.size,4,Z⟩ (.bool T)).setCell ⟨w.heap.size,5,Z⟩ (I Q E))=v9
  replace hv9:cr v5 w.heap.size (U a9 ms.length c9) (I Q D) (I Q (-1)) (.bool T) (.bool T) (I Q E)=v9:=hv9
  rw[hv9] at p1 l6 h6 st6
  clear hv9 p2 h4 st4 l4 q4 z0 z1 z2 z3 z4 z5 zf
  obtain⟨o0,o1,o2,o3,o4,o5⟩:=p1.ia
  exact bodyPost_ret (v:=.agg #[(U a9 ms.length c9),I Q D,I Q (-1),.bool T,.bool T,I Q E]) (by simp[results,Tryz.results22,go_sem,o0,o1,o2,o3,o4,o5]) rfl ⟨U a9 ms.length c9,X.M,rfl,l6,h6,st6⟩
end
def dV (W W2:World):Prop:=∃ b t cs,Bk W b t cs/\t≠3/\ab W W2 (fun i=>i=b)
theorem dV.Dm {B:Nat}{W W2:World}{m:Value}{ms:List Int}(h:dV W W2)(hl:dD B W m ms):dD B W2 m ms:=by
 obtain⟨b,t,cs,h1,h2,h3⟩:=h
 exact dz hl h3 (by rintro b' rfl;exact⟨t,cs,h1,h2⟩)
theorem bh.oD {v w w':World}{N:Nat}{X X':XP}{S:Nat->Prop}(h:bh v N X w X')(hw:ab w w' S)(hs:∀ i,S i->v.heap.size<=i):bh v N X w' X':=
 ⟨h.1.bx hw (fun i e=>.inr (hs i e)),h.2.1,h.2.2⟩
structure uk (w:World)(X X':XP)(k:Lk)(m:Mc)(W:World):Prop where
 ex:Ex W X' k m
 st:bh w k.n X W X'
 q:Bk W w.heap.size 64 #[U Z 0 0,I Q 0,I Q 0,.bool T,.bool T,I Q 0]
structure Fe (w:World)(X':XP)(n b9 b10:Nat):Prop where
 iP:∀ i,X'.Own n i->i≠w.heap.size/\i≠b9/\i≠b10
 n9:w.heap.size<b9
 n10:b9<b10
def BZ (w:World)(X X':XP)(k:Lk)(m:Mc)(b9 b10:Nat)(c0 c1:kg)(ad:Int)(wr:Bool)(ms:List Int)(D E:Int):Nat->World->Prop
 | 0,W=>uk w X X' k m W/\Cb W b9 c0.xs c0.pc/\Bk W b10 64 #[U Z 0 0,I Q (-1),I Q ad,.bool wr,.bool T,I Q 0]
 | 1,W=>uk w X X' k m W/\Cb W b9 c1.xs c1.pc/\Bk W b10 64 #[U Z 0 0,I Q (-1),I Q ad,.bool wr,.bool T,I Q 0]
 | 2,W=>uk w X X' k m W/\Cb W b9 c1.xs c1.pc/\∃ v,dD w.heap.size W v ms/\Bk W b10 64 #[v,I Q (-1),I Q ad,.bool wr,.bool T,I Q 0]
 | 3,W=>uk w X X' k m W/\Cb W b9 c1.xs c1.pc/\∃ v,dD w.heap.size W v ms/\Bk W b10 64 #[v,I Q D,I Q ad,.bool wr,.bool T,I Q 0]
 | _,W=>uk w X X' k m W/\Cb W b9 c1.xs c1.pc/\∃ v,dD w.heap.size W v ms/\Bk W b10 64 #[v,I Q D,I Q ad,.bool wr,.bool T,I Q E]
section
variable {w W W':World}{X X':XP}{k:Lk}{m:Mc}{b9 b10:Nat}{c0 c1:kg}{ad:Int}{wr:Bool}{ms:List Int}{D E:Int}
theorem uk.below (h:uk w X X' k m W)(hb:Below W.heap.size W W'):uk w X X' k m W':=⟨h.ex.below hb,h.st.grown hb,(hb.block _ h.q.lt).trans h.q⟩
theorem uk.iP (h:uk w X X' k m W)(hf:Fe w X' k.n b9 b10){S:Nat->Prop}(hw:ab W W' S)(hs:∀ i,S i->i=b9\/i=b10):uk w X X' k m W':=
 ⟨h.ex.kept hw (fun i hi e=>by have:=hf.iP i hi;have:=hs i e;omega),h.st.oD hw (fun i e=>by have:=hs i e;have:=hf.n9;have:=hf.n10;omega),h.q.within hw (fun e=>by have:=hs _ e;have:=hf.n9;have:=hf.n10;omega)⟩
theorem uw {j:Nat}(h:BZ w X X' k m b9 b10 c0 c1 ad wr ms D E j W)(hb:Below W.heap.size W W'):BZ w X X' k m b9 b10 c0 c1 ad wr ms D E j W':=by
 match j,h with
 | 0,⟨h1,h2,h3⟩=>exact⟨h1.below hb,Cb.below h2 hb,(hb.block _ h3.lt).trans h3⟩
 | 1,⟨h1,h2,h3⟩=>exact⟨h1.below hb,Cb.below h2 hb,(hb.block _ h3.lt).trans h3⟩
 | 2,⟨h1,h2,v,h4,h3⟩=>exact⟨h1.below hb,Cb.below h2 hb,v,ez h4 hb,(hb.block _ h3.lt).trans h3⟩
 | 3,⟨h1,h2,v,h4,h3⟩=>exact⟨h1.below hb,Cb.below h2 hb,v,ez h4 hb,(hb.block _ h3.lt).trans h3⟩
 | _+4,⟨h1,h2,v,h4,h3⟩=>exact⟨h1.below hb,Cb.below h2 hb,v,ez h4 hb,(hb.block _ (Bk.lt h3)).trans h3⟩
theorem D4 {s0 s1 s2 s3 s4 s5 s6 s7 u0 u1 u2 u3 u4 u5 u6 u7 PC P2:Int}(hf:Fe w X' k.n b9 b10)(h:BZ w X X' k m b9 b10 ⟨[s0,s1,s2,s3,s4,s5,s6,s7],PC⟩ ⟨[u0,u1,u2,u3,u4,u5,u6,u7],P2⟩ ad wr ms D E 0 W):
 BZ w X X' k m b9 b10 ⟨[s0,s1,s2,s3,s4,s5,s6,s7],PC⟩ ⟨[u0,u1,u2,u3,u4,u5,u6,u7],P2⟩ ad wr ms D E 1 (bm W b9 (I O u0) (I O u1) (I O u2) (I O u3) (I O u4) (I O u5) (I O u6) (I O u7) (I Q P2))/\dV W (bm W b9 (I O u0) (I O u1) (I O u2) (I O u3) (I O u4) (I O u5) (I O u6) (I O u7) (I Q P2)):=by
 obtain⟨h1,h2,h3⟩:=h
 have hW:=gg (y:=W) (g:=b9) (I O u0) (I O u1) (I O u2) (I O u3) (I O u4) (I O u5) (I O u6) (I O u7) (I Q P2)
 have h4:Cb (bm W b9 (I O u0) (I O u1) (I O u2) (I O u3) (I O u4) (I O u5) (I O u6) (I O u7) (I Q P2)) b9 [u0,u1,u2,u3,u4,u5,u6,u7] P2:=bu h2 (I O u0) (I O u1) (I O u2) (I O u3) (I O u4) (I O u5) (I O u6) (I O u7) (I Q P2)
 generalize bm W b9 (I O u0) (I O u1) (I O u2) (I O u3) (I O u4) (I O u5) (I O u6) (I O u7) (I Q P2)=z at *
 exact⟨⟨h1.iP hf hW (fun i e=>.inl e),h4,h3.within hW (by have:=hf.n10;omega)⟩,b9,_,_,h2,by decide,hW⟩
theorem D3 {v:Value}(hf:Fe w X' k.n b9 b10)(h:BZ w X X' k m b9 b10 c0 c1 ad wr ms D E 1 W)(hl:dD w.heap.size W v ms):
 BZ w X X' k m b9 b10 c0 c1 ad wr ms D E 2 (W.setCell ⟨b10,0,Z⟩ v)/\dV W (W.setCell ⟨b10,0,Z⟩ v):=by
 obtain⟨h1,h2,h3⟩:=h
 have hW:ab W (W.setCell ⟨b10,0,Z⟩ v) (fun i=>i=b10):=(ab.refl _ _).put _ _ _ (.inl rfl)
 have h5:dV W (W.setCell ⟨b10,0,Z⟩ v):=⟨b10,_,_,h3,by decide,hW⟩
 exact⟨⟨h1.iP hf hW (fun i e=>.inr e),Bk.within h2 hW (by have:=hf.n10;omega),v,h5.Dm hl,h3.put 0 v⟩,h5⟩
theorem D2 (hf:Fe w X' k.n b9 b10)(h:BZ w X X' k m b9 b10 c0 c1 ad wr ms D E 2 W):
 BZ w X X' k m b9 b10 c0 c1 ad wr ms D E 3 (W.setCell ⟨b10,1,Z⟩ (I Q D))/\dV W (W.setCell ⟨b10,1,Z⟩ (I Q D)):=by
 obtain⟨h1,h2,v,hl,h3⟩:=h
 have hW:ab W (W.setCell ⟨b10,1,Z⟩ (I Q D)) (fun i=>i=b10):=(ab.refl _ _).put _ _ _ (.inl rfl)
 have h5:dV W (W.setCell ⟨b10,1,Z⟩ (I Q D)):=⟨b10,_,_,h3,by decide,hW⟩
 exact⟨⟨h1.iP hf hW (fun i e=>.inr e),Bk.within h2 hW (by have:=hf.n10;omega),v,h5.Dm hl,h3.put 1 (I Q D)⟩,h5⟩
theorem D1 (hf:Fe w X' k.n b9 b10)(h:BZ w X X' k m b9 b10 c0 c1 ad wr ms D E 3 W):
 BZ w X X' k m b9 b10 c0 c1 ad wr ms D E 4 (W.setCell ⟨b10,5,Z⟩ (I Q E))/\dV W (W.setCell ⟨b10,5,Z⟩ (I Q E)):=by
 obtain⟨h1,h2,v,hl,h3⟩:=h
 have hW:ab W (W.setCell ⟨b10,5,Z⟩ (I Q E)) (fun i=>i=b10):=(ab.refl _ _).put _ _ _ (.inl rfl)
 have h5:dV W (W.setCell ⟨b10,5,Z⟩ (I Q E)):=⟨b10,_,_,h3,by decide,hW⟩
 exact⟨⟨h1.iP hf hW (fun i e=>.inr e),Bk.within h2 hW (by have:=hf.n10;omega),v,h5.Dm hl,h3.put 5 (I Q E)⟩,h5⟩
end
section
variable {w w':World}{X:XP}{k:Lk}{m:Mc}
theorem xX (h:Ex w X k m){t:Nat}(ht:t<k.n){i:aM}{late:Bool}{c:kg}(hc:bg c.xs){r:Dn}(hr:DE k m t c late i=V r):bg r.c.xs:=by
 unfold DE at hr
 split at hr
 ·injection hr with hr
  subst hr
  obtain⟨fr,os,cn,hp,hs⟩:=h.dZ
  refine hc.put _ ?_
  unfold wh
  cases he:m.pn.free t with
  | nil=>simp only;omega
  | cons q rest=>exact xI hs (hs.take ht he).1
 ·split at hr
  ·split at hr
   ·cases hr
   ·injection hr with hr
    subst hr
    exact hc
  ·split at hr
   ·cases hr
   ·injection hr with hr
    subst hr
    exact mo h.mc.ws hc
end
def Bt (r7:List Int)(j:Nat):Nat->kg:=fun t=>if t<j then ⟨[0,0,0,0,0,0,0,aG r7 t],0⟩ else ⟨[0,0,0,0,0,0,0,0],0⟩
theorem BQ (r7:List Int):Bt r7 0=fun _=>⟨[0,0,0,0,0,0,0,0],0⟩:=by funext t;simp[Bt]
theorem xZ (r7:List Int)(j:Nat):eL (Bt r7 j) j ⟨(Bt r7 j j).xs.set 7 (aG r7 j),(Bt r7 j j).pc⟩=Bt r7 (j+1):=by
 funext t
 unfold eL Bt
 by_cases e:t=j
 ·subst e;simp
 ·by_cases h:t<j
  ·simp[e,h,show t<j+1 by omega]
  ·simp[e,h,show ¬ t<j+1 by omega]
theorem A2 {k:Lk}{init r7:List Int}(h:r7.length=k.n):Bt r7 k.n=(oB k init r7).cs:=by
 funext t
 unfold Bt oB
 by_cases e:t<k.n
 ·simp[e]
 ·have:aG r7 t=0:=by unfold aG;rw[List.getD_eq_getElem?_getD,List.getElem?_eq_none (by omega)];rfl
  simp[e,this]
theorem sK {cs:Nat->kg}{n:Nat}(h:∀ t,t<n->bg (cs t).xs){t j:Nat}(ht:t<n)(hj:j<8){v:Int}(hv:0<=v/\v<4294967296):(eQ cs n).set (t*9+j) (I O v)=eQ (eL cs t ⟨(cs t).xs.set j v,(cs t).pc⟩) n:=by
 have hc:bg ((⟨(cs t).xs.set j v,(cs t).pc⟩:kg).xs):=(h t ht).put j hv
 have h2:=eR (n:=n) h hc t
 have hl:=fU h
 have hl2:=fU h2
 apply List.ext_getElem?
 intro i
 by_cases hi:i<n*9
 ·obtain⟨s,q,hs,hq,rfl⟩:∃ s q,s<n/\q<9/\i=s*9+q:=⟨i / 9,i % 9,by omega,by omega,by omega⟩
  rw[List.getElem?_set,fO h2 hs hq,fO h hs hq]
  by_cases e:s=t
  ·subst e
   rw[kj]
   by_cases eq:q=j
   ·subst eq
    rw[if_pos rfl,if_pos (by omega)]
    have h8:=(h s hs).1
    simp only
    unfold bO
    rw[List.getElem?_append_left (by simp;omega),List.getElem?_map,List.getElem?_set_self (by omega)]
    rfl
   ·rw[if_neg (by omega)]
    simp only
    unfold bO
    rw[List.getElem?_append,List.getElem?_append]
    simp only[List.length_map,List.length_set]
    split
    ·rw[List.getElem?_map,List.getElem?_map,List.getElem?_set_ne (fun e=>eq e.symm)]
    ·rfl
  ·rw[if_neg (by omega),i5 e]
 ·rw[List.getElem?_eq_none (by rw[List.length_set];omega),List.getElem?_eq_none (by omega)]
theorem sc (n:Nat):madeCells #[I O 0,I O 0,I O 0,I O 0,I O 0,I O 0,I O 0,I O 0,I Q 0] (n*9)=(eQ (fun _=>⟨[0,0,0,0,0,0,0,0],0⟩) n).toArray:=by
 have h8:∀ t,t<n->bg ((fun _=>⟨[0,0,0,0,0,0,0,0],0⟩:Nat->kg) t).xs:=fun _ _=>⟨rfl,fz.fW 8⟩
 have hl:=fU h8
 apply Array.ext_getElem?
 intro i
 have hr:(eQ (fun _=>⟨[0,0,0,0,0,0,0,0],0⟩) n).toArray[i]?=(eQ (fun _=>⟨[0,0,0,0,0,0,0,0],0⟩) n)[i]?:=List.getElem?_toArray
 rw[hr]
 clear hr
 by_cases hi:i<n*9
 ·obtain⟨s,q,hs,hq,rfl⟩:∃ s q,s<n/\q<9/\i=s*9+q:=⟨i / 9,i % 9,by omega,by omega,by omega⟩
  rw[fO h8 hs hq]
  have e3:(s*9+q) % 9=q:=by omega
  have hq':q=0\/q=1\/q=2\/q=3\/q=4\/q=5\/q=6\/q=7\/q=8:=by omega
  have hsz:s*9+q<(madeCells #[I O 0,I O 0,I O 0,I O 0,I O 0,I O 0,I O 0,I O 0,I Q 0] (n*9)).size:=by rw[size_madeCells];exact hi
  rw[Array.getElem?_eq_getElem hsz]
  simp only[madeCells,Array.getElem_map,Array.getElem_range]
  simp only[List.size_toArray,List.length_cons,List.length_nil,Nat.zero_add,Nat.reduceAdd,e3]
  rcases hq' with rfl|rfl|rfl|rfl|rfl|rfl|rfl|rfl|rfl <;> rfl
 ·rw[Array.getElem?_eq_none (by rw[size_madeCells];omega),List.getElem?_eq_none (by omega)]
section
variable {w w':World}{X:XP}{k:Lk}{m:Mc}
theorem Ex.Cn (h:Ex w X k m){t j:Nat}(ht:t<k.n)(hj:j<8){v:Int}(hv:0<=v/\v<4294967296):Ex (w.setCell ⟨X.kb,t*9+j,Z⟩ (I O v)) X k { m with cs:=eL m.cs t ⟨(m.cs t).xs.set j v,(m.cs t).pc⟩ }:=by
 have hW:ab w (w.setCell ⟨X.kb,t*9+j,Z⟩ (I O v)) (fun i=>i=X.kb):=(ab.refl _ _).put _ _ _ (.inl rfl)
 obtain⟨fr,os,cn,hp,hs⟩:=h.dZ
 have hb:=h.cores.put (t*9+j) (I O v)
 rw[List.setIfInBounds_toArray,sK h.mc.cs ht hj hv] at hb
 refine⟨h.ptr.within hW (Bk.aj h.ptr h.cores (by decide)),aq h.code hW (fun g e e2=>?_),hb,h.mem.within hW (Bk.aj h.mem.ptr h.cores (by decide)) (Bk.aj h.mem.cel.ptr h.cores (by decide)) (Bk.aj h.mem.cel.row h.cores (by decide)) (Bk.aj h.mem.row h.cores (by decide)),
  ⟨fr,os,cn,hp.kept hW (Bk.aj hp.ptr h.cores (by decide)) (Bk.aj hp.row h.cores (by decide)) (fun i hi e=>hp.dF h.cores (by decide) (by decide) (e ▸ hi)),hs⟩,h.lk,⟨h.mc.ws,h.mc.len,eR h.mc.cs ((h.mc.cs t ht).put j hv) t⟩⟩
 obtain⟨cs',hcs⟩:=aZ h.code e
 exact Bk.aj hcs h.cores (by decide) e2
def FG (w:World)(k:Lk)(init r7:List Int)(e:Ending)(w':World):Prop:=
 ∃ X,e=.returned (.tuple #[K (V ⟨X.x,0,Z⟩),I Q 0])/\Ex w' X k (oB k init r7)/\Below w.heap.size w w'/\∀ i,X.Own k.n i->w.heap.size<=i
theorem yc:(Tryz.prog.info? 111).map (fun i=>(i.zero,i.size,i.bytes))=V (V (.agg #[I O 0,I O 0,I O 0,I O 0,I O 0,I O 0,I O 0,I O 0,I Q 0]),9,40):=by kernel_rfl
def Fd (w:World)(k:Lk)(v:Value)(W:World):Prop:=∃ sl,v=.agg #[sl,I Q k.lo,I Q k.un]/\W.ownsRow w.heap.size 121 8 sl k.l.length (bD k.l)
def Fc (w:World)(k:Lk)(v:Value)(W:World):Prop:=∃ b,v=U (V ⟨b,0,Z⟩) k.n k.n/\w.heap.size<=b/\Bk W b 111 (eQ (fun _=>⟨[0,0,0,0,0,0,0,0],0⟩) k.n).toArray
def Fb (w:World)(k:Lk)(p pp:Nat)(v:Value)(W:World):Prop:=∃ sl b,v=.agg #[sl,I Q k.lo,I Q k.un,K (V ⟨p,0,Z⟩),K (V ⟨pp,0,Z⟩),U (V ⟨b,0,Z⟩) k.n k.n]/\W.ownsRow w.heap.size 121 8 sl k.l.length (bD k.l)/\w.heap.size<=b/\Bk W b 111 (eQ (fun _=>⟨[0,0,0,0,0,0,0,0],0⟩) k.n).toArray
def DI (w:World)(k:Lk)(p pp:Nat)(v:Value)(W:World):Prop:=∃ x sl b,v=K (V ⟨x,0,Z⟩)/\w.heap.size<=x/\Bk W x 108 #[sl,I Q k.lo,I Q k.un,K (V ⟨p,0,Z⟩),K (V ⟨pp,0,Z⟩),U (V ⟨b,0,Z⟩) k.n k.n]/\W.ownsRow w.heap.size 121 8 sl k.l.length (bD k.l)/\w.heap.size<=b/\Bk W b 111 (eQ (fun _=>⟨[0,0,0,0,0,0,0,0],0⟩) k.n).toArray
theorem Fd.below {W W':World}{v:Value}(h:Fd w k v W)(hb:Below W.heap.size W W'):Fd w k v W':=by
 obtain⟨sl,e,h⟩:=h
 exact⟨sl,e,dG h hb⟩
theorem Fc.below {W W':World}{v:Value}(h:Fc w k v W)(hb:Below W.heap.size W W'):Fc w k v W':=by
 obtain⟨b,e,h1,h2⟩:=h
 exact⟨b,e,h1,(hb.block _ h2.lt).trans h2⟩
theorem Fb.below {W W':World}{p pp:Nat}{v:Value}(h:Fb w k p pp v W)(hb:Below W.heap.size W W'):Fb w k p pp v W':=by
 obtain⟨sl,b,e,h1,h2,h3⟩:=h
 exact⟨sl,b,e,dG h1 hb,h2,(hb.block _ h3.lt).trans h3⟩
theorem DI.below {W W':World}{p pp:Nat}{v:Value}(h:DI w k p pp v W)(hb:Below W.heap.size W W'):DI w k p pp v W':=by
 obtain⟨x,sl,b,e,h1,h2,h3,h4,h5⟩:=h
 exact⟨x,sl,b,e,h1,(hb.block _ h2.lt).trans h2,dG h3 hb,h4,(hb.block _ h5.lt).trans h5⟩
theorem Fk {v:Value}{init r7:List Int}(hk:lu k)(hv:Sv w v ⟨k.l,k.lo,k.un⟩ k.zs init r7 k.each)(hi:init.length=jf k.zs)(hiu:fz init)(hr:r7.length=k.n)(hru:fz r7):
 Calls Tryz.prog 19 #[v,I Q k.n] w (FG w k init r7):=by
 have HI:=J (And.intro hi (And.intro hiu (And.intro hr hru)))
 clear hi hiu hr hru
 have hn1:=hk.n1
 have hn64:=hk.n64
 have hl64:=hk.parts.2.1
 obtain⟨aL,cL,aS,cS,aI,cI,aR,cR,rfl,hpv,hgS,hgI,hgR,hm1,hm2,hm3⟩:=hv
 simp only at hpv ⊢
 obtain⟨i0,hi0,hz0,hz1,hz2⟩:=info_parts yc
 have hmk:=fun W:World=>run_make (P:=Tryz.prog) W 106 111 i0 _ Tryz.underlying106 hi0 hz0 .i64 .i64 k.n k.n (by omega) (by omega) (by rw[hz2];omega) (by omega)
 rw[hz1] at hmk
 clear hi0 hz0 hz1 hz2
 have HMK:=J hmk
 clear hmk
 have q0:=Bk.made w 29 #[U aL k.l.length cL,I Q k.lo,I Q k.un,U aS k.zs.length cS,U aI init.length cI,I Q k.each,U aR r7.length cR]
 have b0:Below w.heap.size w (w.alloc (.cells #[U aL k.l.length cL,I Q k.lo,I Q k.un,U aS k.zs.length cS,U aI init.length cI,I Q k.each,U aR r7.length cR] 29)):=(H _ _).alloc (G _) _
 go_enter Tryz.func19,Tryz.ntmps19
 go_upto_region 1 with fail
 generalize w.alloc (.cells #[U aL k.l.length cL,I Q k.lo,I Q k.un,U aS k.zs.length cS,U aI init.length cI,I Q k.each,U aR r7.length cR] 29)=y at *
 have hR:=sO ⟨k.l,k.lo,k.un⟩ _ y (hpv.below b0) hk.k32
 rw[hk.code] at hR
 obtain⟨y0,y1,y2,y3,y4,y5,y6⟩:=q0.Bq
 go_wp2_with fail
 refine hR.mono ?_
 rintro e z1 ⟨rfl,hz⟩
 have q1:=(hz.block _ q0.lt).trans q0
 have b1:=b0.trans (hz.mono b0.size)
 clear q0 b0 hz hR y0 y1 y2 y3 y4 y5 y6
 have hlen:((r7.length:Int) != (k.n:Int))=T:=by rw[HI.out.2.2.1];simp
 obtain⟨y0,y1,y2,y3,y4,y5,y6⟩:z1.cell? ⟨w.heap.size,0,Z⟩=V (U aL k.l.length cL)/\z1.cell? ⟨w.heap.size,1,Z⟩=V (I Q k.lo)/\z1.cell? ⟨w.heap.size,2,Z⟩=V (I Q k.un)/\z1.cell? ⟨w.heap.size,3,Z⟩=V (U aS k.zs.length cS)/\z1.cell? ⟨w.heap.size,4,Z⟩=V (U aI init.length cI)/\z1.cell? ⟨w.heap.size,5,Z⟩=V (I Q k.each)/\z1.cell? ⟨w.heap.size,6,Z⟩=V (U aR r7.length cR):=⟨Bk.cell q1 0,Bk.cell q1 1,Bk.cell q1 2,Bk.cell q1 3,Bk.cell q1 4,Bk.cell q1 5,Bk.cell q1 6⟩
 have hM:=Ft (hgS.below b1) (hgI.below b1) hk.zs HI.out.1.symm (by rw[HI.out.1];exact hk.few) HI.out.2.1 cS cI
 go_wp2_with fail
 refine hM.mono ?_
 rintro e z2 ⟨p,q,g,s,rfl,hMm,hbnd,hgr⟩
 have hz:=aP hgr
 have q2:=(hz.block _ (Bk.lt q1)).trans q1
 have b2:=b1.trans (hz.mono b1.size)
 clear hM hgr y0 y1 y2 y3 y4 y5 y6 hz q1 hlen
 have hbw:=b1.size
 obtain⟨y0,y1,y2,y3,y4,y5,y6⟩:z2.cell? ⟨w.heap.size,0,Z⟩=V (U aL k.l.length cL)/\z2.cell? ⟨w.heap.size,1,Z⟩=V (I Q k.lo)/\z2.cell? ⟨w.heap.size,2,Z⟩=V (I Q k.un)/\z2.cell? ⟨w.heap.size,3,Z⟩=V (U aS k.zs.length cS)/\z2.cell? ⟨w.heap.size,4,Z⟩=V (U aI init.length cI)/\z2.cell? ⟨w.heap.size,5,Z⟩=V (I Q k.each)/\z2.cell? ⟨w.heap.size,6,Z⟩=V (U aR r7.length cR):=⟨Bk.cell q2 0,Bk.cell q2 1,Bk.cell q2 2,Bk.cell q2 3,Bk.cell q2 4,Bk.cell q2 5,Bk.cell q2 6⟩
 have hP:=Ec k.n k.each hn1 hn64 hk.each z2
 go_wp2_with fail
 refine hP.mono ?_
 rintro e z3 ⟨pp,M,rfl,hPl,hgr,hMn,hpn,hgn⟩
 have hz:=aP hgr
 have q3:=(hz.block _ (Bk.lt q2)).trans q2
 have b3:=b2.trans (hz.mono b2.size)
 replace hMm:=hMm.grown hgr
 clear hP hgr y0 y1 y2 y3 y4 y5 y6 hz q2
 have hbw2:=b2.size
 have hNW:Hid ((w.heap.size<=p/\w.heap.size<=q/\w.heap.size<=g/\w.heap.size<=s)/\w.heap.size<=pp/\w.heap.size<=M.g/\∀ i,M.Has k.n i->w.heap.size<=i):=J ⟨by omega,by omega,by omega,fun i hi=>Nat.le_trans hbw2 (hMn i hi)⟩
 clear hbnd hMn hpn hgn hbw hbw2 b1 b2
 have hPA:zl z3 pp k.n k.each M (oA k.n k.each):=⟨_,_,_,hPl,qj k.n k.each hn64 hk.each⟩
 clear hPl
 have HCP:=J (fun W (hW:Below w.heap.size w W)=>Ev ⟨k.l,k.lo,k.un⟩ _ W (hpv.below hW) (by show k.l.length<=1000;omega))
 go_upto_region 9 with fail
 refine cG [] (fun _ W=>Bk W w.heap.size 29 #[U aL k.l.length cL,I Q k.lo,I Q k.un,U aS k.zs.length cS,U aI init.length cI,I Q k.each,U aR r7.length cR]/\Below w.heap.size w W/\Below z3.heap.size z3 W) (fun _ _ _=>False) (fun vs=>{ tmps:=#[.agg #[U aL k.l.length cL,I Q k.lo,I Q k.un,U aS k.zs.length cS,U aI init.length cI,I Q (k.each:Int),U aR r7.length cR],I Q (k.n:Int),K (V ⟨w.heap.size,0,Z⟩),F,.pointer Z,I Q 0,K (V ⟨p,0,Z⟩),I Q 0,K (V ⟨pp,0,Z⟩),vs 9,F,F,K (V ⟨w.heap.size,0,Z⟩),.agg #[U aL k.l.length cL,I Q k.lo,I Q k.un],.bool true,.bool T,.bool T,K (V ⟨w.heap.size,6,Z⟩),U aR r7.length cR,I Q (r7.length:Int),I Q (k.n:Int),.bool T,.bool T,.tuple #[K (V ⟨p,0,Z⟩),I Q 0],K (V ⟨w.heap.size,3,Z⟩),U aS k.zs.length cS,K (V ⟨w.heap.size,4,Z⟩),U aI init.length cI,.tuple #[K (V ⟨p,0,Z⟩),I Q 0],K (V ⟨p,0,Z⟩),I Q 0,I Q 0,.bool T,.tuple #[K (V ⟨pp,0,Z⟩),I Q 0],I Q (k.n:Int),K (V ⟨w.heap.size,5,Z⟩),I Q (k.each:Int),.tuple #[K (V ⟨pp,0,Z⟩),I Q 0],K (V ⟨pp,0,Z⟩),I Q 0,I Q 0,.bool T,vs 0,vs 1,vs 2,vs 3,vs 4,vs 5,vs 6,vs 7,vs 8,F,F,F,F,F,F,F,F,F,F,F,F,F,F,F,F,F,F,F],defers:=[] }) (lq [(2,(Fd w k)),(6,(Fc w k)),(7,(Fb w k p pp)),(8,(DI w k p pp)),(9,(DI w k p pp))] [K (V ⟨w.heap.size,0,Z⟩),.agg #[U aL k.l.length cL,I Q k.lo,I Q k.un],F,K (V ⟨p,0,Z⟩),K (V ⟨pp,0,Z⟩),I Q (k.n:Int),F,F,F,F]) ?ghm ?ghr ?ghc ?ghnd ?ghlit ?gh0 ?ghW ?ghF ?ghS ?gops ?gdone
 case ghm=>kernel_rfl
 case ghr=>kernel_rfl
 case ghc=>kernel_rfl
 case ghnd=>decide
 case ghlit=>intro vs;rfl
 case gh0=>exact⟨q3,b3,H _ _⟩
 case ghW=>exact fun kk W W2 h hb=>⟨(hb.block _ (Bk.lt h.1)).trans h.1,h.2.1.trans (hb.mono h.2.1.size),h.2.2.trans (hb.mono h.2.2.size)⟩
 case ghF=>exact dy (by
  intro p0 hp
  simp only[List.mem_cons,List.not_mem_nil,or_false] at hp
  rcases hp with rfl|rfl|rfl|rfl|rfl
  ·exact fun v W W2 h hb=>Fd.below h hb
  ·exact fun v W W2 h hb=>Fc.below h hb
  ·exact fun v W W2 h hb=>Fb.below h hb
  ·exact fun v W W2 h hb=>DI.below h hb
  ·exact fun v W W2 h hb=>DI.below h hb)
 case ghS=>exact fun kk W W2 _ hs i v h=>hs.elim
 case gops=>
  refine⟨?_,?_,?_,?_,?_,?_,?_,?_,?_,?_,trivial⟩
  ·intro vs W kk h1 h2 hW hd
   obtain rfl:kk=0:=Nat.le_zero.1 h2
   refine aa rfl ?_
   clear hd
   go_simp
   exact⟨rfl,H _ _⟩
  ·intro vs W kk h1 h2 hW hd
   obtain rfl:kk=0:=Nat.le_zero.1 h2
   refine aa rfl ?_
   have e0:vs 0=K (V ⟨w.heap.size,0,Z⟩):=hd 0 (by decide)
   have hq:Bk W w.heap.size 29 #[U aL k.l.length cL,I Q k.lo,I Q k.un,U aS k.zs.length cS,U aI init.length cI,I Q k.each,U aR r7.length cR]:=hW.1;obtain⟨y0,y1,y2⟩:=hq.kY;clear hq
   clear hd
   go_simp
   exact⟨rfl,H _ _⟩
  ·intro vs W kk h1 h2 hW hd
   obtain rfl:kk=0:=Nat.le_zero.1 h2
   refine aa rfl ?_
   have e1:vs 1=.agg #[U aL k.l.length cL,I Q k.lo,I Q k.un]:=hd 1 (by decide)
   have HS:=J (HCP.out W hW.2.1)
   have hsz:=hW.2.1.size
   clear hd
   go_simp
   refine HS.out.mono ?_
   rintro e zz ⟨v9,he,⟨sl,e9,ho⟩,hb⟩
   exact⟨v9,he,⟨sl,e9,World.ownsRow.mono (base':=w.heap.size) ho hsz⟩,hb⟩
  ·intro vs W kk h1 h2 hW hd
   obtain rfl:kk=0:=Nat.le_zero.1 h2
   refine aa rfl ?_
   clear hd
   go_simp
   exact⟨rfl,H _ _⟩
  ·intro vs W kk h1 h2 hW hd
   obtain rfl:kk=0:=Nat.le_zero.1 h2
   refine aa rfl ?_
   clear hd
   go_simp
   exact⟨rfl,H _ _⟩
  ·intro vs W kk h1 h2 hW hd
   obtain rfl:kk=0:=Nat.le_zero.1 h2
   refine aa rfl ?_
   clear hd
   go_simp
   exact⟨rfl,H _ _⟩
  ·intro vs W kk h1 h2 hW hd
   obtain rfl:kk=0:=Nat.le_zero.1 h2
   refine aa rfl ?_
   have e5:vs 5=I Q (k.n:Int):=hd 5 (by decide)
   have hmk:=HMK.out W
   have hsz:=hW.2.1.size
   clear hd
   go_simp
   exact⟨⟨W.heap.size,rfl,hsz,by rw[<-sc];exact Bk.made _ _ _⟩,(H _ _).alloc (G _) _⟩
  ·intro vs W kk h1 h2 hW hd
   obtain rfl:kk=0:=Nat.le_zero.1 h2
   refine aa rfl ?_
   have e3:vs 3=K (V ⟨p,0,Z⟩):=hd 3 (by decide)
   have e4:vs 4=K (V ⟨pp,0,Z⟩):=hd 4 (by decide)
   obtain⟨sl,e2,ho⟩:Fd w k (vs 2) W:=hd 2 (by decide)
   obtain⟨kb,e6,hkb,hk6⟩:Fc w k (vs 6) W:=hd 6 (by decide)
   clear hd
   go_simp
   exact⟨⟨sl,kb,rfl,ho,hkb,hk6⟩,H _ _⟩
  ·intro vs W kk h1 h2 hW hd
   obtain rfl:kk=0:=Nat.le_zero.1 h2
   refine aa rfl ?_
   obtain⟨sl,kb,e7,ho,hkb,hk6⟩:Fb w k p pp (vs 7) W:=hd 7 (by decide)
   have hsz:=hW.2.1.size
   clear hd
   go_simp
   exact⟨⟨W.heap.size,sl,kb,rfl,hsz,Bk.made _ _ _,aq ho ((ab.refl _ (fun _=>False)).alloc _) (by simp),hkb,Bk.alloc hk6 _⟩,(H _ _).alloc (G _) _⟩
  ·intro vs W kk h1 h2 hW hd
   obtain rfl:kk=0:=Nat.le_zero.1 h2
   refine aa rfl ?_
   have h8:DI w k p pp (vs 8) W:=hd 8 (by decide)
   clear hd
   go_simp
   exact⟨h8,H _ _⟩
 case gdone=>
  intro vs W hW hf
  have f0:vs 0=K (V ⟨w.heap.size,0,Z⟩):=hf 0 (by decide)
  have f1:vs 1=.agg #[U aL k.l.length cL,I Q k.lo,I Q k.un]:=hf 1 (by decide)
  have f3:vs 3=K (V ⟨p,0,Z⟩):=hf 3 (by decide)
  have f4:vs 4=K (V ⟨pp,0,Z⟩):=hf 4 (by decide)
  have f5:vs 5=I Q (k.n:Int):=hf 5 (by decide)
  simp only[f0,f1,f3,f4,f5]
  clear f0 f1 f3 f4 f5
  have h9:DI w k p pp (vs 9) W:=hf 9 (by decide)
  obtain⟨x,sl,kb,e9,hx,hBx,ho,hkb,hBk⟩:=h9
  simp only[e9]
  clear hf
  generalize vs 2=w2 at *
  generalize vs 6=w6 at *
  generalize vs 7=w7 at *
  generalize vs 8=w8 at *
  obtain⟨hqW,hbW,hzW⟩:=hW
  obtain⟨fr0,os0,cn0,hPl,hSm⟩:=hPA
  have hX:Ex W ⟨x,sl,kb,p,q,g,s,pp,M⟩ k { oB k init r7 with cs:=Bt r7 0 }:=by
   refine⟨hBx,World.ownsRow.mono (base':=0) ho (Nat.zero_le _),?_,hMm.grown (bM hzW),⟨fr0,os0,cn0,hPl.grown (bM hzW),hSm⟩,hk,⟨HI.out.2.1,HI.out.1,?_⟩⟩
   ·rw[BQ];exact hBk
   ·intro t ht
    rw[BQ]
    exact⟨rfl,fz.fW 8⟩
  have hOwn:Hid (∀ i,XP.Own ⟨x,sl,kb,p,q,g,s,pp,M⟩ k.n i->w.heap.size<=i):=J fun i hi=>by
   obtain⟨⟨n1,n2,n3,n4⟩,n5,n6,n7⟩:=hNW.out
   rcases hi with e | e | e | e | e | e | e | e | e | e
   ·simp only at e;omega
   ·exact(World.ownsRow.lt ho i e).1
   ·simp only at e;omega
   ·simp only at e;omega
   ·simp only at e;omega
   ·simp only at e;omega
   ·simp only at e;omega
   ·simp only at e;omega
   ·simp only at e;omega
   ·exact n7 i e
  have hqW6:Hid (W.cell? ⟨w.heap.size,6,Z⟩=V (U aR r7.length cR)):=J (Bk.cell hqW 6)
  clear hBx ho hBk hMm hPl hSm hqW hzW q3 b3 hNW HCP HMK hx hkb
  have c5x:W.cell? ⟨w.heap.size,6,Z⟩=V (U aR r7.length cR):=hqW6.out
  go_wp2
  go_loopw [54] (fun i wr=>∃ j:Nat,j<=k.n/\i=I Q j/\Ex wr ⟨x,sl,kb,p,q,g,s,pp,M⟩ k { oB k init r7 with cs:=Bt r7 j }/\Below w.heap.size w wr) (fun i _=>k.n-(intOf i).toNat)
  case atStart=>exact⟨0,Nat.zero_le _,rfl,hX,hbW⟩
  case round=>
   clear hX hbW c5x
   obtain⟨j,hj,rfl,hX,hbr⟩:=hrel
   by_cases hlt:j<k.n
   ·have hji:(j:Int)<k.n:=by omega
    have hrl:(j:Int)<r7.length:=by rw[HI.out.2.2.1];omega
    have hrl2:j<r7.length:=by rw[HI.out.2.2.1];omega
    obtain⟨b',off,rfl,hcell⟩:=(hgR.below hbr).here hrl2
    have hc5:wr.cell? ⟨x,5,Z⟩=V (U (V ⟨kb,0,Z⟩) k.n k.n):=hX.c5
    have hc7:wr.cell? ⟨kb,j*9+7,Z⟩=V (I O 0):=(hX.ub hlt (j:=7) (by omega)).trans (by unfold Bt;simp[bO])
    have hz7:=hX.free
    have hst:=hX.Cn hlt (j:=7) (by omega) (HI.out.2.2.2.at_ j)
    have HST:Hid (Ex (wr.setCell ⟨kb,j*9+7,Z⟩ (I O (aG r7 j))) ⟨x,sl,kb,p,q,g,s,pp,M⟩ k { oB k init r7 with cs:=Bt r7 (j+1) }):=J (by rw[<-xZ];exact hst)
    have HBR:=J (hbr.setCell (p:=⟨kb,j*9+7,Z⟩) (hOwn.out kb (.inr (.inr (.inl rfl)))) (I O (aG r7 j)))
    clear hst hX hbr
    go_wp2
    go_roundw
    case rel=>exact⟨j+1,by omega,by go_num,HST.out,HBR.out⟩
    case measure=>simp[intOf];omega
   ·obtain rfl:j=k.n:=by omega
    have hrl:¬ (k.n:Int)<r7.length:=by rw[HI.out.2.2.1];omega
    rw[A2 (init:=init) HI.out.2.2.1] at hX
    go_wp2
    go_ret2
    exact⟨_,rfl,hX,hbr,hOwn.out⟩
end
