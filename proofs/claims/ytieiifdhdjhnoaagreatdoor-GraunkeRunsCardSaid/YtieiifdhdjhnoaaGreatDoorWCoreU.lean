import Derived.Test.YtieiifdhdjhnoaaGreatDoorWCoreP
import Derived.Deep.DeepCutAuto
import Derived.Deep.CutBlock
import Derived.Deep.LoopGhost
set_option linter.unusedVariables false
set_option maxHeartbeats 4000000
set_option maxRecDepth 100000
open Go.Value renaming int->I,slice->V
open Go.IntKind renaming i64->Q,u32->N
open Option renaming none->O
open Bool renaming false->Z
open Go.Obj renaming cells->P
open Go.Lib renaming hid->T
open Go.RowKit.Below renaming refl->U
open Nat renaming le_refl->K
namespace Go.Proofs.YtieiifdhdjhnoaaGreatDoor
open Go.ChangeShapes Go.WideShapes Go.ChangeAt Go.RowKit
def pR (l:List aN)(pc:Int):Bool:=decide (0<=pc) && (match l[pc.toNat]? with
 | some i=>cX i.op
 | none=>Z)
def lH (l:List aN)(xs:List Int)(pc:Int)(ms:List Int):F1:=⟨xs,pc,ms,-1,if pR l pc then 0 else 11⟩
theorem ou {l:List aN}{pc:Int}(h:pc<0\/l.length<=pc):pR l pc=Z:=by
 unfold pR
 by_cases h0:0<=pc
 ·rw[List.getElem?_eq_none (by omega)];simp
 ·simp[h0]
theorem ng {l:List aN}{k:Nat}{i:aN}(h:l[k]?=some i):pR l k=cX i.op:=by
 unfold pR
 rw[Int.toNat_natCast,h]
 simp
theorem kB {self:Int}{l:List aN}{n:Nat}{xs:List Int}{pc:Int}{ms:List Int}(h:(pc<0\/l.length<=pc)\/pR l pc=true\/n=0):fM self l n xs pc ms=lH l xs pc ms:=by
 unfold lH
 by_cases ho:pc<0\/l.length<=pc
 ·rw[mW ho,ou ho];rfl
 ·obtain⟨k,rfl⟩:∃ k:Nat,pc=k:=⟨pc.toNat,by omega⟩
  have hk:=List.getElem?_eq_getElem (l:=l) (i:=k) (by omega)
  generalize l[k]=i at hk
  rw[ng hk] at h ⊢
  by_cases hm:cX i.op=true
  ·rw[mX hk hm,hm];rfl
  ·have hm':cX i.op=Z:=by simpa using hm
   rcases h with h | h | rfl
   ·exact absurd h ho
   ·exact absurd h hm
   ·rw[kA hk hm',hm'];rfl
theorem xI {xs:List Int}{pc:Int}{i:aN}{self:Int}(h:i.op=13):jq xs i self=xs/\lD xs pc i=pc:=by
 obtain⟨op,d,s,t,u,a,k,pl⟩:=i
 simp only at h
 subst h
 exact⟨rfl,rfl⟩
theorem Bv {w:World}{g:Nat}{xs:List Int}{pc:Int}(h:Cb w g xs pc):Cb w.drew g xs pc:=h
theorem qR {w:World}{k:IntKind}{t:TypeId}{v:Value}{xs:List Int}(h:eH k t w v xs):eH k t w.drew v xs:=h
def dH (B:Nat)(w:World)(v:Value)(xs:List Int):Prop:=eH .i64 3 w v xs/\∀ g,v.ownBlock=some g->B<=g
theorem dH.within {B:Nat}{w w':World}{v:Value}{xs:List Int}{S:Nat->Prop}(h:dH B w v xs)(hw:ab w w' S)(hn:∀ g,v.ownBlock=some g->¬ S g):dH B w' v xs:=⟨h.1.within hw hn,h.2⟩
theorem dH.mono {B C:Nat}{w:World}{v:Value}{xs:List Int}(h:dH C w v xs)(hc:B<=C):dH B w v xs:=⟨h.1,fun g e=>Nat.le_trans hc (h.2 g e)⟩
theorem dH.nil (B:Nat)(w:World):dH B w (V O 0 0) []:=⟨eH.nil _ _ _,fun g e=>by cases e⟩
structure km (w:World)(a:Option Addr)(n ca:Nat)(lo un:Int)(m:Value)(xs:List Int)(pc:Int)(ms:List Int)(wr:World):Prop where
 b:Below w.heap.size w wr
 c:Cb wr w.heap.size xs pc
 k:Bk wr (w.heap.size+1) 24 #[V a n ca,I Q lo,I Q un]
 r:Cb wr (w.heap.size+1+1) [0,0,0,0,0,0,0,0] 0
 l:eH .i64 3 wr m ms
 f:∀ g,m.ownBlock=some g->w.heap.size<=g
section
variable {w:World}{a:Option Addr}{n ca:Nat}{lo un:Int}{m:Value}{xs:List Int}{pc:Int}{ms:List Int}{wr wx:World}
theorem fQ (h:eH .i64 3 wr m ms)(hb:Below wr.heap.size wr wx):eH .i64 3 wx m ms:=h.within (ay hb) (by simp)
theorem km.below (h:km w a n ca lo un m xs pc ms wr)(hb:Below wr.heap.size wr wx):km w a n ca lo un m xs pc ms wx:=
 ⟨h.b.trans (hb.mono h.b.size),h.c.below hb,(hb.block _ h.k.lt).trans h.k,h.r.below hb,fQ h.l hb,h.f⟩
theorem km.one {r0 r1 r2 r3 r4 r5 r6 r7 s0 s1 s2 s3 s4 s5 s6 s7 pc':Int}(h:km w a n ca lo un m [r0,r1,r2,r3,r4,r5,r6,r7] pc ms wr):
 km w a n ca lo un m [s0,s1,s2,s3,s4,s5,s6,s7] pc' ms (bn wr w.heap.size (I N s0) (I N s1) (I N s2) (I N s3) (I N s4) (I N s5) (I N s6) (I N s7) (I Q pc')):=by
 refine⟨ba h.b (K _) _ _ _ _ _ _ _ _ _,bz h.c _ _ _ _ _ _ _ _ _,dX h.k (by omega) _ _ _ _ _ _ _ _ _,dX h.r (by omega) _ _ _ _ _ _ _ _ _,?_,h.f⟩
 have hW:ab wr (bn wr w.heap.size (I N s0) (I N s1) (I N s2) (I N s3) (I N s4) (I N s5) (I N s6) (I N s7) (I Q pc')) (fun b=>b=w.heap.size):=by
  unfold bn
  exact(((((((((ab.refl wr (fun b=>b=w.heap.size)).put _ 0 _ (.inl rfl)).put _ 1 _ (.inl rfl)).put _ 2 _ (.inl rfl)).put _ 3 _ (.inl rfl)).put _ 4 _ (.inl rfl)).put _ 5 _ (.inl rfl)).put _ 6 _ (.inl rfl)).put _ 7 _ (.inl rfl)).put _ 8 _ (.inl rfl)
 refine h.l.within hW fun g e e2=>?_
 obtain⟨cs,hcs⟩:=h.l.bk e
 exact Bk.aj hcs h.c (by decide) e2
theorem km.app {m':Value}{ms':List Int}(h:km w a n ca lo un m xs pc ms wr)(hl:eH .i64 3 wx m' ms')(hg:wr.grownBy wx m.ownBlock)(hw:∀ g,m.ownBlock=some g->w.heap.size<=g)(hw':∀ g,m'.ownBlock=some g->w.heap.size<=g):km w a n ca lo un m' xs pc ms' wx:=by
 have un_:∀ {g:Nat} {t:TypeId} {cs:Array Value},t≠3->Bk wr g t cs->Bk wx g t cs:=fun ht hk=>hk.grown hg fun e=>by
  obtain⟨cs,hcs⟩:=h.l.bk e.symm
  exact Bk.aj hcs hk (fun e=>ht e.symm) rfl
 refine⟨h.b.trans ⟨hg.os,hg.tape,hg.output,hg.size,fun i hi=>hg.block i (Nat.lt_of_lt_of_le hi h.b.size) fun e=>?_⟩,un_ (by decide) h.c,un_ (by decide) h.k,un_ (by decide) h.r,hl,hw'⟩
 have:=hw i e.symm
 omega
theorem km.ret {r0 r1 r2 r3 r4 r5 r6 r7 pc':Int}(h:km w a n ca lo un m xs pc ms wr):
 eH .i64 3 (bn wr (w.heap.size+1+1) (I N r0) (I N r1) (I N r2) (I N r3) (I N r4) (I N r5) (I N r6) (I N r7) (I Q pc')) m ms/\Below w.heap.size w (bn wr (w.heap.size+1+1) (I N r0) (I N r1) (I N r2) (I N r3) (I N r4) (I N r5) (I N r6) (I N r7) (I Q pc'))/\Cb (bn wr (w.heap.size+1+1) (I N r0) (I N r1) (I N r2) (I N r3) (I N r4) (I N r5) (I N r6) (I N r7) (I Q pc')) (w.heap.size+1+1) [r0,r1,r2,r3,r4,r5,r6,r7] pc':=by
 have hW:ab wr (bn wr (w.heap.size+1+1) (I N r0) (I N r1) (I N r2) (I N r3) (I N r4) (I N r5) (I N r6) (I N r7) (I Q pc')) (fun b=>b=w.heap.size+1+1):=by
  unfold bn
  exact(((((((((ab.refl wr (fun b=>b=w.heap.size+1+1)).put _ 0 _ (.inl rfl)).put _ 1 _ (.inl rfl)).put _ 2 _ (.inl rfl)).put _ 3 _ (.inl rfl)).put _ 4 _ (.inl rfl)).put _ 5 _ (.inl rfl)).put _ 6 _ (.inl rfl)).put _ 7 _ (.inl rfl)).put _ 8 _ (.inl rfl)
 refine⟨h.l.within hW fun g e e2=>?_,ba h.b (by omega) _ _ _ _ _ _ _ _ _,bz h.r _ _ _ _ _ _ _ _ _⟩
 obtain⟨cs,hcs⟩:=h.l.bk e
 exact Bk.aj hcs h.r (by decide) e2
end
def zU (w:World)(R:F1)(e:Ending)(w':World):Prop:=∃ m,e=.returned (.tuple #[cv R.xs R.pc,m,I Q R.done,I Q R.e])/\dH w.heap.size w' m R.ms/\Below w.heap.size w w'
theorem Ce (c:im)(v:Value)(xs:List Int)(pc:Int)(self:Int)(w:World)(hv:Pv w v c)(hl:c.l.length<=64)(hi:∀ i∈c.l,BM i)(hx:bh xs)(h0:0<=self)(h1:self<4294967296):
 Calls Tryz.prog 51 #[cv xs pc,v,I Q self] w (zU w (fM self c.l 256 xs pc [])):=by
 obtain⟨a,ca,rfl,hc1,hc2,hcn,ha⟩:=hv
 obtain⟨RR,hRR⟩:∃ R,R=fM self c.l 256 xs pc []:=⟨_,rfl⟩
 rw[<-hRR]
 have HD:=T hRR
 clear hRR
 obtain⟨r0,r1,r2,r3,r4,r5,r6,r7,rfl⟩:=aC hx.1
 have q0:Cb (((w.alloc (P #[I N r0,I N r1,I N r2,I N r3,I N r4,I N r5,I N r6,I N r7,I Q pc] 107)).alloc (P #[V a c.l.length ca,I Q c.lo,I Q c.un] 24)).alloc (P #[I N 0,I N 0,I N 0,I N 0,I N 0,I N 0,I N 0,I N 0,I Q 0] 107)) w.heap.size [r0,r1,r2,r3,r4,r5,r6,r7] pc:=((Cb.made w [r0,r1,r2,r3,r4,r5,r6,r7] pc).alloc (P #[V a c.l.length ca,I Q c.lo,I Q c.un] 24)).alloc (P #[I N 0,I N 0,I N 0,I N 0,I N 0,I N 0,I N 0,I N 0,I Q 0] 107)
 have q1:Bk (((w.alloc (P #[I N r0,I N r1,I N r2,I N r3,I N r4,I N r5,I N r6,I N r7,I Q pc] 107)).alloc (P #[V a c.l.length ca,I Q c.lo,I Q c.un] 24)).alloc (P #[I N 0,I N 0,I N 0,I N 0,I N 0,I N 0,I N 0,I N 0,I Q 0] 107)) (w.heap.size+1) 24 #[V a c.l.length ca,I Q c.lo,I Q c.un]:=by
  have:=Bk.alloc (Bk.made (w.alloc (P #[I N r0,I N r1,I N r2,I N r3,I N r4,I N r5,I N r6,I N r7,I Q pc] 107)) 24 #[V a c.l.length ca,I Q c.lo,I Q c.un]) (P #[I N 0,I N 0,I N 0,I N 0,I N 0,I N 0,I N 0,I N 0,I Q 0] 107)
  rw[World.size_alloc] at this
  exact this
 have q2:Cb (((w.alloc (P #[I N r0,I N r1,I N r2,I N r3,I N r4,I N r5,I N r6,I N r7,I Q pc] 107)).alloc (P #[V a c.l.length ca,I Q c.lo,I Q c.un] 24)).alloc (P #[I N 0,I N 0,I N 0,I N 0,I N 0,I N 0,I N 0,I N 0,I Q 0] 107)) (w.heap.size+1+1) [0,0,0,0,0,0,0,0] 0:=by
  have:=Cb.made ((w.alloc (P #[I N r0,I N r1,I N r2,I N r3,I N r4,I N r5,I N r6,I N r7,I Q pc] 107)).alloc (P #[V a c.l.length ca,I Q c.lo,I Q c.un] 24)) [0,0,0,0,0,0,0,0] 0
  rw[World.size_alloc,World.size_alloc] at this
  exact this
 have b0:Below w.heap.size w (((w.alloc (P #[I N r0,I N r1,I N r2,I N r3,I N r4,I N r5,I N r6,I N r7,I Q pc] 107)).alloc (P #[V a c.l.length ca,I Q c.lo,I Q c.un] 24)).alloc (P #[I N 0,I N 0,I N 0,I N 0,I N 0,I N 0,I N 0,I N 0,I Q 0] 107)):=(((U _ _).alloc (K _) _).alloc (by simp) _).alloc (by simp;omega) _
 unfold zU dH cv
 simp only[bP,List.map_cons,List.map_nil,List.cons_append,List.nil_append]
 go_enter Tryz.func51,Tryz.ntmps51
 go_upto_region 1 with fail
 generalize ((w.alloc (P #[I N r0,I N r1,I N r2,I N r3,I N r4,I N r5,I N r6,I N r7,I Q pc] 107)).alloc (P #[V a c.l.length ca,I Q c.lo,I Q c.un] 24)).alloc (P #[I N 0,I N 0,I N 0,I N 0,I N 0,I N 0,I N 0,I N 0,I Q 0] 107)=x at *
 have hI:km w a c.l.length ca c.lo c.un (V O 0 0) [r0,r1,r2,r3,r4,r5,r6,r7] pc [] x:=⟨b0,q0,q1,q2,eH.nil _ _ _,fun g e=>by cases e⟩
 clear q0 q1 q2 b0
 go_upto_block 0 with fail
 have hlo:∀ g,(Value.slice O 0 0).ownBlock=some g->w.heap.size<=g:=fun g e=>by cases e
 go_cut [7] (fun m wx=>∃ (xs:List Int) (pc:Int) (ms:List Int),km w a c.l.length ca c.lo c.un m xs pc ms wx/\bh xs/\Hid (RR=lH c.l xs pc ms))
 case first=>
  go_wp2
  go_loopw [7,14] (fun m t wr=>∃ (k:Nat) (xs:List Int) (pc:Int) (ms:List Int),t=I Q k/\k<=256/\km w a c.l.length ca c.lo c.un m xs pc ms wr/\(∀ g,m.ownBlock=some g->w.heap.size<=g)/\bh xs/\ms.length<=k/\Hid (RR=fM self c.l (256-k) xs pc ms)) (fun _ t _=>256-(intOf t).toNat)
  case atStart=>exact⟨0,_,_,_,rfl,Nat.zero_le _,hI,hlo,hx,K _,HD⟩
  case round=>
   obtain⟨k,xs,p,ms,rfl,hk,hJ,hown,hxs,hml,HR⟩:=hrel
   clear hI hlo hx HD
   by_cases hlt:k<256
   ·have hki:(k:Int)<256:=by omega
    obtain⟨x0,x1,x2,x3,x4,x5,x6,x7,rfl⟩:=aC hxs.1
    obtain⟨c0,c1,c2,c3,c4,c5,c6,c7,c8⟩:=hJ.c.cells
    obtain⟨k0,k1,k2⟩:=hJ.k.lz
    by_cases hst:p<0\/c.l.length<=p
    ·have HAT:=T (F0 c (.agg #[V a c.l.length ca,I Q c.lo,I Q c.un]) wr ⟨a,ca,rfl,hc1,hc2,hcn,ha.below hJ.b⟩ p aN.zero Z (.inl ⟨rfl,rfl,hst⟩))
     have HS:Hid (RR=lH c.l [x0,x1,x2,x3,x4,x5,x6,x7] p ms):=T (by rw[HR.out];exact kB (.inl hst))
     unfold iv aN.zero at HAT
     simp only at HAT
     clear hst HR
     go_upto_region 3 with fail
     go_wp2_with fail
     refine HAT.out.mono ?_
     rintro e y ⟨rfl,hy⟩
     replace hJ:=hJ.below hy
     go_upto_region 4 with fail
     replace hJ:=hJ.below ((U _ y).alloc (o:=P #[I Q 0,I Q 0,I Q 0,I Q 0,I Q 0,I Q 0,I N 0,I Q 0] 117) (K _))
     go_wp2
     go_meet
     case rel=>exact⟨_,_,_,hJ,hxs,HS⟩
    ·obtain⟨j,rfl⟩:∃ j:Nat,p=j:=⟨p.toNat,by omega⟩
     have hj:j<c.l.length:=by omega
     have hge:=List.getElem?_eq_getElem hj
     have hOk:=hi _ (List.getElem_mem hj)
     generalize c.l[j]=i at *
     have HAT:=T (F0 c (.agg #[V a c.l.length ca,I Q c.lo,I Q c.un]) wr ⟨a,ca,rfl,hc1,hc2,hcn,ha.below hJ.b⟩ (j:Int) i true (.inr ⟨rfl,j,rfl,hge⟩))
     have HM:=T (fun W=>kg i W)
     have HON:=T (fun W=>FH [x0,x1,x2,x3,x4,x5,x6,x7] (j:Int) i self hxs hOk h0 h1 (by omega) (by omega) W)
     have hx2:=hxs.one hOk h0 h1
     have HSM:Hid (cX i.op=true->RR=lH c.l [x0,x1,x2,x3,x4,x5,x6,x7] j ms):=T fun hm=>by rw[HR.out];exact kB (.inr (.inl (by rw[ng hge];exact hm)))
     have HSD:Hid (i.op=13->RR=⟨[x0,x1,x2,x3,x4,x5,x6,x7],j,ms,i.k,0⟩):=T fun hm=>by rw[HR.out,show 256-k=(255-k)+1 by omega];exact kD hge hm
     have HSS:Hid (cX i.op=Z->i.op≠13->RR=fM self c.l (256-(k+1)) (jq [x0,x1,x2,x3,x4,x5,x6,x7] i self) (lD [x0,x1,x2,x3,x4,x5,x6,x7] j i) (if i.op=12 then ms++[i.k] else ms)):=T fun hm h13=>by rw[HR.out,show 256-k=(256-(k+1))+1 by omega];exact kC hge hm h13
     have HDO:Hid (i.op=13->jq [x0,x1,x2,x3,x4,x5,x6,x7] i self=[x0,x1,x2,x3,x4,x5,x6,x7]/\lD [x0,x1,x2,x3,x4,x5,x6,x7] j i=j):=T xI
     have hkk:=hOk.k
     generalize jq [x0,x1,x2,x3,x4,x5,x6,x7] i self=XN at *
     generalize lD [x0,x1,x2,x3,x4,x5,x6,x7] j i=PN at *
     obtain⟨op,d,s,t,u,a',k',pl⟩:=i
     simp only at HM HON HSM HSD HSS HDO hkk
     unfold iv cv at *
     simp only[bP,List.map_cons,List.map_nil,List.cons_append,List.nil_append] at HAT HM HON
     generalize cX op=mb at *
     clear hst HR hOk hge
     go_upto_region 3 with fail
     go_wp2_with fail
     refine HAT.out.mono ?_
     rintro e y ⟨rfl,hy⟩
     clear c0 c1 c2 c3 c4 c5 c6 c7 c8 k0 k1 k2 HAT
     replace hJ:=hJ.below hy
     go_upto_region 4 with fail
     have m2:=Ib.made y op d s t u a' k' pl
     replace hJ:=hJ.below ((U _ y).alloc (o:=P #[I Q op,I Q d,I Q s,I Q t,I Q u,I Q a',I N k',I Q pl] 117) (K _))
     have hq:w.heap.size≠y.heap.size:=by
      intro e
      rw[<-e] at m2
      exact Bk.aj m2 hJ.c (by decide) rfl
     clear hy
     generalize y.heap.size=q at *
     generalize y.alloc (P #[I Q op,I Q d,I Q s,I Q t,I Q u,I Q a',I N k',I Q pl] 117)=z at *
     obtain⟨e0,e1,e2,e3,e4,e5,e6,e7⟩:=m2.cells
     simp only at e0 e1 e2 e3 e4 e5 e6 e7
     go_wp2_with fail
     refine(HM.out _).mono ?_
     rintro e z1 ⟨rfl,hz⟩
     clear e0 e1 e2 e3 e4 e5 e6 e7 HM
     replace hJ:=hJ.below hz
     replace m2:=m2.below hz
     clear hz
     obtain⟨e0,e1,e2,e3,e4,e5,e6,e7⟩:=m2.cells
     simp only at e0 e1 e2 e3 e4 e5 e6 e7
     cases mb with
     | true=>
      clear HSD HSS HDO HON
      go_wp2
      go_meet
      case rel=>exact⟨_,_,_,hJ,hxs,T (HSM.out (by trivial))⟩
     | false=>
      obtain⟨c0,c1,c2,c3,c4,c5,c6,c7,c8⟩:=hJ.c.cells
      obtain⟨s0,s1,s2,s3,s4,s5,s6,s7,hsx⟩:=aC hx2.1
      subst hsx
      simp only[List.map_cons,List.map_nil,List.cons_append,List.nil_append] at HON
      clear HSM
      go_upto_region 5 with fail
      go_wp2_with fail
      refine(HON.out _).mono ?_
      rintro e z2 ⟨rfl,hz⟩
      clear e0 e1 e2 e3 e4 e5 e6 e7 c0 c1 c2 c3 c4 c5 c6 c7 c8 HON
      replace hJ:=hJ.below hz
      replace m2:=m2.below hz
      clear hz
      obtain⟨c0,c1,c2,c3,c4,c5,c6,c7,c8⟩:=hJ.c.cells
      have zf:=Bk.free hJ.c
      have hJ2:=hJ.one (s0:=s0) (s1:=s1) (s2:=s2) (s3:=s3) (s4:=s4) (s5:=s5) (s6:=s6) (s7:=s7) (pc':=PN)
      have m3:Ib (bn z2 w.heap.size (I N s0) (I N s1) (I N s2) (I N s3) (I N s4) (I N s5) (I N s6) (I N s7) (I Q PN)) q _:=dX m2 (fun e=>hq e.symm) (I N s0) (I N s1) (I N s2) (I N s3) (I N s4) (I N s5) (I N s6) (I N s7) (I Q PN)
      clear m2 hJ
      go_upto_region 6 with fail
      clear c0 c1 c2 c3 c4 c5 c6 c7 c8 zf
      generalize hv:(((((((((z2.setCell ⟨w.heap.size,0,O⟩ (I N s0)).setCell ⟨w.heap.size,1,O⟩ (I N s1)).setCell ⟨w.heap.size,2,O⟩ (I N s2)).setCell ⟨w.heap.size,3,O⟩ (I N s3)).setCell ⟨w.heap.size,4,O⟩ (I N s4)).setCell ⟨w.heap.size,5,O⟩ (I N s5)).setCell ⟨w.heap.size,6,O⟩ (I N s6)).setCell ⟨w.heap.size,7,O⟩ (I N s7)).setCell ⟨w.heap.size,8,O⟩ (I Q PN))=z3
      replace hv:bn z2 w.heap.size (I N s0) (I N s1) (I N s2) (I N s3) (I N s4) (I N s5) (I N s6) (I N s7) (I Q PN)=z3:=hv
      rw[hv] at hJ2 m3
      clear hv
      obtain⟨e0,e1,e2,e3,e4,e5,e6,e7⟩:=m3.cells
      simp only at e0 e1 e2 e3 e4 e5 e6 e7
      by_cases h13:op=13
      ·subst h13
       have HE:=T (HSD.out rfl)
       have HG:=T (HDO.out rfl)
       have nq:q≠w.heap.size+1+1:=Bk.aj m3 hJ2.r (by decide)
       have n02:w.heap.size≠w.heap.size+1+1:=by omega
       clear HSD HSS HDO
       go_upto_region 10 with fail
       obtain⟨c0,c1,c2,c3,c4,c5,c6,c7,c8⟩:=hJ2.c.cells
       obtain⟨n0,n1,n2,n3,n4,n5,n6,n7,n8⟩:=hJ2.r.cells
       have zf:=Bk.free hJ2.r
       go_region
       have hf9:=hJ2.f
       obtain⟨l9,b9,k9⟩:=hJ2.ret (r0:=s0) (r1:=s1) (r2:=s2) (r3:=s3) (r4:=s4) (r5:=s5) (r6:=s6) (r7:=s7) (pc':=PN)
       go_wp
       generalize hv9:((((((((((z3.setCell ⟨w.heap.size+1+1,0,O⟩ (I N s0)).setCell ⟨w.heap.size+1+1,1,O⟩ (I N s1)).setCell ⟨w.heap.size+1+1,2,O⟩ (I N s2)).setCell ⟨w.heap.size+1+1,3,O⟩ (I N s3)).setCell ⟨w.heap.size+1+1,4,O⟩ (I N s4)).setCell ⟨w.heap.size+1+1,5,O⟩ (I N s5)).setCell ⟨w.heap.size+1+1,6,O⟩ (I N s6)).setCell ⟨w.heap.size+1+1,7,O⟩ (I N s7)).setCell ⟨w.heap.size+1+1,8,O⟩ (I Q PN))).drew=v9
       replace hv9:(bn z3 (w.heap.size+1+1) (I N s0) (I N s1) (I N s2) (I N s3) (I N s4) (I N s5) (I N s6) (I N s7) (I Q PN)).drew=v9:=hv9
       replace l9:=qR l9
       replace b9:=b9.drew
       replace k9:=Bv k9
       rw[hv9] at l9 b9 k9
       obtain⟨y0,y1,y2,y3,y4,y5,y6,y7,y8⟩:=k9.cells
       exact bodyPost_ret (v:=.tuple #[.agg #[I N s0,I N s1,I N s2,I N s3,I N s4,I N s5,I N s6,I N s7,I Q PN],u7,I Q k',I Q 0]) (by simp[results,Tryz.results51,go_sem,y0,y1,y2,y3,y4,y5,y6,y7,y8]) rfl ⟨_,by rw[HE.out,<-HG.out.1,<-HG.out.2];rfl,by rw[HE.out];exact⟨l9,hf9⟩,b9⟩
      by_cases h12:op=12
      ·subst h12
       have HE:=HSS.out (by trivial) h13
       rw[if_pos rfl] at HE
       replace HE:=T HE
       clear HSD HSS HDO
       have hL:=hJ2.l
       go_wp2_with (at_builtin;refine eK (by rfl) _ _ 25 (by rfl) 8 Tryz.underlying25 (by kernel_rfl) (by decide) hL (by rfl) k' (by rfl) (by omega) ?_;intro v' y' hL' hg hloc)
       have hown2:∀ g,v'.ownBlock=some g->w.heap.size<=g:=by
        intro g e
        rcases hloc with hl | hl
        ·exact hown g (hl ▸ e)
        ·rw[hl] at e
         injection e with e
         have:=hJ2.b.size
         omega
       have hJ3:=hJ2.app hL' hg hown hown2
       clear hJ2 hL hL' hg hloc
       go_roundw
       case rel=>exact⟨k+1,_,_,_,by go_num,by omega,hJ3,hown2,hx2,by simp;omega,HE⟩
       case measure=>
        show 256-((k:Int)+1).toNat<256-(k:Int).toNat
        omega
      ·have b13:(op==13)=Z:=by simpa using h13
       have b12:(op==12)=Z:=by simpa using h12
       have HE:=HSS.out (by trivial) h13
       rw[if_neg h12] at HE
       replace HE:=T HE
       clear HSD HSS HDO h13 h12
       go_wp2
       go_roundw
       case rel=>exact⟨k+1,_,_,_,by go_num,by omega,hJ2,hown,hx2,by omega,HE⟩
       case measure=>
        show 256-((k:Int)+1).toNat<256-(k:Int).toNat
        omega
   ·have hki:¬ (k:Int)<256:=by omega
    have HS:Hid (RR=lH c.l xs p ms):=T (by rw[HR.out];exact kB (.inr (.inr (by omega))))
    go_wp2
    go_meet
    case rel=>exact⟨_,_,_,hJ,hxs,HS⟩
 case rest=>
  obtain⟨xs,p,ms,hJ,hxs,HS⟩:=hcut
  clear hI hx HD hlo
  obtain⟨x0,x1,x2,x3,x4,x5,x6,x7,rfl⟩:=aC hxs.1
  generalize u7=m at *
  obtain⟨c0,c1,c2,c3,c4,c5,c6,c7,c8⟩:=hJ.c.cells
  obtain⟨k0,k1,k2⟩:=hJ.k.lz
  by_cases hst:p<0\/c.l.length<=p
  ·have HAT:=T (F0 c (.agg #[V a c.l.length ca,I Q c.lo,I Q c.un]) wc ⟨a,ca,rfl,hc1,hc2,hcn,ha.below hJ.b⟩ p aN.zero Z (.inl ⟨rfl,rfl,hst⟩))
   have HE:Hid (RR=⟨[x0,x1,x2,x3,x4,x5,x6,x7],p,ms,-1,11⟩):=T (by rw[HS.out];unfold lH;rw[ou hst];rfl)
   unfold iv aN.zero at HAT
   simp only at HAT
   clear hst HS
   go_upto_region 12 with fail
   go_wp2_with fail
   refine HAT.out.mono ?_
   rintro e y ⟨rfl,hy⟩
   clear c0 c1 c2 c3 c4 c5 c6 c7 c8 k0 k1 k2
   replace hJ:=hJ.below hy
   go_upto_region 13 with fail
   replace hJ:=hJ.below ((U _ y).alloc (o:=P #[I Q 0,I Q 0,I Q 0,I Q 0,I Q 0,I Q 0,I N 0,I Q 0] 117) (K _))
   generalize y.alloc (P #[I Q 0,I Q 0,I Q 0,I Q 0,I Q 0,I Q 0,I N 0,I Q 0] 117)=z at *
   obtain⟨c0,c1,c2,c3,c4,c5,c6,c7,c8⟩:=hJ.c.cells
   obtain⟨n0,n1,n2,n3,n4,n5,n6,n7,n8⟩:=hJ.r.cells
   have zf:=Bk.free hJ.r
   go_upto_region 14 with fail
   have hf9:=hJ.f
   obtain⟨l9,b9,k9⟩:=hJ.ret (r0:=x0) (r1:=x1) (r2:=x2) (r3:=x3) (r4:=x4) (r5:=x5) (r6:=x6) (r7:=x7) (pc':=p)
   go_wp
   generalize hv9:((((((((((z.setCell ⟨w.heap.size+1+1,0,O⟩ (I N x0)).setCell ⟨w.heap.size+1+1,1,O⟩ (I N x1)).setCell ⟨w.heap.size+1+1,2,O⟩ (I N x2)).setCell ⟨w.heap.size+1+1,3,O⟩ (I N x3)).setCell ⟨w.heap.size+1+1,4,O⟩ (I N x4)).setCell ⟨w.heap.size+1+1,5,O⟩ (I N x5)).setCell ⟨w.heap.size+1+1,6,O⟩ (I N x6)).setCell ⟨w.heap.size+1+1,7,O⟩ (I N x7)).setCell ⟨w.heap.size+1+1,8,O⟩ (I Q p)))=v9
   replace hv9:(bn z (w.heap.size+1+1) (I N x0) (I N x1) (I N x2) (I N x3) (I N x4) (I N x5) (I N x6) (I N x7) (I Q p))=v9:=hv9
   rw[hv9] at l9 b9 k9
   obtain⟨y0,y1,y2,y3,y4,y5,y6,y7,y8⟩:=k9.cells
   exact bodyPost_ret (v:=.tuple #[.agg #[I N x0,I N x1,I N x2,I N x3,I N x4,I N x5,I N x6,I N x7,I Q p],m,I Q (-1),I Q 11]) (by simp[results,Tryz.results51,go_sem,y0,y1,y2,y3,y4,y5,y6,y7,y8]) rfl ⟨_,by rw[HE.out];rfl,by rw[HE.out];exact⟨l9,hf9⟩,b9⟩
  ·obtain⟨j,rfl⟩:∃ j:Nat,p=j:=⟨p.toNat,by omega⟩
   have hj:j<c.l.length:=by omega
   have hge:=List.getElem?_eq_getElem hj
   generalize c.l[j]=i at *
   have HAT:=T (F0 c (.agg #[V a c.l.length ca,I Q c.lo,I Q c.un]) wc ⟨a,ca,rfl,hc1,hc2,hcn,ha.below hJ.b⟩ (j:Int) i true (.inr ⟨rfl,j,rfl,hge⟩))
   have HM:=T (fun W=>kg i W)
   have HE:Hid (RR=⟨[x0,x1,x2,x3,x4,x5,x6,x7],j,ms,-1,if cX i.op then 0 else 11⟩):=T (by rw[HS.out];unfold lH;rw[ng hge])
   obtain⟨op,d,s,t,u,a',k',pl⟩:=i
   simp only at HM HE
   unfold iv at *
   simp only at HAT HM
   generalize cX op=mb at *
   clear hst HS hge
   go_upto_region 12 with fail
   go_wp2_with fail
   refine HAT.out.mono ?_
   rintro e y ⟨rfl,hy⟩
   clear c0 c1 c2 c3 c4 c5 c6 c7 c8 k0 k1 k2 HAT
   replace hJ:=hJ.below hy
   go_upto_region 13 with fail
   have m2:=Ib.made y op d s t u a' k' pl
   replace hJ:=hJ.below ((U _ y).alloc (o:=P #[I Q op,I Q d,I Q s,I Q t,I Q u,I Q a',I N k',I Q pl] 117) (K _))
   clear hy
   generalize y.heap.size=q at *
   generalize y.alloc (P #[I Q op,I Q d,I Q s,I Q t,I Q u,I Q a',I N k',I Q pl] 117)=z at *
   obtain⟨e0,e1,e2,e3,e4,e5,e6,e7⟩:=m2.cells
   simp only at e0 e1 e2 e3 e4 e5 e6 e7
   go_wp2_with fail
   refine(HM.out _).mono ?_
   rintro e z1 ⟨rfl,hz⟩
   clear e0 e1 e2 e3 e4 e5 e6 e7 HM
   replace hJ:=hJ.below hz
   clear hz m2
   obtain⟨c0,c1,c2,c3,c4,c5,c6,c7,c8⟩:=hJ.c.cells
   obtain⟨n0,n1,n2,n3,n4,n5,n6,n7,n8⟩:=hJ.r.cells
   have zf:=Bk.free hJ.r
   cases mb with
   | true=>
    go_upto_region 15 with fail
    have hf9:=hJ.f
    obtain⟨l9,b9,k9⟩:=hJ.ret (r0:=x0) (r1:=x1) (r2:=x2) (r3:=x3) (r4:=x4) (r5:=x5) (r6:=x6) (r7:=x7) (pc':=j)
    go_wp
    generalize hv9:((((((((((z1.setCell ⟨w.heap.size+1+1,0,O⟩ (I N x0)).setCell ⟨w.heap.size+1+1,1,O⟩ (I N x1)).setCell ⟨w.heap.size+1+1,2,O⟩ (I N x2)).setCell ⟨w.heap.size+1+1,3,O⟩ (I N x3)).setCell ⟨w.heap.size+1+1,4,O⟩ (I N x4)).setCell ⟨w.heap.size+1+1,5,O⟩ (I N x5)).setCell ⟨w.heap.size+1+1,6,O⟩ (I N x6)).setCell ⟨w.heap.size+1+1,7,O⟩ (I N x7)).setCell ⟨w.heap.size+1+1,8,O⟩ (I Q j)))=v9
    replace hv9:(bn z1 (w.heap.size+1+1) (I N x0) (I N x1) (I N x2) (I N x3) (I N x4) (I N x5) (I N x6) (I N x7) (I Q j))=v9:=hv9
    rw[hv9] at l9 b9 k9
    obtain⟨y0,y1,y2,y3,y4,y5,y6,y7,y8⟩:=k9.cells
    exact bodyPost_ret (v:=.tuple #[.agg #[I N x0,I N x1,I N x2,I N x3,I N x4,I N x5,I N x6,I N x7,I Q j],m,I Q (-1),I Q 0]) (by simp[results,Tryz.results51,go_sem,y0,y1,y2,y3,y4,y5,y6,y7,y8]) rfl ⟨_,by rw[HE.out];rfl,by rw[HE.out];exact⟨l9,hf9⟩,b9⟩
   | false=>
    go_upto_region 14 with fail
    have hf9:=hJ.f
    obtain⟨l9,b9,k9⟩:=hJ.ret (r0:=x0) (r1:=x1) (r2:=x2) (r3:=x3) (r4:=x4) (r5:=x5) (r6:=x6) (r7:=x7) (pc':=j)
    go_wp
    generalize hv9:((((((((((z1.setCell ⟨w.heap.size+1+1,0,O⟩ (I N x0)).setCell ⟨w.heap.size+1+1,1,O⟩ (I N x1)).setCell ⟨w.heap.size+1+1,2,O⟩ (I N x2)).setCell ⟨w.heap.size+1+1,3,O⟩ (I N x3)).setCell ⟨w.heap.size+1+1,4,O⟩ (I N x4)).setCell ⟨w.heap.size+1+1,5,O⟩ (I N x5)).setCell ⟨w.heap.size+1+1,6,O⟩ (I N x6)).setCell ⟨w.heap.size+1+1,7,O⟩ (I N x7)).setCell ⟨w.heap.size+1+1,8,O⟩ (I Q j)))=v9
    replace hv9:(bn z1 (w.heap.size+1+1) (I N x0) (I N x1) (I N x2) (I N x3) (I N x4) (I N x5) (I N x6) (I N x7) (I Q j))=v9:=hv9
    rw[hv9] at l9 b9 k9
    obtain⟨y0,y1,y2,y3,y4,y5,y6,y7,y8⟩:=k9.cells
    exact bodyPost_ret (v:=.tuple #[.agg #[I N x0,I N x1,I N x2,I N x3,I N x4,I N x5,I N x6,I N x7,I Q j],m,I Q (-1),I Q 11]) (by simp[results,Tryz.results51,go_sem,y0,y1,y2,y3,y4,y5,y6,y7,y8]) rfl ⟨_,by rw[HE.out];rfl,by rw[HE.out];exact⟨l9,hf9⟩,b9⟩
