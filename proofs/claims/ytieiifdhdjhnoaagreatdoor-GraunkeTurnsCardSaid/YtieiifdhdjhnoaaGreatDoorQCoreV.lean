import Derived.Test.YtieiifdhdjhnoaaGreatDoorQCoreT
import Derived.Test.YtieiifdhdjhnoaaGreatDoorQCoreU
set_option linter.unusedVariables false
set_option maxHeartbeats 4000000
set_option maxRecDepth 100000
open Go.Value renaming int->I,slice->O
open Go.IntKind renaming i64->Q
open Option renaming none->N
open Go.Obj renaming cells->Z
open Go.Lib renaming hid->V
open Nat renaming le_refl->P
namespace Go.Proofs.YtieiifdhdjhnoaaGreatDoor
open Go.ChangeShapes Go.WideShapes Go.ChangeAt Go.RowKit
structure nG (w:World)(a:Option Addr)(n ca:Nat)(lo un:Int)(m:Value)(xs:List Int)(pc:Int)(ms:List Int)(wr:World):Prop where
 b:Below w.heap.size w wr
 c:Rb wr w.heap.size xs pc
 k:Bk wr (w.heap.size+1) 34 #[O a n ca,I Q lo,I Q un]
 r:Rb wr (w.heap.size+1+1) [0,0,0,0,0,0,0,0] 0
 l:ef .i64 3 wr m ms
theorem Cm {w:World}{g:Nat}{xs:List Int}{pc:Int}(h:Rb w g xs pc):Rb w.drew g xs pc:=h
section
variable {w:World}{a:Option Addr}{n ca:Nat}{lo un:Int}{m:Value}{xs:List Int}{pc:Int}{ms:List Int}{wr wx:World}
theorem nG.below (h:nG w a n ca lo un m xs pc ms wr)(hb:Below wr.heap.size wr wx):nG w a n ca lo un m xs pc ms wx:=
 ⟨h.b.trans (hb.mono h.b.size),h.c.below hb,(hb.block _ h.k.lt).trans h.k,h.r.below hb,ju h.l hb⟩
theorem nG.one {r0 r1 r2 r3 r4 r5 r6 r7 s0 s1 s2 s3 s4 s5 s6 s7 pc':Int}(h:nG w a n ca lo un m [r0,r1,r2,r3,r4,r5,r6,r7] pc ms wr):
 nG w a n ca lo un m [s0,s1,s2,s3,s4,s5,s6,s7] pc' ms (gu wr w.heap.size (I Q s0) (I Q s1) (I Q s2) (I Q s3) (I Q s4) (I Q s5) (I Q s6) (I Q s7) (I Q pc')):=by
 refine⟨fg h.b (P _) _ _ _ _ _ _ _ _ _,jE h.c _ _ _ _ _ _ _ _ _,sQ h.k (by omega) _ _ _ _ _ _ _ _ _,sQ h.r (by omega) _ _ _ _ _ _ _ _ _,?_⟩
 have hW:ag wr (gu wr w.heap.size (I Q s0) (I Q s1) (I Q s2) (I Q s3) (I Q s4) (I Q s5) (I Q s6) (I Q s7) (I Q pc')) (fun b=>b=w.heap.size):=by
  unfold gu
  exact(((((((((ag.refl wr (fun b=>b=w.heap.size)).put _ 0 _ (.inl rfl)).put _ 1 _ (.inl rfl)).put _ 2 _ (.inl rfl)).put _ 3 _ (.inl rfl)).put _ 4 _ (.inl rfl)).put _ 5 _ (.inl rfl)).put _ 6 _ (.inl rfl)).put _ 7 _ (.inl rfl)).put _ 8 _ (.inl rfl)
 refine h.l.within hW fun g e e2=>?_
 obtain⟨cs,hcs⟩:=h.l.bk e
 exact Bk.av hcs h.c (by decide) e2
theorem nG.app {m':Value}{ms':List Int}(h:nG w a n ca lo un m xs pc ms wr)(hl:ef .i64 3 wx m' ms')(hg:wr.grownBy wx m.ownBlock)(hw:∀ g,m.ownBlock=some g->w.heap.size<=g):nG w a n ca lo un m' xs pc ms' wx:=by
 have un_:∀ {g:Nat} {t:TypeId} {cs:Array Value},t≠3->Bk wr g t cs->Bk wx g t cs:=fun ht hk=>hk.grown hg fun e=>by
  obtain⟨cs,hcs⟩:=h.l.bk e.symm
  exact Bk.av hcs hk (fun e=>ht e.symm) rfl
 refine⟨h.b.trans ⟨hg.os,hg.tape,hg.output,hg.size,fun i hi=>hg.block i (Nat.lt_of_lt_of_le hi h.b.size) fun e=>?_⟩,un_ (by decide) h.c,un_ (by decide) h.k,un_ (by decide) h.r,hl⟩
 have:=hw i e.symm
 omega
theorem nG.ret {r0 r1 r2 r3 r4 r5 r6 r7 pc':Int}(h:nG w a n ca lo un m xs pc ms wr):
 ef .i64 3 (gu wr (w.heap.size+1+1) (I Q r0) (I Q r1) (I Q r2) (I Q r3) (I Q r4) (I Q r5) (I Q r6) (I Q r7) (I Q pc')) m ms/\Below w.heap.size w (gu wr (w.heap.size+1+1) (I Q r0) (I Q r1) (I Q r2) (I Q r3) (I Q r4) (I Q r5) (I Q r6) (I Q r7) (I Q pc'))/\Rb (gu wr (w.heap.size+1+1) (I Q r0) (I Q r1) (I Q r2) (I Q r3) (I Q r4) (I Q r5) (I Q r6) (I Q r7) (I Q pc')) (w.heap.size+1+1) [r0,r1,r2,r3,r4,r5,r6,r7] pc':=by
 have hW:ag wr (gu wr (w.heap.size+1+1) (I Q r0) (I Q r1) (I Q r2) (I Q r3) (I Q r4) (I Q r5) (I Q r6) (I Q r7) (I Q pc')) (fun b=>b=w.heap.size+1+1):=by
  unfold gu
  exact(((((((((ag.refl wr (fun b=>b=w.heap.size+1+1)).put _ 0 _ (.inl rfl)).put _ 1 _ (.inl rfl)).put _ 2 _ (.inl rfl)).put _ 3 _ (.inl rfl)).put _ 4 _ (.inl rfl)).put _ 5 _ (.inl rfl)).put _ 6 _ (.inl rfl)).put _ 7 _ (.inl rfl)).put _ 8 _ (.inl rfl)
 refine⟨h.l.within hW fun g e e2=>?_,fg h.b (by omega) _ _ _ _ _ _ _ _ _,jE h.r _ _ _ _ _ _ _ _ _⟩
 obtain⟨cs,hcs⟩:=h.l.bk e
 exact Bk.av hcs h.r (by decide) e2
end
def Gz (w:World)(R:G6)(e:Ending)(w':World):Prop:=∃ m,e=.returned (.tuple #[rv R.xs R.pc,m,I Q R.done,I Q R.e])/\ef .i64 3 w' m R.ms/\Below w.heap.size w w'
theorem GO (c:gp)(v:Value)(xs:List Int)(pc:Int)(self:Int)(w:World)(hv:Pv w v c)(hl:c.l.length<=64)(hi:∀ i∈c.l,Fr i)(hx:cX xs)(h0:0<=self)(h1:self<4294967296):
 Calls Tryz.prog 79 #[rv xs pc,v,I Q self] w (Gz w (iN self c.l 256 xs pc [])):=by
 obtain⟨a,ca,rfl,hc1,hc2,hcn,ha⟩:=hv
 obtain⟨RR,hRR⟩:∃ R,R=iN self c.l 256 xs pc []:=⟨_,rfl⟩
 rw[<-hRR]
 have HD:=V hRR
 clear hRR
 obtain⟨r0,r1,r2,r3,r4,r5,r6,r7,rfl⟩:=cG hx.1
 have q0:Rb (((w.alloc (Z #[I Q r0,I Q r1,I Q r2,I Q r3,I Q r4,I Q r5,I Q r6,I Q r7,I Q pc] 111)).alloc (Z #[O a c.l.length ca,I Q c.lo,I Q c.un] 34)).alloc (Z #[I Q 0,I Q 0,I Q 0,I Q 0,I Q 0,I Q 0,I Q 0,I Q 0,I Q 0] 111)) w.heap.size [r0,r1,r2,r3,r4,r5,r6,r7] pc:=((Rb.made w [r0,r1,r2,r3,r4,r5,r6,r7] pc).alloc (Z #[O a c.l.length ca,I Q c.lo,I Q c.un] 34)).alloc (Z #[I Q 0,I Q 0,I Q 0,I Q 0,I Q 0,I Q 0,I Q 0,I Q 0,I Q 0] 111)
 have q1:Bk (((w.alloc (Z #[I Q r0,I Q r1,I Q r2,I Q r3,I Q r4,I Q r5,I Q r6,I Q r7,I Q pc] 111)).alloc (Z #[O a c.l.length ca,I Q c.lo,I Q c.un] 34)).alloc (Z #[I Q 0,I Q 0,I Q 0,I Q 0,I Q 0,I Q 0,I Q 0,I Q 0,I Q 0] 111)) (w.heap.size+1) 34 #[O a c.l.length ca,I Q c.lo,I Q c.un]:=by
  have:=Bk.alloc (Bk.made (w.alloc (Z #[I Q r0,I Q r1,I Q r2,I Q r3,I Q r4,I Q r5,I Q r6,I Q r7,I Q pc] 111)) 34 #[O a c.l.length ca,I Q c.lo,I Q c.un]) (Z #[I Q 0,I Q 0,I Q 0,I Q 0,I Q 0,I Q 0,I Q 0,I Q 0,I Q 0] 111)
  rw[World.size_alloc] at this
  exact this
 have q2:Rb (((w.alloc (Z #[I Q r0,I Q r1,I Q r2,I Q r3,I Q r4,I Q r5,I Q r6,I Q r7,I Q pc] 111)).alloc (Z #[O a c.l.length ca,I Q c.lo,I Q c.un] 34)).alloc (Z #[I Q 0,I Q 0,I Q 0,I Q 0,I Q 0,I Q 0,I Q 0,I Q 0,I Q 0] 111)) (w.heap.size+1+1) [0,0,0,0,0,0,0,0] 0:=by
  have:=Rb.made ((w.alloc (Z #[I Q r0,I Q r1,I Q r2,I Q r3,I Q r4,I Q r5,I Q r6,I Q r7,I Q pc] 111)).alloc (Z #[O a c.l.length ca,I Q c.lo,I Q c.un] 34)) [0,0,0,0,0,0,0,0] 0
  rw[World.size_alloc,World.size_alloc] at this
  exact this
 have b0:Below w.heap.size w (((w.alloc (Z #[I Q r0,I Q r1,I Q r2,I Q r3,I Q r4,I Q r5,I Q r6,I Q r7,I Q pc] 111)).alloc (Z #[O a c.l.length ca,I Q c.lo,I Q c.un] 34)).alloc (Z #[I Q 0,I Q 0,I Q 0,I Q 0,I Q 0,I Q 0,I Q 0,I Q 0,I Q 0] 111)):=(((Below.refl _ _).alloc (P _) _).alloc (by simp) _).alloc (by simp;omega) _
 unfold Gz rv
 simp only[dE,List.map_cons,List.map_nil,List.cons_append,List.nil_append]
 go_enter Tryz.func79,Tryz.ntmps79
 go_upto_region 1 with fail
 generalize ((w.alloc (Z #[I Q r0,I Q r1,I Q r2,I Q r3,I Q r4,I Q r5,I Q r6,I Q r7,I Q pc] 111)).alloc (Z #[O a c.l.length ca,I Q c.lo,I Q c.un] 34)).alloc (Z #[I Q 0,I Q 0,I Q 0,I Q 0,I Q 0,I Q 0,I Q 0,I Q 0,I Q 0] 111)=x at *
 have hI:nG w a c.l.length ca c.lo c.un (O N 0 0) [r0,r1,r2,r3,r4,r5,r6,r7] pc [] x:=⟨b0,q0,q1,q2,ef.nil _ _ _⟩
 clear q0 q1 q2 b0
 have hlo:∀ g,(Value.slice N 0 0).ownBlock=some g->w.heap.size<=g:=fun g e=>by cases e
 go_wp2
 go_loopw [10,11] (fun m t wr=>∃ (k:Nat) (xs:List Int) (pc:Int) (ms:List Int),t=I Q k/\k<=256/\nG w a c.l.length ca c.lo c.un m xs pc ms wr/\(∀ g,m.ownBlock=some g->w.heap.size<=g)/\cX xs/\ms.length<=k/\Hid (RR=iN self c.l (256-k) xs pc ms)) (fun _ t _=>256-(intOf t).toNat)
 case atStart=>exact⟨0,_,_,_,rfl,Nat.zero_le _,hI,hlo,hx,P _,HD⟩
 case round=>
  obtain⟨k,xs,p,ms,rfl,hk,hJ,hown,hxs,hml,HR⟩:=hrel
  clear hI hlo hx HD
  have hki:(k:Int)<=256:=by omega
  obtain⟨x0,x1,x2,x3,x4,x5,x6,x7,rfl⟩:=cG hxs.1
  obtain⟨c0,c1,c2,c3,c4,c5,c6,c7,c8⟩:=hJ.c.cells
  obtain⟨k0,k1,k2⟩:=hJ.k.iS
  by_cases hst:p<0\/c.l.length<=p
  ·have HE:Hid (RR=⟨[x0,x1,x2,x3,x4,x5,x6,x7],p,ms,-1,11⟩):=V (by rw[HR.out];exact nW hst)
   obtain⟨n0,n1,n2,n3,n4,n5,n6,n7,n8⟩:=hJ.r.cells
   have zf:=Bk.free hJ.r
   clear HR
   by_cases hp0:p<0
   ·clear hst
    go_upto_region 6 with fail
    obtain⟨l9,b9,k9⟩:=hJ.ret (r0:=x0) (r1:=x1) (r2:=x2) (r3:=x3) (r4:=x4) (r5:=x5) (r6:=x6) (r7:=x7) (pc':=p)
    go_wp
    generalize hv9:((((((((((wr.setCell ⟨w.heap.size+1+1,0,N⟩ (I Q x0)).setCell ⟨w.heap.size+1+1,1,N⟩ (I Q x1)).setCell ⟨w.heap.size+1+1,2,N⟩ (I Q x2)).setCell ⟨w.heap.size+1+1,3,N⟩ (I Q x3)).setCell ⟨w.heap.size+1+1,4,N⟩ (I Q x4)).setCell ⟨w.heap.size+1+1,5,N⟩ (I Q x5)).setCell ⟨w.heap.size+1+1,6,N⟩ (I Q x6)).setCell ⟨w.heap.size+1+1,7,N⟩ (I Q x7)).setCell ⟨w.heap.size+1+1,8,N⟩ (I Q p)))=v9
    replace hv9:(gu wr (w.heap.size+1+1) (I Q x0) (I Q x1) (I Q x2) (I Q x3) (I Q x4) (I Q x5) (I Q x6) (I Q x7) (I Q p))=v9:=hv9
    rw[hv9] at l9 b9 k9
    obtain⟨y0,y1,y2,y3,y4,y5,y6,y7,y8⟩:=k9.cells
    exact bodyPost_ret (v:=.tuple #[.agg #[I Q x0,I Q x1,I Q x2,I Q x3,I Q x4,I Q x5,I Q x6,I Q x7,I Q p],u10,I Q (-1),I Q 11]) (by simp[results,Tryz.results79,go_sem,y0,y1,y2,y3,y4,y5,y6,y7,y8]) rfl ⟨_,by rw[HE.out];rfl,by rw[HE.out];exact l9,b9⟩
   ·have hp1:p>=c.l.length:=by omega
    clear hst
    go_upto_region 6 with fail
    obtain⟨l9,b9,k9⟩:=hJ.ret (r0:=x0) (r1:=x1) (r2:=x2) (r3:=x3) (r4:=x4) (r5:=x5) (r6:=x6) (r7:=x7) (pc':=p)
    go_wp
    generalize hv9:((((((((((wr.setCell ⟨w.heap.size+1+1,0,N⟩ (I Q x0)).setCell ⟨w.heap.size+1+1,1,N⟩ (I Q x1)).setCell ⟨w.heap.size+1+1,2,N⟩ (I Q x2)).setCell ⟨w.heap.size+1+1,3,N⟩ (I Q x3)).setCell ⟨w.heap.size+1+1,4,N⟩ (I Q x4)).setCell ⟨w.heap.size+1+1,5,N⟩ (I Q x5)).setCell ⟨w.heap.size+1+1,6,N⟩ (I Q x6)).setCell ⟨w.heap.size+1+1,7,N⟩ (I Q x7)).setCell ⟨w.heap.size+1+1,8,N⟩ (I Q p)))=v9
    replace hv9:(gu wr (w.heap.size+1+1) (I Q x0) (I Q x1) (I Q x2) (I Q x3) (I Q x4) (I Q x5) (I Q x6) (I Q x7) (I Q p))=v9:=hv9
    rw[hv9] at l9 b9 k9
    obtain⟨y0,y1,y2,y3,y4,y5,y6,y7,y8⟩:=k9.cells
    exact bodyPost_ret (v:=.tuple #[.agg #[I Q x0,I Q x1,I Q x2,I Q x3,I Q x4,I Q x5,I Q x6,I Q x7,I Q p],u10,I Q (-1),I Q 11]) (by simp[results,Tryz.results79,go_sem,y0,y1,y2,y3,y4,y5,y6,y7,y8]) rfl ⟨_,by rw[HE.out];rfl,by rw[HE.out];exact l9,b9⟩
  ·obtain⟨j,rfl⟩:∃ j:Nat,p=j:=⟨p.toNat,by omega⟩
   have hj:j<c.l.length:=by omega
   have hji:(j:Int)<c.l.length:=by omega
   have hji2:decide ((j:Int)>=c.l.length)=false:=by simpa using hj
   have hge:=List.getElem?_eq_getElem hj
   have hOk:=hi _ (List.getElem_mem hj)
   generalize c.l[j]=i at *
   have HON:=V (fun W=>GQ [x0,x1,x2,x3,x4,x5,x6,x7] (j:Int) i self hxs hOk h0 h1 (by omega) (by omega) W)
   have hx2:=hxs.one hOk h0 h1
   have HSM:Hid (fp i.op=true->RR=⟨[x0,x1,x2,x3,x4,x5,x6,x7],j,ms,-1,0⟩):=V fun hm=>by rw[HR.out];exact nX hge hm
   have HSZ:Hid (fp i.op=false->k=256->RR=⟨[x0,x1,x2,x3,x4,x5,x6,x7],j,ms,-1,11⟩):=V fun hm e=>by rw[HR.out,e];exact lE hge hm
   have HSD:Hid (k≠256->i.op=13->RR=⟨[x0,x1,x2,x3,x4,x5,x6,x7],j,ms,i.k,0⟩):=V fun hne hm=>by rw[HR.out,show 256-k=(255-k)+1 by omega];exact lG hge hm
   have HSS:Hid (k≠256->fp i.op=false->i.op≠13->RR=iN self c.l (256-(k+1)) (oV [x0,x1,x2,x3,x4,x5,x6,x7] i self) (tT [x0,x1,x2,x3,x4,x5,x6,x7] j i) (if i.op=12 then ms++[i.k] else ms)):=V fun hne hm h13=>by rw[HR.out,show 256-k=(256-(k+1))+1 by omega];exact lF hge hm h13
   have hkk:=hOk.k
   have hop:=hOk.op
   generalize oV [x0,x1,x2,x3,x4,x5,x6,x7] i self=XN at *
   generalize tT [x0,x1,x2,x3,x4,x5,x6,x7] j i=PN at *
   obtain⟨op,d,s,t,u,a',k',pl⟩:=i
   simp only at HON HSM HSD HSS HSZ hkk hop
   unfold iv rv at *
   simp only[dE,List.map_cons,List.map_nil,List.cons_append,List.nil_append] at HON
   have HMB:Hid (fp op=decide (16<=op)):=V (by
    unfold fp
    rcases hop with h | h
    ·simp;omega
    ·simp[h.1,h.2])
   obtain⟨g,off,rfl,hgl,f0,f1,f2,f3,f4,f5,f6,f7⟩:=(ha.below hJ.b).at_ hge
   simp only at f0 f1 f2 f3 f4 f5 f6 f7
   clear hst HR hOk hge ha hcn
   go_upto_region 8 with fail
   clear c0 c1 c2 c3 c4 c5 c6 c7 c8 k0 k1 k2 f0 f1 f2 f3 f4 f5 f6 f7
   have m2:=Jb.made wr op d s t u a' k' pl
   replace hJ:=hJ.below ((Below.refl _ wr).alloc (o:=Z #[I Q op,I Q d,I Q s,I Q t,I Q u,I Q a',I .u32 k',I Q pl] 123) (P _))
   have hq:w.heap.size≠wr.heap.size:=by
    intro e
    rw[<-e] at m2
    exact Bk.av m2 hJ.c (by decide) rfl
   have nq:wr.heap.size≠w.heap.size+1+1:=Bk.av m2 hJ.r (by decide)
   generalize wr.heap.size=q at *
   generalize wr.alloc (Z #[I Q op,I Q d,I Q s,I Q t,I Q u,I Q a',I .u32 k',I Q pl] 123)=z at *
   obtain⟨e0,e1,e2,e3,e4,e5,e6,e7⟩:=m2.cells
   simp only at e0 e1 e2 e3 e4 e5 e6 e7
   obtain⟨c0,c1,c2,c3,c4,c5,c6,c7,c8⟩:=hJ.c.cells
   by_cases h16:16<=op
   ·have HE:=V (HSM.out (by rw[HMB.out];simpa using h16))
    obtain⟨n0,n1,n2,n3,n4,n5,n6,n7,n8⟩:=hJ.r.cells
    have zf:=Bk.free hJ.r
    clear HSM HSZ HSD HSS HON hop
    go_upto_region 9 with fail
    obtain⟨l9,b9,k9⟩:=hJ.ret (r0:=x0) (r1:=x1) (r2:=x2) (r3:=x3) (r4:=x4) (r5:=x5) (r6:=x6) (r7:=x7) (pc':=j)
    go_wp
    generalize hv9:((((((((((z.setCell ⟨w.heap.size+1+1,0,N⟩ (I Q x0)).setCell ⟨w.heap.size+1+1,1,N⟩ (I Q x1)).setCell ⟨w.heap.size+1+1,2,N⟩ (I Q x2)).setCell ⟨w.heap.size+1+1,3,N⟩ (I Q x3)).setCell ⟨w.heap.size+1+1,4,N⟩ (I Q x4)).setCell ⟨w.heap.size+1+1,5,N⟩ (I Q x5)).setCell ⟨w.heap.size+1+1,6,N⟩ (I Q x6)).setCell ⟨w.heap.size+1+1,7,N⟩ (I Q x7)).setCell ⟨w.heap.size+1+1,8,N⟩ (I Q j)))=v9
    replace hv9:(gu z (w.heap.size+1+1) (I Q x0) (I Q x1) (I Q x2) (I Q x3) (I Q x4) (I Q x5) (I Q x6) (I Q x7) (I Q j))=v9:=hv9
    rw[hv9] at l9 b9 k9
    obtain⟨y0,y1,y2,y3,y4,y5,y6,y7,y8⟩:=k9.cells
    exact bodyPost_ret (v:=.tuple #[.agg #[I Q x0,I Q x1,I Q x2,I Q x3,I Q x4,I Q x5,I Q x6,I Q x7,I Q j],u10,I Q (-1),I Q 0]) (by simp[results,Tryz.results79,go_sem,y0,y1,y2,y3,y4,y5,y6,y7,y8]) rfl ⟨_,by rw[HE.out];rfl,by rw[HE.out];exact l9,b9⟩
   have hmf:Hid (fp op=false):=V (by rw[HMB.out];simpa using h16)
   have b16:¬ op>=16:=by omega
   by_cases hk256:k=256
   ·have HE:=V (HSZ.out hmf.out hk256)
    subst hk256
    obtain⟨n0,n1,n2,n3,n4,n5,n6,n7,n8⟩:=hJ.r.cells
    have zf:=Bk.free hJ.r
    clear HSM HSZ HSD HSS HON hop
    go_upto_region 11 with fail
    obtain⟨l9,b9,k9⟩:=hJ.ret (r0:=x0) (r1:=x1) (r2:=x2) (r3:=x3) (r4:=x4) (r5:=x5) (r6:=x6) (r7:=x7) (pc':=j)
    go_wp
    generalize hv9:((((((((((z.setCell ⟨w.heap.size+1+1,0,N⟩ (I Q x0)).setCell ⟨w.heap.size+1+1,1,N⟩ (I Q x1)).setCell ⟨w.heap.size+1+1,2,N⟩ (I Q x2)).setCell ⟨w.heap.size+1+1,3,N⟩ (I Q x3)).setCell ⟨w.heap.size+1+1,4,N⟩ (I Q x4)).setCell ⟨w.heap.size+1+1,5,N⟩ (I Q x5)).setCell ⟨w.heap.size+1+1,6,N⟩ (I Q x6)).setCell ⟨w.heap.size+1+1,7,N⟩ (I Q x7)).setCell ⟨w.heap.size+1+1,8,N⟩ (I Q j)))=v9
    replace hv9:(gu z (w.heap.size+1+1) (I Q x0) (I Q x1) (I Q x2) (I Q x3) (I Q x4) (I Q x5) (I Q x6) (I Q x7) (I Q j))=v9:=hv9
    rw[hv9] at l9 b9 k9
    obtain⟨y0,y1,y2,y3,y4,y5,y6,y7,y8⟩:=k9.cells
    exact bodyPost_ret (v:=.tuple #[.agg #[I Q x0,I Q x1,I Q x2,I Q x3,I Q x4,I Q x5,I Q x6,I Q x7,I Q j],u10,I Q (-1),I Q 11]) (by simp[results,Tryz.results79,go_sem,y0,y1,y2,y3,y4,y5,y6,y7,y8]) rfl ⟨_,by rw[HE.out];rfl,by rw[HE.out];exact l9,b9⟩
   have hkne:((k:Int)==256)=false:=by simp;omega
   by_cases h13:op=13
   ·subst h13
    have HE:=V (HSD.out hk256 rfl)
    obtain⟨n0,n1,n2,n3,n4,n5,n6,n7,n8⟩:=hJ.r.cells
    have zf:=Bk.free hJ.r
    have n02:w.heap.size≠w.heap.size+1+1:=by omega
    clear HSM HSZ HSD HSS HON hop
    go_upto_region 13 with fail
    go_region
    obtain⟨l9,b9,k9⟩:=hJ.ret (r0:=x0) (r1:=x1) (r2:=x2) (r3:=x3) (r4:=x4) (r5:=x5) (r6:=x6) (r7:=x7) (pc':=j)
    go_wp
    generalize hv9:((((((((((z.setCell ⟨w.heap.size+1+1,0,N⟩ (I Q x0)).setCell ⟨w.heap.size+1+1,1,N⟩ (I Q x1)).setCell ⟨w.heap.size+1+1,2,N⟩ (I Q x2)).setCell ⟨w.heap.size+1+1,3,N⟩ (I Q x3)).setCell ⟨w.heap.size+1+1,4,N⟩ (I Q x4)).setCell ⟨w.heap.size+1+1,5,N⟩ (I Q x5)).setCell ⟨w.heap.size+1+1,6,N⟩ (I Q x6)).setCell ⟨w.heap.size+1+1,7,N⟩ (I Q x7)).setCell ⟨w.heap.size+1+1,8,N⟩ (I Q j))).drew=v9
    replace hv9:(gu z (w.heap.size+1+1) (I Q x0) (I Q x1) (I Q x2) (I Q x3) (I Q x4) (I Q x5) (I Q x6) (I Q x7) (I Q j)).drew=v9:=hv9
    replace l9:=Ar l9
    replace b9:=b9.drew
    replace k9:=Cm k9
    rw[hv9] at l9 b9 k9
    obtain⟨y0,y1,y2,y3,y4,y5,y6,y7,y8⟩:=k9.cells
    exact bodyPost_ret (v:=.tuple #[.agg #[I Q x0,I Q x1,I Q x2,I Q x3,I Q x4,I Q x5,I Q x6,I Q x7,I Q j],u10,I Q k',I Q 0]) (by simp[results,Tryz.results79,go_sem,y0,y1,y2,y3,y4,y5,y6,y7,y8]) rfl ⟨_,by rw[HE.out];rfl,by rw[HE.out];exact l9,b9⟩
   have b13:(op==13)=false:=by simpa using h13
   obtain⟨s0,s1,s2,s3,s4,s5,s6,s7,hsx⟩:=cG hx2.1
   subst hsx
   simp only[List.map_cons,List.map_nil,List.cons_append,List.nil_append] at HON
   have HE:=HSS.out hk256 hmf.out h13
   have hkl:k<256:=by omega
   by_cases h12:op=12
   ·rw[if_pos h12] at HE
    replace HE:=V HE
    subst h12
    clear HSM HSZ HSD HSS h16 h13 hk256 hop
    have hL:=hJ.l
    go_upto_region 16 with (at_builtin;refine fC (by rfl) _ _ 25 (by rfl) 8 Tryz.underlying25 (by kernel_rfl) (by decide) hL (by rfl) k' (by rfl) (by omega) ?_;intro v' y' hL' hg hloc)
    clear c0 c1 c2 c3 c4 c5 c6 c7 c8 e0 e1 e2 e3 e4 e5 e6 e7
    have hJ3:=hJ.app hL' hg hown
    have hown2:∀ g,v'.ownBlock=some g->w.heap.size<=g:=by
     intro g e
     rcases hloc with hl | hl
     ·exact hown g (hl ▸ e)
     ·rw[hl] at e
      injection e with e
      have:=hJ.b.size
      omega
    replace m2:Jb y' q _:=Bk.grown m2 hg fun e=>by
     obtain⟨cs,hcs⟩:=hL.bk e.symm
     exact Bk.av hcs m2 (by decide) rfl
    clear hJ hL hL' hg hloc
    have hJ:=hJ3
    obtain⟨e0,e1,e2,e3,e4,e5,e6,e7⟩:=m2.cells
    simp only at e0 e1 e2 e3 e4 e5 e6 e7
    obtain⟨c0,c1,c2,c3,c4,c5,c6,c7,c8⟩:=hJ.c.cells
    go_wp2_with fail
    refine(HON.out _).mono ?_
    rintro e z2 ⟨rfl,hz⟩
    clear e0 e1 e2 e3 e4 e5 e6 e7 c0 c1 c2 c3 c4 c5 c6 c7 c8 HON m2
    replace hJ:=hJ.below hz
    clear hz
    obtain⟨c0,c1,c2,c3,c4,c5,c6,c7,c8⟩:=hJ.c.cells
    have zf:=Bk.free hJ.c
    have hJ2:=hJ.one (s0:=s0) (s1:=s1) (s2:=s2) (s3:=s3) (s4:=s4) (s5:=s5) (s6:=s6) (s7:=s7) (pc':=PN)
    clear hJ
    go_upto_region 4 with fail
    clear c0 c1 c2 c3 c4 c5 c6 c7 c8 zf
    generalize hv:(((((((((z2.setCell ⟨w.heap.size,0,N⟩ (I Q s0)).setCell ⟨w.heap.size,1,N⟩ (I Q s1)).setCell ⟨w.heap.size,2,N⟩ (I Q s2)).setCell ⟨w.heap.size,3,N⟩ (I Q s3)).setCell ⟨w.heap.size,4,N⟩ (I Q s4)).setCell ⟨w.heap.size,5,N⟩ (I Q s5)).setCell ⟨w.heap.size,6,N⟩ (I Q s6)).setCell ⟨w.heap.size,7,N⟩ (I Q s7)).setCell ⟨w.heap.size,8,N⟩ (I Q PN))=z3
    replace hv:gu z2 w.heap.size (I Q s0) (I Q s1) (I Q s2) (I Q s3) (I Q s4) (I Q s5) (I Q s6) (I Q s7) (I Q PN)=z3:=hv
    rw[hv] at hJ2
    clear hv
    go_wp2
    go_roundw
    case rel=>exact⟨k+1,_,_,_,by go_num,by omega,hJ2,hown2,hx2,by simp;omega,HE⟩
    case measure=>
     show 256-((k:Int)+1).toNat<256-(k:Int).toNat
     omega
   ·rw[if_neg h12] at HE
    replace HE:=V HE
    have b12:(op==12)=false:=by simpa using h12
    clear HSM HSZ HSD HSS h16 h13 h12 hk256 hop
    go_upto_region 16 with fail
    go_wp2_with fail
    refine(HON.out _).mono ?_
    rintro e z2 ⟨rfl,hz⟩
    clear e0 e1 e2 e3 e4 e5 e6 e7 c0 c1 c2 c3 c4 c5 c6 c7 c8 HON m2
    replace hJ:=hJ.below hz
    clear hz
    obtain⟨c0,c1,c2,c3,c4,c5,c6,c7,c8⟩:=hJ.c.cells
    have zf:=Bk.free hJ.c
    have hJ2:=hJ.one (s0:=s0) (s1:=s1) (s2:=s2) (s3:=s3) (s4:=s4) (s5:=s5) (s6:=s6) (s7:=s7) (pc':=PN)
    clear hJ
    go_upto_region 4 with fail
    clear c0 c1 c2 c3 c4 c5 c6 c7 c8 zf
    generalize hv:(((((((((z2.setCell ⟨w.heap.size,0,N⟩ (I Q s0)).setCell ⟨w.heap.size,1,N⟩ (I Q s1)).setCell ⟨w.heap.size,2,N⟩ (I Q s2)).setCell ⟨w.heap.size,3,N⟩ (I Q s3)).setCell ⟨w.heap.size,4,N⟩ (I Q s4)).setCell ⟨w.heap.size,5,N⟩ (I Q s5)).setCell ⟨w.heap.size,6,N⟩ (I Q s6)).setCell ⟨w.heap.size,7,N⟩ (I Q s7)).setCell ⟨w.heap.size,8,N⟩ (I Q PN))=z3
    replace hv:gu z2 w.heap.size (I Q s0) (I Q s1) (I Q s2) (I Q s3) (I Q s4) (I Q s5) (I Q s6) (I Q s7) (I Q PN)=z3:=hv
    rw[hv] at hJ2
    clear hv
    go_wp2
    go_roundw
    case rel=>exact⟨k+1,_,_,_,by go_num,by omega,hJ2,hown,hx2,by omega,HE⟩
    case measure=>
     show 256-((k:Int)+1).toNat<256-(k:Int).toNat
     omega
