import Derived.Test.YthdgehcghklflaaGreatDoorRMem
import Derived.Test.YthdgehcghklflaaGreatDoorRInstA
import Derived.Test.YthdgehcghklflaaGreatDoorRPool
import Derived.Test.YthdgehcghklflaaGreatDoorRWdA
import Derived.Deep.RegionLaw
import Derived.ArgAppend
import Derived.Deep.WholeRow
import Derived.Laws.Tables
import Derived.Laws.BitsAllLaws
import Derived.Test.YthdgehcghklflaaGreatDoorRows
import Derived.RegionTactic
import Derived.Laws.LoneSync
import Derived.Laws.Pointers
import Derived.Deep.RegionLawGrows
import Derived.Deep.RegionHeld3
import Derived.Deep.Onto
import Derived.Lib.SmallJoins
set_option linter.unusedVariables false
set_option maxHeartbeats 1000000
set_option maxRecDepth 100000
open Go.Value renaming int->Q
open Go.IntKind renaming i64->O,u32->Z
open Option renaming none->V,some->U
open Bool renaming false->J,true->H
open Go.Obj renaming cells->G
open Go.Lib renaming hid->F
open Go.RowKit.Below renaming refl->D
open Nat renaming le_refl->L,le_of_lt->M
namespace Go.Proofs.YthdgehcghklflaaGreatDoor
section
open Go.ChangeShapes Go.WideShapes Go.ChangeAt Go.RowKit
structure fy where
 l:List aK
 lo:Int
 un:Int
def fy.zero:fy:=⟨[],0,0⟩
def iZ (c:fy):Bool:=decide (1<=c.l.length) && (decide (c.l.length<=64) && (decide (0<=c.lo) && (decide (0<=c.un) && (decide (c.lo<c.l.length) && (decide (c.un<c.l.length) && c.l.all fun i=>au i c.l.length)))))
theorem AO (c:fy)(h1:1<=c.l.length)(h2:c.l.length<=64):iZ c=((c.l.all fun i=>au i c.l.length) && ((decide (0<=c.lo) && decide (c.lo<c.l.length)) && (decide (0<=c.un) && decide (c.un<c.l.length)))):=by
 unfold iZ
 simp only[h1,h2,decide_true,Bool.true_and]
 generalize (c.l.all fun i=>au i c.l.length)=x
 generalize decide (0<=c.lo)=a
 generalize decide (0<=c.un)=b
 generalize decide (c.lo<c.l.length)=d
 generalize decide (c.un<c.l.length)=e
 cases a <;> cases b <;> cases d <;> cases e <;> cases x <;> rfl
theorem q9 {c:fy}(h:¬ (1<=c.l.length/\c.l.length<=64)):iZ c=J:=by
 unfold iZ
 by_cases h1:1<=c.l.length
 ·have h2:¬ c.l.length<=64:=fun h2=>h ⟨h1,h2⟩
  simp[h2]
 ·simp[h1]
def iV (i:aK):List Value:=[Q O i.op,Q O i.d,Q O i.s,Q O i.t,Q O i.u,Q O i.a,Q Z i.k,Q O i.pl]
theorem mX (i:aK):(iV i).length=8:=rfl
def bq (l:List aK):List Value:=l.flatMap iV
theorem i8 (l:List aK)(i:aK):bq (l++[i])=bq l++iV i:=by simp[bq]
theorem mW (i:aK):∀ u∈iV i,u.oneCell'=H:=by
 intro u hu
 simp only[iV,List.mem_cons,List.not_mem_nil,or_false] at hu
 rcases hu with rfl|rfl|rfl|rfl|rfl|rfl|rfl|rfl <;> rfl
theorem Bq:(Tryz.prog.info? 119).map (fun i=>(i.zero,i.size,i.bytes))=U (U (.agg #[Q O 0,Q O 0,Q O 0,Q O 0,Q O 0,Q O 0,Q Z 0,Q O 0]),8,64):=by kernel_rfl
theorem lN {α:Type}(f:α->List Value)(n:Nat)(hf:∀ x,(f x).length=n):∀ (l:List α) (k j:Nat) (x:α),l[k]?=U x->j<n->(l.flatMap f)[k*n+j]?=(f x)[j]?
 | [],k,j,x,h,_=>by simp at h
 | y :: l,0,j,x,h,hj=>by
  simp at h
  subst h
  simp[List.getElem?_append,hf,hj]
 | y :: l,k+1,j,x,h,hj=>by
  have ih:=lN f n hf l k j x (by simpa using h) hj
  rw[<-ih]
  have e:(k+1)*n+j=n+(k*n+j):=by rw[Nat.add_mul];omega
  rw[e,List.flatMap_cons,List.getElem?_append_right (by rw[hf];omega),hf]
  congr 1
  omega
theorem qZ {l:List aK}{k:Nat}{i:aK}(h:l[k]?=U i){j:Nat}(hj:j<8):(bq l)[k*8+j]?=(iV i)[j]?:=lN iV 8 mX l k j i h hj
def Pg (w:World)(base:Nat)(v:Value)(c:fy):Prop:=∃ sl,v=.agg #[sl,Q O c.lo,Q O c.un]/\w.ownsRow base 119 8 sl c.l.length (bq c.l)
theorem Ar (i j:aK)(w:World):(binOp .eql 119 (iv i) (iv j)).run Tryz.prog w=.ok (.bool (df i j)) w:=by
 unfold iv
 have hu:=Tryz.underlying119
 go_simp
 unfold df
 repeat' split
 all_goals simp[*]
def Ib (w:World)(g:Nat)(i:aK):Prop:=Bk w g 119 #[Q O i.op,Q O i.d,Q O i.s,Q O i.t,Q O i.u,Q O i.a,Q Z i.k,Q O i.pl]
theorem Ib.cells {w:World}{g:Nat}{i:aK}(h:Ib w g i):
 w.cell? ⟨g,0,V⟩=U (Q O i.op)/\w.cell? ⟨g,1,V⟩=U (Q O i.d)/\w.cell? ⟨g,2,V⟩=U (Q O i.s)/\w.cell? ⟨g,3,V⟩=U (Q O i.t)/\
 w.cell? ⟨g,4,V⟩=U (Q O i.u)/\w.cell? ⟨g,5,V⟩=U (Q O i.a)/\w.cell? ⟨g,6,V⟩=U (Q Z i.k)/\w.cell? ⟨g,7,V⟩=U (Q O i.pl):=
 ⟨Bk.cell h 0,Bk.cell h 1,Bk.cell h 2,Bk.cell h 3,Bk.cell h 4,Bk.cell h 5,Bk.cell h 6,Bk.cell h 7⟩
theorem Ib.below {w w':World}{g:Nat}{i:aK}(h:Ib w g i)(hb:Below w.heap.size w w'):Ib w' g i:=(hb.block g (Bk.lt h)).trans h
theorem Ib.xz {w:World}{b:Nat}{i:aK}(h:Ib w b i):
 (∀ g:gg w,g.x.cell? ⟨b,0,V⟩=U (Q O i.op))/\(∀ g:gg w,g.x.cell? ⟨b,1,V⟩=U (Q O i.d))/\(∀ g:gg w,g.x.cell? ⟨b,2,V⟩=U (Q O i.s))/\(∀ g:gg w,g.x.cell? ⟨b,3,V⟩=U (Q O i.t))/\
 (∀ g:gg w,g.x.cell? ⟨b,4,V⟩=U (Q O i.u))/\(∀ g:gg w,g.x.cell? ⟨b,5,V⟩=U (Q O i.a))/\(∀ g:gg w,g.x.cell? ⟨b,6,V⟩=U (Q Z i.k))/\(∀ g:gg w,g.x.cell? ⟨b,7,V⟩=U (Q O i.pl)):=by
 obtain⟨c0,c1,c2,c3,c4,c5,c6,c7⟩:=h.cells
 exact⟨fun g=>g.cell c0,fun g=>g.cell c1,fun g=>g.cell c2,fun g=>g.cell c3,fun g=>g.cell c4,fun g=>g.cell c5,fun g=>g.cell c6,fun g=>g.cell c7⟩
theorem Ib.made (w:World)(op d s t u a k pl:Int):Ib (w.alloc (G #[Q O op,Q O d,Q O s,Q O t,Q O u,Q O a,Q Z k,Q O pl] 119)) w.heap.size ⟨op,d,s,t,u,a,k,pl⟩:=Bk.made _ _ _
theorem zU {w x:World}{op d s t u a k pl:Int}(h:Below (w.alloc (G #[Q O op,Q O d,Q O s,Q O t,Q O u,Q O a,Q Z k,Q O pl] 119)).heap.size (w.alloc (G #[Q O op,Q O d,Q O s,Q O t,Q O u,Q O a,Q Z k,Q O pl] 119)) x):Ib x w.heap.size ⟨op,d,s,t,u,a,k,pl⟩/\Below w.heap.size w x:=
 ⟨(Ib.made w op d s t u a k pl).below h,((D _ _).alloc (L _) _).trans (h.mono (by simp))⟩
def fz (y:World)(g:Nat)(i:aK):World:=((((((((y.setCell ⟨g,0,V⟩ (Q O i.op)).setCell ⟨g,1,V⟩ (Q O i.d)).setCell ⟨g,2,V⟩ (Q O i.s)).setCell ⟨g,3,V⟩ (Q O i.t)).setCell ⟨g,4,V⟩ (Q O i.u)).setCell ⟨g,5,V⟩ (Q O i.a)).setCell ⟨g,6,V⟩ (Q Z i.k)).setCell ⟨g,7,V⟩ (Q O i.pl))
theorem dT {y:World}{g:Nat}{i j:aK}(h:Ib y g j):Ib (fz y g i) g i:=by
 have h8:=(((((((Bk.put h 0 (Q O i.op)).put 1 (Q O i.d)).put 2 (Q O i.s)).put 3 (Q O i.t)).put 4 (Q O i.u)).put 5 (Q O i.a)).put 6 (Q Z i.k)).put 7 (Q O i.pl)
 unfold fz Ib
 simpa only[List.setIfInBounds_toArray,List.set_cons_zero,List.set_cons_succ] using h8
theorem jH {y:World}{g b:Nat}{i:aK}{t:TypeId}{cs:Array Value}(h:Bk y b t cs)(hne:b≠g):Bk (fz y g i) b t cs:=
 (((((((h.off hne _).off hne _).off hne _).off hne _).off hne _).off hne _).off hne _).off hne _
theorem aU {B:Nat}{w y:World}{g:Nat}{i:aK}(h:Below B w y)(hg:B<=g):Below B w (fz y g i):=
 (((((((h.setCell hg _).setCell hg _).setCell hg _).setCell hg _).setCell hg _).setCell hg _).setCell hg _).setCell hg _
theorem yW (i:aK)(l:List UInt8)(n:Nat)(h:n<l.length):oV i (l.take (n+1))=cF (oV i (l.take n)) (l.getD n 0).toNat 0:=by
 unfold oV
 rw[List.take_succ_eq_append_getElem h,List.foldl_append]
 simp[h]
theorem zj (f:UInt8->Bool)(l:List UInt8)(n:Nat)(h:n<l.length):(l.take (n+1)).all f=((l.take n).all f && f (l.getD n 0)):=by
 rw[List.take_succ_eq_append_getElem h,List.all_append]
 simp[h]
theorem zM (f:UInt8->Bool)(l:List UInt8)(n:Nat)(h:n<l.length)(hf:f (l.getD n 0)=J):l.all f=J:=by
 rw[Bool.eq_false_iff]
 intro ha
 have:=List.all_eq_true.1 ha (l.getD n 0) (by simp[h])
 rw[hf] at this
 cases this
structure BF (w:World)(i:aK)(hs:List UInt8)(p:Int)(n:Nat)(x:World):Prop where
 below:Below w.heap.size w x
 box:Ib x w.heap.size i
 left:Ib x (w.heap.size+1) (oV i (hs.take n))
 ok:(hs.take n).all (fun c=>nH i p c.toNat)=H
theorem C7 (i:aK)(p:Int)(k0:0<=i.k)(k1:i.k<4294967296)(w:World):
 Calls Tryz.prog 70 #[iv i,Q O p] w fun e w'=>e=.returned (.bool (au i p))/\Below w.heap.size w w':=by
 have hL:=tZ i.op
 have h6:=t9 i.op
 have ER:au i p=(!(db i.op).isEmpty && ((db i.op).all (fun c=>nH i p c.toNat) && qN (oV i (db i.op)))):=rfl
 have H0:=F (xm i.op)
 generalize db i.op=hs at hL h6 ER H0
 have HL:=F hL
 have HR:=F ER
 clear hL ER
 obtain⟨op,d,s,t,u,a,k,pl⟩:=i
 simp only at k0 k1 H0
 unfold iv
 go_enter Tryz.func70,Tryz.ntmps70
 go_wp2_with fail
 refine(H0.out _).mono ?_
 rintro e w' ⟨rfl,rfl⟩
 unfold bs
 by_cases he:hs=[]
 ·subst he
  go_wp2
  go_ret
  exact⟨bf HR.out.symm,(D _ _).alloc (L _) _⟩
 have hne:hs.isEmpty=J:=by simpa using he
 go_wp2
 go_loopw [24] (fun v x=>∃ n:Nat,n<=hs.length/\v=Q O n/\BF w ⟨op,d,s,t,u,a,k,pl⟩ hs p n x) (fun v _=>hs.length-(intOf v).toNat)
 case atStart=>
  refine⟨0,Nat.zero_le _,rfl,?_,?_,?_,rfl⟩
  ·exact(((D _ _).alloc (L _) _).alloc (by simp) _)
  ·exact(Bk.made _ _ _).alloc _
  ·have:=Bk.made (w.alloc (G #[Q O op,Q O d,Q O s,Q O t,Q O u,Q O a,Q Z k,Q O pl] 119)) 119 #[Q O 0,Q O d,Q O s,Q O t,Q O u,Q O a,Q Z k,Q O pl]
   rw[show (w.alloc (G #[Q O op,Q O d,Q O s,Q O t,Q O u,Q O a,Q Z k,Q O pl] 119)).heap.size=w.heap.size+1 by simp] at this
   exact this
 case round=>
  obtain⟨n,hn,rfl,R⟩:=hrel
  obtain⟨hb,hI,hZ,hok⟩:=R
  generalize wr=x at *
  have hlt1:w.heap.size<x.heap.size:=Bk.lt hI
  have hlt2:w.heap.size+1<x.heap.size:=Bk.lt hZ
  by_cases hlt:n<hs.length
  ·have hidx:=eA hs n hlt
   have hc:BJ ((hs.getD n 0).toNat:Int):=HL.out _ (by simp[hlt])
   generalize hcc:((hs.getD n 0).toNat:Int)=c at hidx hc
   obtain⟨g0,-⟩:=hI.xz
   have HC:=F hcc
   clear hcc
   go_wp2_with fail
   refine ap (by kernel_rfl) (by kernel_rfl) ?_
   repeat (go_big_quiet_step ((go_at_call 110;exact yJ (By _ _ _ hc _))))
   refine wpQuiet_nil ?_
   rintro y ⟨⟨_,hy⟩,rfl⟩
   replace hb:=hb.trans (hy.mono (M hlt1))
   replace hI:=hI.below hy
   replace hZ:=hZ.below hy
   replace hlt1:w.heap.size<y.heap.size:=Bk.lt hI
   replace hlt2:w.heap.size+1<y.heap.size:=Bk.lt hZ
   clear g0 hy x
   obtain⟨g0,g1,g2,g3,g4,g5,g6,g7⟩:=hI.xz
   simp only at g0 g1 g2 g3 g4 g5 g6 g7
   go_wp2_with fail
   refine ap (by kernel_rfl) (by kernel_rfl) ?_
   repeat (go_big_quiet_step ((go_at_call 111;exact ao (Es ⟨op,d,s,t,u,a,k,pl⟩ _ hc k0 k1 _))))
   refine wpQuiet_nil ?_
   rintro x ⟨⟨_,hx⟩,rfl⟩
   replace hb:=hb.trans (hx.mono (M hlt1))
   replace hI:=hI.below hx
   replace hZ:=hZ.below hx
   replace hlt1:w.heap.size<x.heap.size:=Bk.lt hI
   replace hlt2:w.heap.size+1<x.heap.size:=Bk.lt hZ
   clear g0 g1 g2 g3 g4 g5 g6 g7 hx y
   by_cases hlo:ba ⟨op,d,s,t,u,a,k,pl⟩ c<eM op c
   ·go_wp2
    go_ret
    refine⟨bf ?_,hb⟩
    rw[HR.out,zM _ _ n hlt (by rw[HC.out];simp[nH];intro h;omega)];simp
   have hlo':decide (ba ⟨op,d,s,t,u,a,k,pl⟩ c<eM op c)=J:=by simpa using hlo
   by_cases hhi:dV op c p<=ba ⟨op,d,s,t,u,a,k,pl⟩ c
   ·go_wp2
    go_ret
    refine⟨bf ?_,hb⟩
    rw[HR.out,zM _ _ n hlt (by rw[HC.out];simp[nH];intro h;omega)];simp
   have hhi':decide (ba ⟨op,d,s,t,u,a,k,pl⟩ c>=dV op c p)=J:=by simpa using hhi
   generalize hZZ:oV ⟨op,d,s,t,u,a,k,pl⟩ (hs.take n)=z at hZ
   have HZ:=F hZZ
   clear hZZ
   obtain⟨zop,zd,zs,zt,zu,za,zk,zpl⟩:=z
   obtain⟨c0,c1,c2,c3,c4,c5,c6,c7⟩:=hZ.cells
   simp only at c0 c1 c2 c3 c4 c5 c6 c7
   go_wp2_with fail
   go_region_law (first | (go_simp;go_at_call 112;refine(Er ⟨zop,zd,zs,zt,zu,za,zk,zpl⟩ _ 0 hc _).mono ?_;rintro e y ⟨rfl,hy⟩;replace hy:=dW hy;obtain⟨d0,d1,d2,d3,d4,d5,d6,d7⟩:=(hZ.below hy).cells;have hf:=Bk.free (hZ.below hy);generalize hz2:cF ⟨zop,zd,zs,zt,zu,za,zk,zpl⟩ c 0=z2;have HZ2:=F hz2;clear hz2;obtain⟨yop,yd,ys,yt,yu,ya,yk,ypl⟩:=z2;unfold iv))
   all_goals
    generalize hv:((((((((y.setCell ⟨w.heap.size+1,0,V⟩ (Q O yop)).setCell ⟨w.heap.size+1,1,V⟩ (Q O yd)).setCell ⟨w.heap.size+1,2,V⟩ (Q O ys)).setCell ⟨w.heap.size+1,3,V⟩ (Q O yt)).setCell ⟨w.heap.size+1,4,V⟩ (Q O yu)).setCell ⟨w.heap.size+1,5,V⟩ (Q O ya)).setCell ⟨w.heap.size+1,6,V⟩ (Q Z yk)).setCell ⟨w.heap.size+1,7,V⟩ (Q O ypl))=v
    have hv2:fz y (w.heap.size+1) ⟨yop,yd,ys,yt,yu,ya,yk,ypl⟩=v:=hv
    clear hv
    have hA:=dT (i:=⟨yop,yd,ys,yt,yu,ya,yk,ypl⟩) (hZ.below hy)
    have hB:=jH (i:=⟨yop,yd,ys,yt,yu,ya,yk,ypl⟩) (hI.below hy) (show w.heap.size≠w.heap.size+1 by omega)
    have hC:=aU (i:=⟨yop,yd,ys,yt,yu,ya,yk,ypl⟩) (hb.trans (hy.mono (M hlt1))) (show w.heap.size<=w.heap.size+1 by omega)
    rw[hv2] at hA hB hC
    clear hv2 d0 d1 d2 d3 d4 d5 d6 d7 hf c0 c1 c2 c3 c4 c5 c6 c7 hidx
    have hn1:(n:Int)+1<=6:=by omega
    go_wp2
    go_roundw
    case rel=>
     refine⟨n+1,by omega,by go_num,hC,hB,?_,?_⟩
     ·rw[yW _ _ _ hlt,HZ.out,HC.out,HZ2.out];exact hA
     ·rw[zj _ _ _ hlt,HC.out,hok];simp[nH];omega
    case measure=>simp[intOf];omega
  ·obtain rfl:n=hs.length:=by omega
   generalize hZZ:oV ⟨op,d,s,t,u,a,k,pl⟩ (hs.take hs.length)=z at hZ
   obtain⟨zop,zd,zs,zt,zu,za,zk,zpl⟩:=z
   obtain⟨c0,c1,c2,c3,c4,c5,c6,c7⟩:=hZ.cells
   simp only at c0 c1 c2 c3 c4 c5 c6 c7
   rw[List.take_length] at hZZ hok
   have HZ:=F hZZ
   have HO:=F hok
   clear hZZ hok
   have hq:=Ar ⟨zop,zd,zs,zt,zu,za,zk,zpl⟩ aK.zero
   generalize hB:df ⟨zop,zd,zs,zt,zu,za,zk,zpl⟩ aK.zero=B at hq
   have HB:=F hB
   clear hB
   unfold iv aK.zero at hq
   simp only at hq
   go_wp2
   go_ret
   refine⟨bf ?_,hb⟩
   rw[HR.out,HO.out,HZ.out,C3,HB.out,hne];rfl
structure RM where
 fv:Value
 gv:Value
 ov:Value
 vs:Nat->Value
def RM.Has (R:RM)(n i:Nat):Prop:=R.fv.ownBlock=U i\/R.gv.ownBlock=U i\/R.ov.ownBlock=U i\/∃ t,t<n/\(R.vs t).ownBlock=U i
def oR (l:List Nat):List Int:=l.map fun(q:Nat)=>((q:Nat):Int)+1
structure Rf (w:World)(x n each:Nat)(R:RM)(free:Nat->List Nat)(gen out:List Int):Prop where
 ptr:Bk w x 160 #[Q O each,R.fv,R.gv,R.ov]
 row:pP 26 w R.fv ((List.range n).map R.vs)
 gens:dQ .i64 3 w R.gv gen
 outs:dQ .i64 3 w R.ov out
 frees:∀ t,t<n->Fs w (R.vs t) (oR (free t))
 go:∀ g,R.gv.ownBlock=U g->R.ov.ownBlock≠U g
 vg:∀ t g,t<n->(R.vs t).ownBlock=U g->R.gv.ownBlock≠U g
 vo:∀ t g,t<n->(R.vs t).ownBlock=U g->R.ov.ownBlock≠U g
 vv:∀ s t g,s<n->t<n->s≠t->(R.vs s).ownBlock=U g->(R.vs t).ownBlock≠U g
section
variable {w w':World}{x n each:Nat}{R:RM}{free:Nat->List Nat}{gen out:List Int}
theorem Rf.lt (h:Rf w x n each R free gen out){i:Nat}(k:R.Has n i):i<w.heap.size:=by
 rcases k with e | e | e | ⟨t,ht,e⟩
 ·exact h.row.lt e
 ·exact h.gens.lt e
 ·exact h.outs.lt e
 ·exact(h.frees t ht).lt e
theorem Rf.kept {S:Nat->Prop}(h:Rf w x n each R free gen out)(k:ag w w' S)(h1:¬ S x)(h2:∀ i,R.Has n i->¬ S i):Rf w' x n each R free gen out:=
 ⟨h.ptr.within k h1,h.row.within k (fun g e=>h2 g (.inl e)),h.gens.within k (fun g e=>h2 g (.inr (.inl e))),h.outs.within k (fun g e=>h2 g (.inr (.inr (.inl e)))),
  fun t ht=>(h.frees t ht).within k (fun g e=>h2 g (.inr (.inr (.inr ⟨t,ht,e⟩)))),h.go,h.vg,h.vo,h.vv⟩
theorem Rf.grown (h:Rf w x n each R free gen out)(k:w.grownBy w' V):Rf w' x n each R free gen out:=h.kept (S:=fun _=>False) (.aP k (by simp)) (by simp) (by simp)
theorem Rf.drewN (h:Rf w x n each R free gen out)(m:Nat):Rf (w.drewN m) x n each R free gen out:=h.kept (S:=fun _=>False) ((ag.refl _ _).jq m) (by simp) (by simp)
theorem Rf.c0 (h:Rf w x n each R free gen out):w.cell? ⟨x,0,V⟩=U (Q O each):=by rw[h.ptr.cell];rfl
theorem Rf.c1 (h:Rf w x n each R free gen out):w.cell? ⟨x,1,V⟩=U R.fv:=by rw[h.ptr.cell];rfl
theorem Rf.c2 (h:Rf w x n each R free gen out):w.cell? ⟨x,2,V⟩=U R.gv:=by rw[h.ptr.cell];rfl
theorem Rf.c3 (h:Rf w x n each R free gen out):w.cell? ⟨x,3,V⟩=U R.ov:=by rw[h.ptr.cell];rfl
end
theorem cg (i j:aK)(w:World):(binOp .eql 125 (iv i) (iv j)).run Tryz.prog w=.ok (.bool (df i j)) w:=by
 unfold iv
 have hu:=Tryz.underlying125
 go_simp
 unfold df
 repeat' split
 all_goals simp[*]
def Jb (w:World)(g:Nat)(i:aK):Prop:=Bk w g 125 #[Q O i.op,Q O i.d,Q O i.s,Q O i.t,Q O i.u,Q O i.a,Q Z i.k,Q O i.pl]
theorem Jb.cells {w:World}{g:Nat}{i:aK}(h:Jb w g i):
 w.cell? ⟨g,0,V⟩=U (Q O i.op)/\w.cell? ⟨g,1,V⟩=U (Q O i.d)/\w.cell? ⟨g,2,V⟩=U (Q O i.s)/\w.cell? ⟨g,3,V⟩=U (Q O i.t)/\
 w.cell? ⟨g,4,V⟩=U (Q O i.u)/\w.cell? ⟨g,5,V⟩=U (Q O i.a)/\w.cell? ⟨g,6,V⟩=U (Q Z i.k)/\w.cell? ⟨g,7,V⟩=U (Q O i.pl):=
 ⟨Bk.cell h 0,Bk.cell h 1,Bk.cell h 2,Bk.cell h 3,Bk.cell h 4,Bk.cell h 5,Bk.cell h 6,Bk.cell h 7⟩
theorem Jb.below {w w':World}{g:Nat}{i:aK}(h:Jb w g i)(hb:Below w.heap.size w w'):Jb w' g i:=(hb.block g (Bk.lt h)).trans h
theorem Jb.xz {w:World}{b:Nat}{i:aK}(h:Jb w b i):
 (∀ g:gg w,g.x.cell? ⟨b,0,V⟩=U (Q O i.op))/\(∀ g:gg w,g.x.cell? ⟨b,1,V⟩=U (Q O i.d))/\(∀ g:gg w,g.x.cell? ⟨b,2,V⟩=U (Q O i.s))/\(∀ g:gg w,g.x.cell? ⟨b,3,V⟩=U (Q O i.t))/\
 (∀ g:gg w,g.x.cell? ⟨b,4,V⟩=U (Q O i.u))/\(∀ g:gg w,g.x.cell? ⟨b,5,V⟩=U (Q O i.a))/\(∀ g:gg w,g.x.cell? ⟨b,6,V⟩=U (Q Z i.k))/\(∀ g:gg w,g.x.cell? ⟨b,7,V⟩=U (Q O i.pl)):=by
 obtain⟨c0,c1,c2,c3,c4,c5,c6,c7⟩:=h.cells
 exact⟨fun g=>g.cell c0,fun g=>g.cell c1,fun g=>g.cell c2,fun g=>g.cell c3,fun g=>g.cell c4,fun g=>g.cell c5,fun g=>g.cell c6,fun g=>g.cell c7⟩
theorem Jb.made (w:World)(op d s t u a k pl:Int):Jb (w.alloc (G #[Q O op,Q O d,Q O s,Q O t,Q O u,Q O a,Q Z k,Q O pl] 125)) w.heap.size ⟨op,d,s,t,u,a,k,pl⟩:=Bk.made _ _ _
theorem fE {w x:World}{op d s t u a k pl:Int}(h:Below (w.alloc (G #[Q O op,Q O d,Q O s,Q O t,Q O u,Q O a,Q Z k,Q O pl] 125)).heap.size (w.alloc (G #[Q O op,Q O d,Q O s,Q O t,Q O u,Q O a,Q Z k,Q O pl] 125)) x):Jb x w.heap.size ⟨op,d,s,t,u,a,k,pl⟩/\Below w.heap.size w x:=
 ⟨(Jb.made w op d s t u a k pl).below h,((D _ _).alloc (L _) _).trans (h.mono (by simp))⟩
theorem ff {y:World}{g:Nat}{i j:aK}(h:Jb y g j):Jb (fz y g i) g i:=by
 have h8:=(((((((Bk.put h 0 (Q O i.op)).put 1 (Q O i.d)).put 2 (Q O i.s)).put 3 (Q O i.t)).put 4 (Q O i.u)).put 5 (Q O i.a)).put 6 (Q Z i.k)).put 7 (Q O i.pl)
 unfold fz Jb
 simpa only[List.setIfInBounds_toArray,List.set_cons_zero,List.set_cons_succ] using h8
theorem EP (i:aK)(w:World):
 Calls Tryz.prog 65 #[iv i] w fun e w'=>e=.returned (iv i)/\Below w.heap.size w w':=by
 obtain⟨op,d,s,t,u,a,k,pl⟩:=i
 unfold iv
 go_enter Tryz.func65,Tryz.ntmps65
 go_wp2
 refine bodyPost_ret (v:=.agg #[Q O op,Q O d,Q O s,Q O t,Q O u,Q O a,Q Z k,Q O pl]) (by simp[results,Tryz.results65,go_sem]) rfl ⟨rfl,?_⟩
 exact((D _ _).alloc (L _) _).alloc (by simp) _
theorem dm (n:Int)(h0:0<=n)(h1:n<=7)(w:World):Calls Tryz.prog 105 #[Q O n] w fun e w'=>e=.returned (.bool H)/\w=w':=by
 go_enter Tryz.func105,Tryz.ntmps105
 go_wp2
 go_ret
 exact⟨rfl,rfl⟩
theorem ni (n:Int)(h:n<0\/7<n)(w:World):Calls Tryz.prog 105 #[Q O n] w fun e w'=>e=.returned (.bool J)/\w=w':=by
 rcases h with h | h
 ·have h2:decide (n>=0)=J:=by simp;omega
  go_enter Tryz.func105,Tryz.ntmps105
  go_wp2
  go_ret
  exact⟨rfl,rfl⟩
 ·have h2:decide (n<=7)=J:=by simp;omega
  have h3:0<=n:=by omega
  go_enter Tryz.func105,Tryz.ntmps105
  go_wp2
  go_ret
  exact⟨rfl,rfl⟩
def iM:Array Value:=#[.string ⟨#[]⟩,.string ⟨#[99,111,110,115,116]⟩,.string ⟨#[109,111,118,101]⟩,.string ⟨#[97,100,100,107]⟩,.string ⟨#[97,110,100,107]⟩,.string ⟨#[115,104,108]⟩,.string ⟨#[115,104,114]⟩,.string ⟨#[111,114]⟩,.string ⟨#[98,101,113]⟩,.string ⟨#[98,110,101]⟩,.string ⟨#[106,117,109,112]⟩,.string ⟨#[115,101,108,102]⟩,.string ⟨#[109,97,114,107]⟩,.string ⟨#[100,111,110,101]⟩,.string ⟨#[]⟩,.string ⟨#[]⟩,.string ⟨#[108,111,97,100]⟩,.string ⟨#[115,116,111,114,101]⟩,.string ⟨#[115,119,97,112]⟩,.string ⟨#[99,97,115]⟩,.string ⟨#[102,97,100,100]⟩,.string ⟨#[97,119,97,105,116]⟩,.string ⟨#[116,97,107,101]⟩,.string ⟨#[102,114,101,101]⟩]
theorem vM:∀ n:Nat,1<=n->n<=23->iM[n]?=U (.string ⟨(bF n).toArray⟩):=by
 intro n h1 h2
 have hn:n=1\/n=2\/n=3\/n=4\/n=5\/n=6\/n=7\/n=8\/n=9\/n=10\/n=11\/n=12\/n=13\/n=14\/n=15\/n=16\/n=17\/n=18\/n=19\/n=20\/n=21\/n=22\/n=23:=by omega
 rcases hn with rfl|rfl|rfl|rfl|rfl|rfl|rfl|rfl|rfl|rfl|rfl|rfl|rfl|rfl|rfl|rfl|rfl|rfl|rfl|rfl|rfl|rfl|rfl <;> rfl
theorem eY (op:Int)(w:World):Calls Tryz.prog 104 #[Q O op] w fun e w'=>e=.returned (bs (bF op))/\Below w.heap.size w w':=by
 by_cases h:op<1\/23<op
 ·have E:=F (show bF op=[] from(dr (by omega)).2)
  generalize bF op=nm at *
  rcases h with h | h
  ·go_enter Tryz.func104,Tryz.ntmps104
   go_wp2_with (first | (refine fi rfl 249 _ rfl iM (by kernel_rfl) ?_) | (refine eQ rfl 249 _ _ rfl _ iM rfl rfl (by kernel_rfl) (by kernel_rfl) (by kernel_rfl) ?_))
   go_ret
   exact⟨by rw[E.out];rfl,(D _ _).alloc (L _) _⟩
  ·have h2:decide (op<1)=J:=by simp;omega
   go_enter Tryz.func104,Tryz.ntmps104
   go_wp2_with (first | (refine fi rfl 249 _ rfl iM (by kernel_rfl) ?_) | (refine eQ rfl 249 _ _ rfl _ iM rfl rfl (by kernel_rfl) (by kernel_rfl) (by kernel_rfl) ?_))
   go_ret
   exact⟨by rw[E.out];rfl,(D _ _).alloc (L _) _⟩
 ·obtain⟨n,hn⟩:∃ n:Nat,op=n:=⟨op.toNat,by omega⟩
  subst hn
  have h1:1<=n:=by omega
  have h23:n<=23:=by omega
  have hc:(w.alloc (.cells iM 249)).cell? ⟨w.heap.size,n,V⟩=U (.string ⟨(bF n).toArray⟩):=by
   rw[cell_of_row _ _ _ _ _ _ (heap_alloc_new w _)]
   exact vM n h1 h23
  generalize bF n=nm at *
  have d1:decide ((n:Int)<1)=J:=by simp;omega
  have d2:decide ((n:Int) > 23)=J:=by simp;omega
  have d3:(n:Int)<24:=by omega
  clear h
  go_enter Tryz.func104,Tryz.ntmps104
  go_wp2_with (first | (refine fi rfl 249 _ rfl iM (by kernel_rfl) ?_) | (refine eQ rfl 249 _ _ rfl _ iM rfl rfl (by kernel_rfl) (by kernel_rfl) (by kernel_rfl) ?_))
  go_ret
  exact⟨rfl,(D _ _).alloc (L _) _⟩
structure xE (i:aK):Prop where
 d:0<=i.d/\i.d<=7
 s:0<=i.s/\i.s<=7
 t:0<=i.t/\i.t<=7
 u:0<=i.u/\i.u<=7
 a:0<=i.a/\i.a<=7
end
section
def fB:List UInt8:=[108,111,99,107,58,10,102,97,100,100,32,114,49,32,48,32,114,48,32,49,10,109,97,114,107,32,49,10,97,119,97,105,116,32,114,50,32,49,32,114,48,32,101,113,32,114,49,10,109,97,114,107,32,50,10,100,111,110,101,32,49,10,117,110,108,111,99,107,58,10,97,100,100,107,32,114,49,32,114,49,32,49,10,115,116,111,114,101,32,49,32,114,48,32,114,49,10,109,97,114,107,32,52,10,100,111,110,101,32,50,10]
def dD:fy:=⟨EF,0,5⟩
theorem DM:∀ i∈dD.l,i.Wf:=by
 intro i hi
 simp only[dD,EF,List.mem_cons,List.not_mem_nil,or_false] at hi
 rcases hi with rfl|rfl|rfl|rfl|rfl|rfl|rfl|rfl|rfl <;> (constructor <;> decide)
theorem qR:fB.length<80000:=by decide
def qM (n:Nat):List Int:=List.replicate n 0
end
section
open Go.RowKit
def cW (xs:List Int):Prop:=xs.length=8/\ip xs
theorem cN {xs:List Int}(h:xs.length=8):∃ a b c d e f g i,xs=[a,b,c,d,e,f,g,i]:=by
 match xs,h with
 | [a,b,c,d,e,f,g,i],_=>exact⟨a,b,c,d,e,f,g,i,rfl⟩
def qe (a b:Int):Int:=((a.toNat &&& b.toNat:Nat):Int)
def Dd (a b:Int):Int:=((a.toNat ||| b.toNat:Nat):Int)
theorem tL {a b:Int}(h0:0<=a)(h1:a<4294967296):0<=qe a b/\qe a b<4294967296:=by
 unfold qe
 have:=Nat.and_le_left (n:=a.toNat) (m:=b.toNat)
 omega
theorem vE {a b:Int}(h0:0<=a)(h1:a<4294967296)(h2:0<=b)(h3:b<4294967296):0<=Dd a b/\Dd a b<4294967296:=by
 unfold Dd
 have:=Nat.or_lt_two_pow (x:=a.toNat) (y:=b.toNat) (n:=32) (by omega) (by omega)
 omega
def jX (both:Bool)(a b:Nat):Nat->Nat
 | 0=>0
 | n+1=>jX both a b n+(if (if both then a / 2 ^ n % 2+b / 2 ^ n % 2=2 else 0<a / 2 ^ n % 2+b / 2 ^ n % 2) then 2 ^ n else 0)
theorem rS (x n:Nat):x % 2 ^ (n+1)=x % 2 ^ n+(if x / 2 ^ n % 2=1 then 2 ^ n else 0):=by
 rw[Nat.mod_pow_succ]
 have:x / 2 ^ n % 2=0\/x / 2 ^ n % 2=1:=by omega
 rcases this with h | h <;> simp[h]
theorem BC (a b n:Nat):(a &&& b) / 2 ^ n % 2=1↔a / 2 ^ n % 2=1/\b / 2 ^ n % 2=1:=by
 have h:=Nat.testBit_and a b n
 simp only[Nat.testBit_eq_decide_div_mod_eq,decide_eq_decide,<-Bool.decide_and] at h
 exact h
theorem Db (a b n:Nat):(a ||| b) / 2 ^ n % 2=1↔a / 2 ^ n % 2=1\/b / 2 ^ n % 2=1:=by
 have h:=Nat.testBit_or a b n
 simp only[Nat.testBit_eq_decide_div_mod_eq,decide_eq_decide,<-Bool.decide_or] at h
 exact h
theorem rU (a b:Nat):∀ n,jX H a b n=(a &&& b) % 2 ^ n
 | 0=>by simp[jX,Nat.mod_one]
 | n+1=>by
  rw[rS,jX,rU a b n]
  congr 1
  have h1:a / 2 ^ n % 2=0\/a / 2 ^ n % 2=1:=by omega
  have h2:b / 2 ^ n % 2=0\/b / 2 ^ n % 2=1:=by omega
  have h3:=BC a b n
  rcases h1 with h1 | h1 <;> rcases h2 with h2 | h2 <;> simp[h1,h2] at h3 ⊢ <;> simp[h3]
theorem uS (a b:Nat):∀ n,jX J a b n=(a ||| b) % 2 ^ n
 | 0=>by simp[jX,Nat.mod_one]
 | n+1=>by
  rw[rS,jX,uS a b n]
  congr 1
  have h1:a / 2 ^ n % 2=0\/a / 2 ^ n % 2=1:=by omega
  have h2:b / 2 ^ n % 2=0\/b / 2 ^ n % 2=1:=by omega
  have h3:=Db a b n
  rcases h1 with h1 | h1 <;> rcases h2 with h2 | h2 <;> simp[h1,h2] at h3 ⊢ <;> simp[h3]
theorem uT (both:Bool)(a b:Nat):∀ n,jX both a b n<2 ^ n
 | 0=>by simp[jX]
 | n+1=>by
  have:=uT both a b n
  rw[jX,Nat.pow_succ]
  have:∀ c:Prop,[Decidable c]->(if c then 2 ^ n else 0)<=2 ^ n:=by intro c _;split <;> omega
  have:=this (if both=H then a / 2 ^ n % 2+b / 2 ^ n % 2=2 else 0<a / 2 ^ n % 2+b / 2 ^ n % 2)
  omega
theorem BD (both:Bool)(a b:Int)(h0:0<=a)(h1:a<4294967296)(h2:0<=b)(h3:b<4294967296):(jX both a.toNat b.toNat 32:Int)=if both then qe a b else Dd a b:=by
 cases both
 ·rw[uS,Nat.mod_eq_of_lt (Nat.or_lt_two_pow (by omega) (by omega))];rfl
 ·rw[rU,Nat.mod_eq_of_lt (Nat.lt_of_le_of_lt Nat.and_le_left (by omega))];rfl
def Ef (op a b k self:Int):Option Int:=
 if op=1 then U k
 else if op=2 then U a
 else if op=3 then U ((a+k) % 4294967296)
 else if op=4 then U (qe a k)
 else if op=5 then U (a*2 ^ k.toNat % 4294967296)
 else if op=6 then U (a / 2 ^ k.toNat)
 else if op=7 then U (Dd a b)
 else if op=11 then U self
 else V
def nf (xs:List Int)(i:aK)(self:Int):Option Int:=Ef i.op (aG xs i.s.toNat) (aG xs i.t.toNat) i.k self
def nj (op a b pl pc:Int):Int:=if op=10\/(op=8/\a=b)\/(op=9/\a≠b) then pl else if op=13 then pc else pc+1
def tU (xs:List Int)(pc:Int)(i:aK):Int:=nj i.op (aG xs i.s.toNat) (aG xs i.t.toNat) i.pl pc
def BU (xs:List Int)(i:aK)(self:Int):List Int:=match nf xs i self with
 | some v=>xs.set i.d.toNat v
 | none=>xs
def nB (xs:List Int)(i:aK)(self:Int):List Int:=if eW i.op then xs else BU xs i self
def rZ (xs:List Int)(pc:Int)(i:aK):Int:=if eW i.op then pc else tU xs pc i
structure Du (i:aK):Prop where
 op:(1<=i.op/\i.op<=13)\/(16<=i.op/\i.op<=23)
 d:0<=i.d/\i.d<=7
 s:0<=i.s/\i.s<=7
 t:0<=i.t/\i.t<=7
 k:0<=i.k/\i.k<4294967296
 sh:(i.op=5\/i.op=6)->i.k<=31
 mark:(i.op=12\/i.op=13)->i.k<=4
theorem BZ {i:aK}{p:Int}(h:au i p=H)(k0:0<=i.k)(k1:i.k<4294967296):Du i:=by
 obtain⟨hd,hs,ht,hu,ha⟩:=ee i p h
 obtain⟨op,d,s,t,u,a,k,pl⟩:=i
 simp only at k0 k1 hd hs ht hu ha
 refine⟨?_,hd,hs,ht,⟨k0,k1⟩,?_,?_⟩
 ·rcases cj op with rfl|rfl|rfl|rfl|rfl|rfl|rfl|rfl|rfl|rfl|rfl|rfl|rfl|rfl|rfl|rfl|rfl|rfl|rfl|rfl|rfl | hn
  rotate_right
  ·unfold au at h
   rw[(dr hn).1] at h
   simp at h
  all_goals simp
 ·rintro(e | e)
  ·simp only at e
   subst e
   rw[jO d s t u a k pl p hd hs ht hu ha k0 k1] at h
   simp at h
   exact h.2
  ·simp only at e
   subst e
   rw[jN d s t u a k pl p hd hs ht hu ha k0 k1] at h
   simp at h
   exact h.2
 ·rintro(e | e)
  ·simp only at e
   subst e
   rw[ir d s t u a k pl p hd hs ht hu ha k0 k1] at h
   simp at h
   show k<=4
   omega
  ·simp only at e
   subst e
   rw[iq d s t u a k pl p hd hs ht hu ha k0 k1] at h
   simp at h
   show k<=4
   omega
section
variable {xs:List Int}{i:aK}{self:Int}
theorem pE {k:Int}(h0:0<=k)(h1:k<=31):(1:Int)<=2 ^ k.toNat/\(2:Int) ^ k.toNat<=2147483648:=by
 have a:=Nat.one_le_two_pow (n:=k.toNat)
 have b:=Nat.pow_le_pow_right (n:=2) (by omega) (show k.toNat<=31 by omega)
 have e:((2 ^ k.toNat:Nat):Int)=(2:Int) ^ k.toNat:=by simp
 omega
theorem sq (hx:ip xs)(h:Du i)(h0:0<=self)(h1:self<4294967296){v:Int}(hv:nf xs i self=U v):0<=v/\v<4294967296:=by
 have es:=hx.at_ i.s.toNat
 have et:=hx.at_ i.t.toNat
 have hk:=h.k
 unfold nf Ef at hv
 repeat' split at hv
 all_goals first | (injection hv with hv;subst hv) | cases hv
 ·omega
 ·omega
 ·omega
 ·exact tL es.1 es.2
 ·omega
 ·rename_i e
  have hp:=pE hk.1 (h.sh (.inr e))
  have:=Int.ediv_le_self (2 ^ i.k.toNat) es.1
  have:=Int.ediv_nonneg es.1 (by omega:(0:Int)<=2 ^ i.k.toNat)
  omega
 ·exact vE es.1 es.2 et.1 et.2
 ·omega
theorem cW.one (hx:cW xs)(h:Du i)(h0:0<=self)(h1:self<4294967296):cW (nB xs i self):=by
 unfold nB BU
 split
 ·exact hx
 ·split
  ·rename_i v hv
   exact⟨by rw[List.length_set];exact hx.1,hx.2.set _ _ (sq hx.2 h h0 h1 hv)⟩
  ·exact hx
end
structure E7 where
 xs:List Int
 pc:Int
 ms:List Int
 done:Int
 e:Int
def g9 (self:Int)(l:List aK):Nat->List Int->Int->List Int->E7
 | n,xs,pc,ms=>
  if pc<0 then ⟨xs,pc,ms,-1,11⟩
  else match l[pc.toNat]? with
   | none=>⟨xs,pc,ms,-1,11⟩
   | some i=>if eW i.op then ⟨xs,pc,ms,-1,0⟩
    else match n with
     | 0=>⟨xs,pc,ms,-1,11⟩
     | n+1=>if i.op=13 then ⟨xs,pc,ms,i.k,0⟩ else g9 self l n (nB xs i self) (rZ xs pc i) (if i.op=12 then ms++[i.k] else ms)
section
variable {self:Int}{l:List aK}{n:Nat}{xs:List Int}{pc:Int}{ms:List Int}
theorem mO (h:pc<0\/l.length<=pc):g9 self l n xs pc ms=⟨xs,pc,ms,-1,11⟩:=by
 unfold g9
 by_cases h0:pc<0
 ·rw[if_pos h0]
 ·rw[if_neg h0,List.getElem?_eq_none (by omega)]
theorem mP {i:aK}{k:Nat}(h:l[k]?=U i)(hm:eW i.op=H):g9 self l n xs k ms=⟨xs,k,ms,-1,0⟩:=by
 unfold g9
 rw[if_neg (by omega),Int.toNat_natCast,h]
 simp[hm]
theorem j7 {i:aK}{k:Nat}(h:l[k]?=U i)(hm:eW i.op=J):g9 self l 0 xs k ms=⟨xs,k,ms,-1,11⟩:=by
 unfold g9
 rw[if_neg (by omega),Int.toNat_natCast,h]
 simp[hm]
theorem j9 {i:aK}{k:Nat}(h:l[k]?=U i)(hm:i.op=13):g9 self l (n+1) xs k ms=⟨xs,k,ms,i.k,0⟩:=by
 unfold g9
 rw[if_neg (by omega),Int.toNat_natCast,h]
 simp[hm,eW]
theorem j8 {i:aK}{k:Nat}(h:l[k]?=U i)(hm:eW i.op=J)(h13:i.op≠13):g9 self l (n+1) xs k ms=g9 self l n (nB xs i self) (rZ xs k i) (if i.op=12 then ms++[i.k] else ms):=by
 conv=>lhs;unfold g9
 rw[if_neg (by omega),Int.toNat_natCast,h]
 simp[hm,h13]
end
theorem lX {self:Int}{l:List aK}(hl:∀ i∈l,Du i)(h0:0<=self)(h1:self<4294967296):∀ (n:Nat) (xs:List Int) (pc:Int) (ms:List Int),cW xs->cW (g9 self l n xs pc ms).xs
 | n,xs,pc,ms,hx=>by
  by_cases h9:pc<0\/l.length<=pc
  ·rw[mO h9];exact hx
  ·obtain⟨k,rfl⟩:∃ k:Nat,pc=k:=⟨pc.toNat,by omega⟩
   have hk:=List.getElem?_eq_getElem (l:=l) (i:=k) (by omega)
   have hi:=hl _ (List.getElem_mem (l:=l) (n:=k) (by omega))
   generalize l[k]=i at hk hi
   by_cases hm:eW i.op=H
   ·rw[mP hk hm];exact hx
   ·have hm':eW i.op=J:=by simpa using hm
    match n with
    | 0=>rw[j7 hk hm'];exact hx
    | n+1=>
     by_cases h13:i.op=13
     ·rw[j9 hk h13];exact hx
     ·rw[j8 hk hm' h13];exact lX hl h0 h1 n _ _ _ (hx.one hi h0 h1)
end
section
def fV (zs:List Int):Prop:=zs.length<=8/\∀ k,k<zs.length->0<=aG zs k/\aG zs k<=4096
def sz (zs:List Int)(k:Nat):Nat:=(aG zs k).toNat
def pre (zs:List Int):Nat->Nat
 | 0=>0
 | k+1=>pre zs k+sz zs k
theorem iu (zs:List Int)(k:Nat):pre zs (k+1)=pre zs k+sz zs k:=rfl
def jh (zs:List Int):Nat:=pre zs zs.length
def iX (zs:List Int):Nat->List (Nat×Nat)
 | 0=>[]
 | k+1=>iX zs k++(List.range (sz zs k)).map fun i=>(k,i)
def nE (zs:List Int):List (Nat×Nat):=iX zs zs.length
section
variable {zs:List Int}
theorem DS (h:fV zs){k:Nat}(hk:k<zs.length):sz zs k<=4096:=by
 have:=(h.2 k hk);unfold sz;omega
theorem rd (zs:List Int){a b:Nat}(h:a<=b):pre zs a<=pre zs b:=by
 induction b with
 | zero=>
  obtain rfl:a=0:=by omega
  exact L _
 | succ b ih=>
  by_cases e:a=b+1
  ·subst e;exact L _
  ·exact Nat.le_trans (ih (by omega)) (by simp[pre])
theorem zA (h:fV zs):∀ k,k<=zs.length->pre zs k<=4096*k
 | 0,_=>L _
 | k+1,hk=>by
  have h1:=zA h k (by omega)
  have h2:=DS h (k:=k) (by omega)
  rw[iu];omega
theorem tP (h:fV zs):jh zs<=32768:=by
 have h1:=zA h zs.length (L _)
 have h2:=h.1
 unfold jh;omega
theorem AQ {k:Nat}(hk:k<=zs.length):pre zs k<=jh zs:=rd zs hk
theorem iJ (zs:List Int):∀ k,(iX zs k).length=pre zs k
 | 0=>rfl
 | k+1=>by simp[iX,pre,iJ zs k]
theorem iz (zs:List Int):(nE zs).length=jh zs:=iJ zs _
theorem rO (zs:List Int):∀ K a p,a<K->p<sz zs a->(iX zs K)[pre zs a+p]?=U (a,p)
 | 0,a,p,ha,_=>by omega
 | K+1,a,p,ha,hp=>by
  unfold iX
  rw[List.getElem?_append,iJ]
  by_cases e:a=K
  ·subst e
   rw[if_neg (by omega),Nat.add_sub_cancel_left]
   simp[hp]
  ·have h1:pre zs (a+1)<=pre zs K:=rd zs (by omega)
   rw[iu] at h1
   rw[if_pos (by omega)]
   exact rO zs K a p (by omega) hp
theorem lP {a p:Nat}(ha:a<zs.length)(hp:p<sz zs a):(nE zs)[pre zs a+p]?=U (a,p):=rO zs _ a p ha hp
theorem ob (zs:List Int):∀ K i,i<pre zs K->∃ a p,a<K/\p<sz zs a/\i=pre zs a+p
 | 0,i,h=>by unfold pre at h;omega
 | K+1,i,h=>by
  by_cases e:i<pre zs K
  ·obtain⟨a,p,h1,h2,h3⟩:=ob zs K i e
   exact⟨a,p,by omega,h2,h3⟩
  ·rw[iu] at h
   exact⟨K,i-pre zs K,by omega,by omega,by omega⟩
theorem nN {i:Nat}(h:i<jh zs):∃ a p,a<zs.length/\p<sz zs a/\i=pre zs a+p:=ob zs _ i h
theorem zy {a p:Nat}(ha:a<zs.length)(hp:p<sz zs a):pre zs a+p<jh zs:=by
 have h1:pre zs (a+1)<=jh zs:=AQ (by omega)
 rw[iu] at h1;omega
def uc (c:Nat×Nat):List Value:=[Q O c.1,Q O c.2]
def js (l:List (Nat×Nat)):List Value:=l.flatMap uc
theorem tH (l:List (Nat×Nat))(c:Nat×Nat):js (l++[c])=js l++uc c:=by simp[js]
theorem rN:∀ (l:List (Nat×Nat)) (k:Nat) (c:Nat×Nat),l[k]?=U c->(js l)[k*2]?=U (Q O c.1)/\(js l)[k*2+1]?=U (Q O c.2)
 | [],k,c,h=>by simp at h
 | x :: l,0,c,h=>by simp at h;subst h;exact⟨rfl,rfl⟩
 | x :: l,k+1,c,h=>by
  have ih:=rN l k c (by simpa using h)
  have e:js (x :: l)=Q O x.1 :: Q O x.2 :: js l:=by simp[js,uc]
  rw[e,show (k+1)*2=k*2+1+1 by omega]
  exact ih
def dG (zs:List Int)(k i:Nat):List (Nat×Nat):=iX zs k++(List.range i).map fun i=>(k,i)
theorem wM (zs:List Int)(k:Nat):dG zs k 0=iX zs k:=by simp[dG]
theorem qK (zs:List Int)(k:Nat):dG zs k (sz zs k)=iX zs (k+1):=rfl
theorem pj (zs:List Int)(k i:Nat):dG zs k (i+1)=dG zs k i++[(k,i)]:=by simp[dG,List.range_succ]
theorem qJ (zs:List Int)(k i:Nat):(dG zs k i).length=pre zs k+i:=by simp[dG,iJ]
end
structure Lk where
 l:List aK
 lo:Int
 un:Int
 zs:List Int
 each:Nat
 n:Nat
structure xx where
 xs:List Int
 pc:Int
structure Pn where
 free:Nat->List Nat
 gen:List Int
 out:List Int
structure Mc where
 ws:List Int
 pn:Pn
 cs:Nat->xx
structure Ot where
 ms:List Int
 done:Int
 addr:Int
 wrote:Bool
 stay:Bool
 e:Int
def cb {α:Type}(f:Nat->α)(t:Nat)(v:α):Nat->α:=fun i=>if i=t then v else f i
theorem bp {α:Type}(f:Nat->α)(t:Nat)(v:α):cb f t v t=v:=by simp[cb]
theorem aJ {α:Type}{f:Nat->α}{t i:Nat}{v:α}(h:i≠t):cb f t v i=f i:=by simp[cb,h]
def Eo (gen:List Int)(q:Nat):Int:=aG gen q*4096+((q:Int)+1)
def Fk (gen out:List Int)(h:Int):Bool:=decide (1<=h % 4096/\h % 4096<=(out.length:Int)/\aG out (h % 4096-1).toNat=1/\Eo gen (h % 4096-1).toNat=h)
def DQ (p:Pn)(t:Nat):Pn×Int:=match p.free t with
 | []=>(p,0)
 | q :: rest=>(⟨cb p.free t rest,p.gen,p.out.set q 1⟩,Eo p.gen q)
def Ec (each:Nat)(p:Pn)(h:Int):Option Pn:=
 if h=0 then U p
 else if Fk p.gen p.out h then
  let q:=(h % 4096-1).toNat
  U ⟨cb p.free (q / each) (p.free (q / each)++[q]),p.gen.set q ((h / 4096+1) % 262144),p.out.set q 0⟩
 else V
def p6 (n each:Nat):Pn:=⟨fun t=>(List.range each).map fun i=>t*each+i,List.replicate (n*each) 0,List.replicate (n*each) 0⟩
def im (zs:List Int)(area v:Int):Option Nat:=
 if 0<=area/\area<zs.length/\v % 4096<sz zs area.toNat then U (pre zs area.toNat+(v % 4096).toNat) else V
def g8 (k:Lk)(m:Mc)(t:Nat)(c:xx)(o:Ot):Mc×Ot:=
 let r:=g9 (t:Int) k.l 256 c.xs c.pc []
 ({ m with cs:=cb m.cs t ⟨r.xs,r.pc⟩ },{ o with ms:=r.ms,done:=r.done,e:=r.e })
def bg (k:Lk)(m:Mc)(t:Nat)(unlock:Bool):Mc×Ot:=
 g8 k m t ⟨(m.cs t).xs,if unlock then k.un else k.lo⟩ ⟨[],0,-1,J,J,0⟩
def iW:Ot:=⟨[],-1,-1,J,J,11⟩
def kO (k:Lk)(pc:Int):Option aK:=if pc<0 then V else match k.l[pc.toNat]? with
 | some i=>if eW i.op then U i else V
 | none=>V
def r8 (k:Lk)(m:Mc)(t:Nat)(c:xx)(late:Bool)(i:aK)(a:Nat):Mc×Ot:=
 let v:=aG c.xs i.t.toNat
 let u:=aG c.xs i.u.toNat
 let was:=aG m.ws a
 let d:=i.d.toNat
 let o:Ot:=⟨[],0,a,J,J,0⟩
 if i.op=16 then g8 k m t ⟨c.xs.set d was,c.pc+1⟩ o
 else if i.op=17 then g8 k { m with ws:=m.ws.set a v } t ⟨c.xs,c.pc+1⟩ { o with wrote:=H }
 else if i.op=18 then g8 k { m with ws:=m.ws.set a v } t ⟨c.xs.set d was,c.pc+1⟩ { o with wrote:=H }
 else if i.op=19 then
  if was=v then g8 k { m with ws:=m.ws.set a u } t ⟨c.xs.set d 1,c.pc+1⟩ { o with wrote:=H }
  else g8 k m t ⟨c.xs.set d 0,c.pc+1⟩ o
 else if i.op=20 then g8 k { m with ws:=m.ws.set a ((was+i.k) % 4294967296) } t ⟨c.xs.set d was,c.pc+1⟩ { o with wrote:=H }
 else
  let holds:=decide (was=v) != decide (i.k=1)
  if holds then g8 k m t ⟨c.xs.set d was,c.pc+1⟩ o
  else if late=J\/i.pl<0 then ({ m with cs:=cb m.cs t ⟨c.xs.set d was,c.pc⟩ },{ o with stay:=H,done:=-1 })
  else g8 k m t ⟨c.xs.set d was,i.pl⟩ o
def br (k:Lk)(m:Mc)(t:Nat)(late:Bool):Mc×Ot:=
 let c:=m.cs t
 match kO k c.pc with
 | none=>(m,iW)
 | some i=>
  let s:=aG c.xs i.s.toNat
  if i.op=22 then
   let r:=DQ m.pn t
   g8 k { m with pn:=r.1 } t ⟨c.xs.set i.d.toNat r.2,c.pc+1⟩ ⟨[],0,-1,J,J,0⟩
  else if i.op=23 then match Ec k.each m.pn s with
   | none=>(m,iW)
   | some p=>g8 k { m with pn:=p } t ⟨c.xs,c.pc+1⟩ ⟨[],0,-1,J,J,0⟩
  else match im k.zs i.a s with
   | none=>(m,iW)
   | some a=>r8 k m t c late i a
def xp (k:Lk)(init r7:List Int):Mc:=⟨init,p6 k.n k.each,fun t=>⟨[0,0,0,0,0,0,0,aG r7 t],0⟩⟩
structure Rn where
 m:Mc
 act:Nat->Int
 l:List En
 bad:Bool
structure nF where
 kind:Int
 t:Int
 late:Bool
def enter (r:Rn)(kind:Int)(t:Nat):Rn:={ r with l:=r.l++[⟨kind,t,0⟩] }
def ik (k:Int):Int:=if k=1 then 2 else if k=2 then 3 else if k=3 then 4 else if k=4 then 9 else 0
def eJ (r:Rn)(t:Nat)(ms:List Int):Rn:={ r with l:=r.l++ms.map fun k=>⟨ik k,(t:Int),0⟩ }
def bm (r:Rn)(t:Nat)(o:Ot):Rn:=
 let r:=eJ r t o.ms
 if o.e≠0\/(0<=o.done/\¬ ((o.done=2)↔(r.act t=3))) then { r with bad:=H }
 else if o.done=0 then { enter r 6 t with act:=cb r.act t 0 }
 else if o.done=1 then { enter r 5 t with act:=cb r.act t 2 }
 else if o.done=2 then { enter r 10 t with act:=cb r.act t 0 }
 else if o.done=3 then { enter r 7 t with act:=cb r.act t 0 }
 else r
def eE (k:Lk)(r:Rn)(o:nF):Rn:=
 if o.t<0\/(k.n:Int)<=o.t\/r.bad=H then r
 else
  let t:=o.t.toNat
  if o.kind=1 then
   if r.act t=0 then
    let r:=enter { r with act:=cb r.act t 1 } 1 t
    let x:=bg k r.m t J
    bm { r with m:=x.1 } t x.2
   else r
  else if o.kind=2 then
   if r.act t=2 then
    let r:=enter { r with act:=cb r.act t 3 } 8 t
    let x:=bg k r.m t H
    bm { r with m:=x.1 } t x.2
   else r
  else if r.act t=1\/r.act t=3 then
   let x:=br k r.m t o.late
   bm { r with m:=x.1 } t x.2
  else r
def kX (k:Lk)(r:Rn)(l:List nF):Rn:=l.foldl (eE k) r
def BG (k:Lk)(init r7:List Int):Rn:=⟨xp k init r7,fun _=>0,[],J⟩
theorem qV {k:Lk}{I:Rn->Prop}(h:∀ r o,I r->I (eE k r o)):∀ (l:List nF) (r:Rn),I r->I (kX k r l)
 | [],r,hr=>hr
 | o :: l,r,hr=>qV h l _ (h r o hr)
theorem yq {k:Lk}{I:Rn->Prop}
 (h1:∀ r t,I r->t<k.n->r.bad=J->r.act t=0->I (bm { m:=(bg k r.m t J).1,act:=cb r.act t 1,l:=r.l++[⟨1,t,0⟩],bad:=r.bad } t (bg k r.m t J).2))
 (h2:∀ r t,I r->t<k.n->r.bad=J->r.act t=2->I (bm { m:=(bg k r.m t H).1,act:=cb r.act t 3,l:=r.l++[⟨8,t,0⟩],bad:=r.bad } t (bg k r.m t H).2))
 (h3:∀ r t late,I r->t<k.n->r.bad=J->(r.act t=1\/r.act t=3)->I (bm { r with m:=(br k r.m t late).1 } t (br k r.m t late).2))
 (r:Rn) (o:nF) (hr:I r):I (eE k r o):=by
 unfold eE
 split
 ·exact hr
 ·rename_i hc
  have ht:o.t.toNat<k.n:=by omega
  have hb:r.bad=J:=by
   cases hbb:r.bad with
   | false=>rfl
   | true=>exact absurd (.inr (.inr hbb)) hc
  simp only
  split
  ·split
   ·exact h1 r _ hr ht hb (by assumption)
   ·exact hr
  ·split
   ·split
    ·exact h2 r _ hr ht hb (by assumption)
    ·exact hr
   ·split
    ·exact h3 r _ o.late hr ht hb (by assumption)
    ·exact hr
section
variable {r:Rn}{t:Nat}{ad:Int}{wr st:Bool}
theorem dM:bm r t ⟨[],-1,ad,wr,st,0⟩=r:=by
 unfold bm eJ
 simp
theorem kw (j:Int):bm r t ⟨[j],-1,ad,wr,st,0⟩={ r with l:=r.l++[⟨ik j,t,0⟩] }:=by
 unfold bm eJ
 simp
theorem rP (h:r.act t=1):bm r t ⟨[2],1,ad,wr,st,0⟩={ r with act:=cb r.act t 2,l:=(r.l++[⟨3,t,0⟩])++[⟨5,t,0⟩] }:=by
 unfold bm eJ enter
 simp[h,ik]
theorem oL (h:r.act t=3):bm r t ⟨[4],2,ad,wr,st,0⟩={ r with act:=cb r.act t 0,l:=(r.l++[⟨9,t,0⟩])++[⟨10,t,0⟩] }:=by
 unfold bm eJ enter
 simp[h,ik]
end
theorem rQ {r:Rn}{t s:Nat}{o:Ot}(h:s≠t):(bm r t o).act s=r.act s:=by
 unfold bm eJ enter
 simp only
 repeat' split
 all_goals first | rfl | exact aJ h
theorem uC {k:Lk}{r:Rn}{o:nF}{s:Nat}(h:o.t≠s):(eE k r o).act s=r.act s:=by
 unfold eE
 split
 ·rfl
 ·rename_i hc
  have hs:s≠o.t.toNat:=by omega
  simp only
  repeat' split
  all_goals first | rfl | exact rQ hs | exact(rQ hs).trans (aJ hs)
def tw (x:Int):Int:=x % 4294967296
def qi (l:List En):Nat:=if (ax l).ow=-1 then 0 else 1
structure E8 (i:aK)(n:Nat):Prop where
 op:16<=i.op/\i.op<=23
 d:0<=i.d/\i.d<=7
 s:0<=i.s/\i.s<=7
 t:0<=i.t/\i.t<=7
 u:0<=i.u/\i.u<=7
 a:0<=i.a/\i.a<=7
 k:0<=i.k/\i.k<4294967296
 aw:i.op=21->(i.k=0\/i.k=1)/\(i.pl=-1\/(0<=i.pl/\i.pl<n))
theorem CK {i:aK}{n:Nat}(h:au i n=H)(k0:0<=i.k)(k1:i.k<4294967296)(hm:eW i.op=H):E8 i n:=by
 obtain⟨hd,hs,ht,hu,ha⟩:=ee i n h
 have ho:=(BZ h k0 k1).op
 have hop:16<=i.op/\i.op<=23:=by
  unfold eW at hm
  simp only[Bool.and_eq_true,decide_eq_true_eq] at hm
  omega
 refine⟨hop,hd,hs,ht,hu,ha,⟨k0,k1⟩,fun e=>?_⟩
 obtain⟨op,d,s,t,u,a,k,pl⟩:=i
 simp only at e k0 k1 hd hs ht hu ha
 subst e
 rw[gG d s t u a k pl n hd hs ht hu ha k0 k1] at h
 simp at h
 simp only
 omega
theorem cW.put {xs:List Int}(h:cW xs)(d:Nat){v:Int}(hv:0<=v/\v<4294967296):cW (xs.set d v):=⟨by rw[List.length_set];exact h.1,h.2.set _ _ hv⟩
section
variable {k:Lk}{m:Mc}{t:Nat}{late:Bool}{i:aK}{a:Nat}
theorem vq (h:kO k (m.cs t).pc=V):br k m t late=(m,iW):=by
 unfold br
 simp only[h]
theorem gV {pc:Int}(h:kO k pc=U i):0<=pc/\pc<k.l.length/\k.l[pc.toNat]?=U i/\eW i.op=H:=by
 unfold kO at h
 by_cases h0:pc<0
 ·rw[if_pos h0] at h;cases h
 ·rw[if_neg h0] at h
  cases hk:k.l[pc.toNat]? with
  | none=>rw[hk] at h;cases h
  | some j=>
   rw[hk] at h
   simp only at h
   by_cases hm:eW j.op=H
   ·rw[if_pos hm] at h
    injection h with h
    subst h
    have:=(List.getElem?_eq_some_iff.1 hk).1
    exact⟨by omega,by omega,rfl,hm⟩
   ·rw[if_neg hm] at h;cases h
theorem vP {pc:Int}(h:kO k pc=V):pc<0\/(k.l.length:Int)<=pc\/∃ j,0<=pc/\pc<k.l.length/\k.l[pc.toNat]?=U j/\eW j.op=J:=by
 unfold kO at h
 by_cases h0:pc<0
 ·exact .inl h0
 ·rw[if_neg h0] at h
  cases hk:k.l[pc.toNat]? with
  | none=>exact .inr (.inl (by have:=List.getElem?_eq_none_iff.1 hk;omega))
  | some j=>
   rw[hk] at h
   simp only at h
   have:=(List.getElem?_eq_some_iff.1 hk).1
   by_cases hm:eW j.op=H
   ·rw[if_pos hm] at h;cases h
   ·exact .inr (.inr ⟨j,by omega,by omega,rfl,by simpa using hm⟩)
structure EX (k:Lk)(m:Mc):Prop where
 ws:ip m.ws
 len:m.ws.length=jh k.zs
 cs:∀ t,t<k.n->cW (m.cs t).xs
structure ia (k:Lk):Prop where
 code:iZ ⟨k.l,k.lo,k.un⟩=H
 k32:∀ i∈k.l,0<=i.k/\i.k<4294967296
 zs:fV k.zs
 few:jh k.zs<=8192
 n1:1<=k.n
 n64:k.n<=64
 each:k.each<=8
theorem ia.parts (h:ia k):1<=k.l.length/\k.l.length<=64/\0<=k.lo/\k.lo<k.l.length/\0<=k.un/\k.un<k.l.length/\∀ i∈k.l,au i k.l.length=H:=by
 have hc:=h.code
 unfold iZ at hc
 simp only[Bool.and_eq_true,decide_eq_true_eq,List.all_eq_true] at hc
 obtain⟨h1,h2,h3,h4,h5,h6,h7⟩:=hc
 exact⟨h1,h2,h3,h5,h4,h6,h7⟩
theorem ia.ok (h:ia k):∀ i∈k.l,Du i:=fun i hi=>BZ (h.parts.2.2.2.2.2.2 i hi) (h.k32 i hi).1 (h.k32 i hi).2
theorem ia.EG (h:ia k){pc:Int}(hm:kO k pc=U i):E8 i k.l.length:=by
 obtain⟨_,_,h3,h4⟩:=gV hm
 have hi:=List.mem_of_getElem? h3
 exact CK (h.parts.2.2.2.2.2.2 i hi) (h.k32 i hi).1 (h.k32 i hi).2 h4
theorem lT {cs:Nat->xx}{c:xx}{n:Nat}(h:∀ t,t<n->cW (cs t).xs)(hc:cW c.xs)(t:Nat):∀ s,s<n->cW (cb cs t c s).xs:=fun s hs=>by
 unfold cb
 split
 ·exact hc
 ·exact h s hs
end
end
section
open Go.ChangeShapes Go.WideShapes Go.ChangeAt Go.RowKit
section
variable {w w':World}{x n each N:Nat}{R:RM}{free:Nat->List Nat}{gen out:List Int}
def fF (w:World)(n:Nat)(R:RM)(w':World)(R':RM):Prop:=ag w w' (R.Has n)/\∀ i,R'.Has n i->R.Has n i\/w.heap.size<=i
theorem fF.refl (w:World)(n:Nat)(R:RM):fF w n R w R:=⟨ag.refl _ _,fun _ h=>.inl h⟩
theorem fF.jq {R':RM}(h:fF w n R w' R')(m:Nat):fF w n R (w'.drewN m) R':=⟨h.1.jq m,h.2⟩
theorem fF.aO {w'':World}{R' R'':RM}(h:fF w n R w' R')(k:fF w' n R' w'' R''):fF w n R w'' R'':=
 ⟨h.1.aO k.1 h.2,fun i hi=>by
  rcases k.2 i hi with e | e
  ·exact h.2 i e
  ·exact .inr (Nat.le_trans h.1.size e)⟩
theorem fF.put {g i:Nat}{u:Value}(h:R.Has n g):fF w n R (w.setCell ⟨g,i,V⟩ u) R:=⟨(ag.refl w _).put g _ _ (.inl h),fun _ h=>.inl h⟩
end
def Ev (w:World)(a:Option Addr)(l:List aK):Prop:=
 0<l.length->∃ b off,a=U ⟨b,off,V⟩/\b<w.heap.size/\∀ k i,l[k]?=U i->∀ j,j<8->w.cell? ⟨b,off+k*8+j,V⟩=(iV i)[j]?
def Pv (w:World)(v:Value)(c:fy):Prop:=∃ a cap,v=.agg #[.slice a c.l.length cap,Q O c.lo,Q O c.un]/\c.l.length<=cap/\cap<=maxLen/\(a=V->cap=0)/\Ev w a c.l
section
variable {w w':World}{a:Option Addr}{l:List aK}{v:Value}{c:fy}
theorem Ev.below (h:Ev w a l)(hb:Below w.heap.size w w'):Ev w' a l:=by
 intro h0
 obtain⟨b,off,e,hlt,hc⟩:=h h0
 exact⟨b,off,e,Nat.lt_of_lt_of_le hlt hb.size,fun k i hk j hj=>(hb.cell (p:=⟨b,off+k*8+j,V⟩) hlt).trans (hc k i hk j hj)⟩
theorem Pv.below (h:Pv w v c)(hb:Below w.heap.size w w'):Pv w' v c:=by
 obtain⟨a,cap,e,h1,h2,h4,h3⟩:=h
 exact⟨a,cap,e,h1,h2,h4,h3.below hb⟩
theorem um {t:TypeId}{base cap:Nat}(h:w.ownsRow base t 8 (.slice a l.length cap) l.length (bq l)):Ev w a l:=by
 intro h0
 obtain⟨a2,cap2,e,_,_,hg⟩:=aY h
 simp only[Value.slice.injEq] at e
 obtain⟨rfl,-,rfl⟩:=e
 obtain⟨g,rfl,_,_,hlt,_,hc⟩:=hg h0
 refine⟨g,0,rfl,hlt,fun k i hk j hj=>?_⟩
 have hkl:=(List.getElem?_eq_some_iff.1 hk).1
 rw[Nat.zero_add,hc _ (by omega),qZ hk hj]
theorem uz {t:TypeId}{base n cap size:Nat}{xs:List Value}(h:w.ownsRow base t size (.slice a n cap) n xs)(e:a=V):cap=0:=by
 subst e
 rcases h.2 with ⟨h,_⟩ | ⟨g,c,cur,h,_⟩
 ·injection h
 ·injection h with h;cases h
theorem Pg.pv {base:Nat}(h:Pg w base v c):Pv w v c:=by
 obtain⟨sl,rfl,ho⟩:=h
 obtain⟨a,cap,rfl,h1,h2,_⟩:=aY ho
 exact⟨a,cap,rfl,h1,h2,uz ho,um ho⟩
theorem Ev.at_ (h:Ev w a l){k:Nat}{i:aK}(hk:l[k]?=U i):∃ b off,a=U ⟨b,off,V⟩/\b<w.heap.size/\w.cell? ⟨b,off+k*8,V⟩=U (Q O i.op)/\w.cell? ⟨b,off+k*8+1,V⟩=U (Q O i.d)/\w.cell? ⟨b,off+k*8+2,V⟩=U (Q O i.s)/\w.cell? ⟨b,off+k*8+3,V⟩=U (Q O i.t)/\
 w.cell? ⟨b,off+k*8+4,V⟩=U (Q O i.u)/\w.cell? ⟨b,off+k*8+5,V⟩=U (Q O i.a)/\w.cell? ⟨b,off+k*8+6,V⟩=U (Q Z i.k)/\w.cell? ⟨b,off+k*8+7,V⟩=U (Q O i.pl):=by
 have hkl:=(List.getElem?_eq_some_iff.1 hk).1
 obtain⟨b,off,e,hlt,hc⟩:=h (by omega)
 exact⟨b,off,e,hlt,hc k i hk 0 (by omega),hc k i hk 1 (by omega),hc k i hk 2 (by omega),hc k i hk 3 (by omega),hc k i hk 4 (by omega),hc k i hk 5 (by omega),hc k i hk 6 (by omega),hc k i hk 7 (by omega)⟩
end
end
section
def gP (n:Nat):Lk:=⟨EF,0,5,[1,1],0,n⟩
def tc (a b pc:Int):xx:=⟨[0,a,b,0,0,0,0,0],pc⟩
section
variable {n t:Nat}{m:Mc}{a b pc x y:Int}{late:Bool}
theorem uj (h:m.cs t=tc a b pc):bg (gP n) m t J=({ m with cs:=cb m.cs t (tc a b 0) },⟨[],-1,-1,J,J,0⟩):=by
 unfold bg;rw[h];rfl
theorem nP (h:m.cs t=tc a b pc):bg (gP n) m t H=({ m with cs:=cb m.cs t (tc (tw (a+1)) b 6) },⟨[],-1,-1,J,J,0⟩):=by
 unfold bg;rw[h];rfl
theorem De (h:m.cs t=tc a b 0)(hw:m.ws=[x,y]):br (gP n) m t late=({ m with ws:=[tw (x+1),y],cs:=cb m.cs t (tc x b 2) },⟨[1],-1,0,H,J,0⟩):=by
 obtain⟨ws,pn,cs⟩:=m
 simp only at h hw
 subst hw
 unfold br
 simp only[h]
 kernel_rfl
theorem Eh (h:m.cs t=tc a b 2)(hw:m.ws=[x,y]):br (gP n) m t late=if y=a then ({ m with cs:=cb m.cs t (tc a y 4) },⟨[2],1,1,J,J,0⟩) else ({ m with cs:=cb m.cs t (tc a y 2) },⟨[],-1,1,J,H,0⟩):=by
 obtain⟨ws,pn,cs⟩:=m
 simp only at h hw
 subst hw
 unfold br
 simp only[h]
 have e:∀ (A B C:Mc×Ot),(if (decide (y=a) != decide ((0:Int)=1))=H then A else if late=J\/(-1:Int)<0 then B else C)=if y=a then A else B:=fun A B C=>by
  by_cases e:y=a <;> simp[e]
 refine Eq.trans ?_ (e _ _ (g8 (gP n) ⟨[x,y],pn,cs⟩ t (tc a y (-1)) ⟨[],0,1,J,J,0⟩))
 kernel_rfl
theorem Eg (h:m.cs t=tc a b 6)(hw:m.ws=[x,y]):br (gP n) m t late=({ m with ws:=[x,a],cs:=cb m.cs t (tc a b 8) },⟨[4],2,1,H,J,0⟩):=by
 obtain⟨ws,pn,cs⟩:=m
 simp only at h hw
 subst hw
 unfold br
 simp only[h]
 kernel_rfl
end
def Fm (st:Int)(s:Nat)(act la:Int)(c:xx):Prop:=
 (act=0/\(la=0\/la=10)/\∃ a b pc,c=tc a b pc)\/(act=1/\la=1/\∃ a b,c=tc a b 0)\/(act=1/\la=2)\/
 (act=2/\la=5/\∃ b,c=tc (tw (st+s)) b 4)\/(act=3/\la=8/\∃ b,c=tc (tw (st+s+1)) b 6)
structure qO (n:Nat)(st:Int)(s:Nat)(r:Rn):Prop where
 bad:r.bad=J
 tr:dC n r.l
 now:∀ y∈r.l,y.now=0
 ws:r.m.ws=[tw (st+s+qi r.l+(ax r.l).q.length),tw (st+s)]
 qs:∀ j t:Nat,(ax r.l).q[j]?=U (t:Int)->r.act t=1/\∃ b,r.m.cs t=tc (tw (st+s+qi r.l+j)) b 2
 th:∀ t:Nat,t<n->Fm st s (r.act t) (aB r.l t) (r.m.cs t)
theorem Cr (n:Nat)(st:Int)(h0:0<=st)(h1:st<4294967296)(r7:List Int)(h7:∀ t,aG r7 t=0):qO n st 0 (BG (gP n) [st,st] r7):=by
 have e:tw (st+((0:Nat):Int))=st:=by unfold tw;omega
 refine⟨rfl,nM _,fun y hy=>by simp[BG] at hy,?_,fun j t hq=>by simp[BG,ax,EH] at hq,fun t ht=>.inl ⟨rfl,.inl rfl,0,0,0,?_⟩⟩
 ·show [st,st]=[tw (st+((0:Nat):Int)+((0:Nat):Int)+((0:Nat):Int)),tw (st+((0:Nat):Int))]
  rw[show st+((0:Nat):Int)+((0:Nat):Int)+((0:Nat):Int)=st+((0:Nat):Int) by omega,e]
 ·show (⟨[0,0,0,0,0,0,0,aG r7 t],0⟩:xx)=_
  rw[h7];rfl
section
variable {n:Nat}{st:Int}{s:Nat}{r:Rn}{t:Nat}
theorem uk (h:qO n st s r)(ht:t<n)(ha:r.act t=0):qO n st s (bm { m:=(bg (gP n) r.m t J).1,act:=cb r.act t 1,l:=r.l++[⟨1,t,0⟩],bad:=r.bad } t (bg (gP n) r.m t J).2):=by
 obtain⟨_,hla,a,b,pc,hc⟩:r.act t=0/\(aB r.l t=0\/aB r.l t=10)/\∃ a b pc,r.m.cs t=tc a b pc:=by
  rcases h.th t ht with h1 | h1 | h1 | h1 | h1
  ·exact h1
  all_goals (exfalso;have:=h1.1;omega)
 rw[uj hc,dM]
 have hown:cH (aB r.l t)=J:=by unfold cH;simp;omega
 have e1:(ax (r.l++[⟨1,(t:Int),0⟩])).q=(ax r.l).q:=iQ h.tr (by simp) (by show aB r.l t≠2;omega)
 have e2:qi (r.l++[⟨1,(t:Int),0⟩])=qi r.l:=by unfold qi;rw[iw h.tr (by simp) rfl hown]
 have hnq:∀ j,(ax r.l).q[j]?≠U (t:Int):=fun j hj=>by
  have:=((kB _ h.tr).1 t).1 (List.mem_of_getElem? hj)
  omega
 refine⟨h.bad,ed h.tr h.now rfl ⟨by simp,by simpa using ht,.inl ⟨rfl,?_⟩⟩,eL h.now,?_,fun j t' hq=>?_,fun t' ht'=>?_⟩
 ·rw[lq]
  rcases hla with e | e
  ·exact .inl e
  ·exact .inr (.inr (.inr e))
 ·show r.m.ws=_
  rw[e1,e2];exact h.ws
 ·rw[e1] at hq
  have hne:t'≠t:=fun e=>hnq j (e ▸ hq)
  obtain⟨q1,b',q2⟩:=h.qs j t' hq
  simp only
  rw[aJ hne,aJ hne,e2]
  exact⟨q1,b',q2⟩
 ·simp only
  by_cases e:t'=t
  ·subst e
   rw[bp,bp,cG]
   exact .inr (.inl ⟨rfl,rfl,a,b,rfl⟩)
  ·rw[aJ e,aJ e,bJ _ _ _ _ e]
   exact h.th t' ht'
theorem mM (h:qO n st s r)(hl:aB r.l t≠2){j t':Nat}(hq:(ax r.l).q[j]?=U (t':Int)):t'≠t:=fun e=>by
 subst e
 exact hl (((kB _ h.tr).1 t').1 (List.mem_of_getElem? hq))
theorem Ai (h:qO n st s r)(ht:t<n)(ha:r.act t=2):qO n st s (bm { m:=(bg (gP n) r.m t H).1,act:=cb r.act t 3,l:=r.l++[⟨8,t,0⟩],bad:=r.bad } t (bg (gP n) r.m t H).2):=by
 obtain⟨_,hla,b,hc⟩:r.act t=2/\aB r.l t=5/\∃ b,r.m.cs t=tc (tw (st+s)) b 4:=by
  rcases h.th t ht with h1 | h1 | h1 | h1 | h1
  case inr.inr.inr.inl=>exact h1
  all_goals (exfalso;have:=h1.1;omega)
 rw[nP hc,dM]
 have hown:cH (aB r.l t)=H:=by unfold cH;simp;omega
 have e1:(ax (r.l++[⟨8,(t:Int),0⟩])).q=(ax r.l).q:=iQ h.tr (by simp) (by show aB r.l t≠2;omega)
 have e2:qi (r.l++[⟨8,(t:Int),0⟩])=qi r.l:=by unfold qi;rw[uA rfl,BY h.tr hown]
 refine⟨h.bad,ed h.tr h.now rfl ⟨by simp,by simpa using ht,?_⟩,eL h.now,?_,fun j t' hq=>?_,fun t' ht'=>?_⟩
 ·rw[lq]
  exact .inr (.inr (.inr (.inr (.inr (.inr (.inl ⟨rfl,hla⟩))))))
 ·show r.m.ws=_
  rw[e1,e2];exact h.ws
 ·rw[e1] at hq
  have hne:=mM h (t:=t) (by omega) hq
  obtain⟨q1,b',q2⟩:=h.qs j t' hq
  simp only
  rw[aJ hne,aJ hne,e2]
  exact⟨q1,b',q2⟩
 ·simp only
  by_cases e:t'=t
  ·subst e
   rw[bp,bp,cG]
   refine .inr (.inr (.inr (.inr ⟨rfl,rfl,b,?_⟩)))
   rw[show tw (tw (st+s)+1)=tw (st+s+1) by unfold tw;omega]
  ·rw[aJ e,aJ e,bJ _ _ _ _ e]
   exact h.th t' ht'
theorem BR (h:qO n st s r)(ht:t<n)(ha:r.act t=1)(hla:aB r.l t=1){a b:Int}(hc:r.m.cs t=tc a b 0)(late:Bool):
 qO n st s (bm { r with m:=(br (gP n) r.m t late).1 } t (br (gP n) r.m t late).2):=by
 rw[De hc h.ws,kw]
 have hown:cH (aB r.l t)=J:=by unfold cH;simp;omega
 have e1:(ax (r.l++[⟨ik 1,(t:Int),0⟩])).q=(ax r.l).q++[(t:Int)]:=BW h.tr rfl (by show aB r.l t≠2;omega)
 have e2:qi (r.l++[⟨ik 1,(t:Int),0⟩])=qi r.l:=by unfold qi;rw[iw h.tr (by simp) rfl hown]
 refine⟨h.bad,ed h.tr h.now rfl ⟨by simp,by simpa using ht,?_⟩,eL h.now,?_,fun j t' hq=>?_,fun t' ht'=>?_⟩
 ·rw[lq]
  exact .inr (.inl ⟨.inl rfl,hla⟩)
 ·show [_,_]=[_,_]
  rw[e1,e2,List.length_append,List.length_singleton]
  congr 1
  unfold tw;omega
 ·rw[e1,List.getElem?_append] at hq
  simp only
  split at hq
  ·have hne:=mM h (t:=t) (by omega) hq
   obtain⟨q1,b',q2⟩:=h.qs j t' hq
   rw[aJ hne,e2]
   exact⟨q1,b',q2⟩
  ·have hj:j-(ax r.l).q.length=0:=by
    have:=(List.getElem?_eq_some_iff.1 hq).1
    simp at this;omega
   rw[hj] at hq
   simp at hq
   have e:t'=t:=by omega
   subst e
   have hjj:j=(ax r.l).q.length:=by omega
   subst hjj
   rw[bp,e2]
   exact⟨ha,b,rfl⟩
 ·simp only
  by_cases e:t'=t
  ·subst e
   rw[bp,cG]
   exact .inr (.inr (.inl ⟨ha,rfl⟩))
  ·rw[aJ e,bJ _ _ _ _ e]
   exact h.th t' ht'
theorem DN (h:qO n st s r)(ht:t<n)(ha:r.act t=3)(hla:aB r.l t=8){b:Int}(hc:r.m.cs t=tc (tw (st+s+1)) b 6)(late:Bool):
 qO n st (s+1) (bm { r with m:=(br (gP n) r.m t late).1 } t (br (gP n) r.m t late).2):=by
 rw[Eg hc h.ws,oL (by exact ha)]
 have hown:cH (aB r.l t)=H:=by unfold cH;simp;omega
 have ht1:dC n (r.l++[⟨9,(t:Int),0⟩]):=ed h.tr h.now rfl ⟨by simp,by simpa using ht,by rw[lq];exact .inr (.inr (.inr (.inr (.inr (.inr (.inr (.inl ⟨rfl,hla⟩)))))))⟩
 have hl1:aB (r.l++[⟨9,(t:Int),0⟩]) t=9:=cG _ _ _
 have e0:(ax r.l).ow=t:=BY h.tr hown
 have o1:(ax (r.l++[⟨9,(t:Int),0⟩])).ow=-1:=AT h.tr rfl hown
 have o2:(ax (r.l++[⟨9,(t:Int),0⟩]++[⟨10,(t:Int),0⟩])).ow=-1:=by rw[iw ht1 (by simp) rfl (by show cH (aB (r.l++[⟨9,(t:Int),0⟩]) t)=J;rw[hl1];rfl),o1]
 have e1:(ax (r.l++[⟨9,(t:Int),0⟩]++[⟨10,(t:Int),0⟩])).q=(ax r.l).q:=by
  rw[iQ ht1 (by simp) (by show aB (r.l++[⟨9,(t:Int),0⟩]) t≠2;omega),iQ h.tr (by simp) (by show aB r.l t≠2;omega)]
 have k0:qi r.l=1:=by unfold qi;rw[e0,if_neg (by omega)]
 have k1:qi (r.l++[⟨9,(t:Int),0⟩]++[⟨10,(t:Int),0⟩])=0:=by unfold qi;rw[o2,if_pos rfl]
 refine⟨h.bad,ed ht1 (eL h.now) rfl ⟨by simp,by simpa using ht,?_⟩,eL (eL h.now),?_,fun j t' hq=>?_,fun t' ht'=>?_⟩
 ·rw[lq]
  exact .inr (.inr (.inr (.inr (.inr (.inr (.inr (.inr ⟨rfl,hl1⟩)))))))
 ·show [_,_]=[_,_]
  rw[e1,k1,k0]
  have w1:st+(s:Int)+((1:Nat):Int)+((ax r.l).q.length:Int)=st+((s+1:Nat):Int)+((0:Nat):Int)+((ax r.l).q.length:Int):=by omega
  have w2:st+(s:Int)+1=st+((s+1:Nat):Int):=by omega
  rw[w1,w2]
 ·rw[e1] at hq
  have hne:=mM h (t:=t) (by omega) hq
  obtain⟨q1,b',q2⟩:=h.qs j t' hq
  simp only
  rw[aJ hne,aJ hne,k1]
  refine⟨q1,b',q2.trans ?_⟩
  rw[k0,show st+(s:Int)+((1:Nat):Int)+(j:Int)=st+((s+1:Nat):Int)+((0:Nat):Int)+(j:Int) by omega]
 ·simp only
  by_cases e:t'=t
  ·subst e
   rw[bp,bp,cG]
   exact .inl ⟨rfl,.inr rfl,_,_,_,rfl⟩
  ·rw[aJ e,aJ e,bJ _ _ _ _ e,bJ _ _ _ _ e]
   have hnow:¬ cH (aB r.l t')=H:=fun hh=>e (by have:=AS h.tr hh hown;omega)
   rcases h.th t' ht' with h1 | h1 | h1 | h1 | h1
   ·exact .inl h1
   ·exact .inr (.inl h1)
   ·exact .inr (.inr (.inl h1))
   ·exact absurd (by rw[h1.2.1];rfl) hnow
   ·exact absurd (by rw[h1.2.1];rfl) hnow
theorem DO (h:qO n st s r)(hn:n<=64)(ht:t<n)(ha:r.act t=1)(hla:aB r.l t=2)(late:Bool):
 qO n st s (bm { r with m:=(br (gP n) r.m t late).1 } t (br (gP n) r.m t late).2):=by
 obtain⟨m1,m2,m3⟩:=kB _ h.tr
 obtain⟨j,hj⟩:=List.getElem?_of_mem ((m1 t).2 hla)
 obtain⟨_,b,hc⟩:=h.qs j t hj
 have hjl:j<(ax r.l).q.length:=(List.getElem?_eq_some_iff.1 hj).1
 have hfew:=ke n _ m2 m3
 have hown:cH (aB r.l t)=J:=by rw[hla];rfl
 have hne:∀ j' t':Nat,(ax r.l).q[j']?=U (t':Int)->j'≠j->t'≠t:=fun j' t' hq hjj e=>by
  subst e
  rw[<-hj] at hq
  have hlt:=(List.getElem?_eq_some_iff.1 hj).1
  have hlt':j'<(ax r.l).q.length:=by
   rcases Nat.lt_or_ge j' (ax r.l).q.length with h | h
   ·exact h
   ·rw[List.getElem?_eq_none h,hj] at hq;cases hq
  rw[List.getElem?_eq_getElem hlt,List.getElem?_eq_getElem hlt'] at hq
  exact hjj ((List.getElem_inj m2).1 (Option.some.inj hq))
 have ho:qi r.l<=1:=by unfold qi;split <;> omega
 rw[Eh hc h.ws]
 by_cases e:tw (st+s)=tw (st+s+qi r.l+j)
 ·have hz:qi r.l=0/\j=0:=by unfold tw at e;omega
  obtain⟨z1,rfl⟩:=hz
  rw[if_pos e,rP (by exact ha)]
  have o0:(ax r.l).ow=-1:=by
   unfold qi at z1
   by_cases hh:(ax r.l).ow=-1
   ·exact hh
   ·rw[if_neg hh] at z1;omega
  obtain⟨rest,hq0⟩:∃ rest,(ax r.l).q=(t:Int) :: rest:=by
   cases hqq:(ax r.l).q with
   | nil=>rw[hqq] at hj;simp at hj
   | cons y rest=>rw[hqq] at hj;simp at hj;subst hj;exact⟨rest,rfl⟩
  have ht1:dC n (r.l++[⟨3,(t:Int),0⟩]):=ed h.tr h.now rfl ⟨by simp,by simpa using ht,by
   rw[lq,hq0,o0]
   exact .inr (.inr (.inl ⟨rfl,hla,rfl,rfl⟩))⟩
  have hl1:aB (r.l++[⟨3,(t:Int),0⟩]) t=3:=cG _ _ _
  have e1:(ax (r.l++[⟨3,(t:Int),0⟩]++[⟨5,(t:Int),0⟩])).q=rest:=by
   rw[iQ ht1 (by simp) (by show aB (r.l++[⟨3,(t:Int),0⟩]) t≠2;omega),CH h.tr (by simp) hq0]
  have k1:qi (r.l++[⟨3,(t:Int),0⟩]++[⟨5,(t:Int),0⟩])=1:=by
   unfold qi;rw[uA rfl,if_neg (by show ¬ (t:Int)=-1;omega)]
  refine⟨h.bad,ed ht1 (eL h.now) rfl ⟨by simp,by simpa using ht,?_⟩,eL (eL h.now),?_,fun j t' hq=>?_,fun t' ht'=>?_⟩
  ·rw[lq]
   exact .inr (.inr (.inr (.inr (.inl ⟨rfl,hl1⟩))))
  ·show r.m.ws=_
   rw[h.ws,e1,k1,z1,hq0,List.length_cons]
   have w1:st+(s:Int)+((0:Nat):Int)+((rest.length+1:Nat):Int)=st+(s:Int)+((1:Nat):Int)+(rest.length:Int):=by omega
   rw[w1]
  ·rw[e1] at hq
   have hq2:(ax r.l).q[j+1]?=U (t':Int):=by rw[hq0];simpa using hq
   have hnt:=hne (j+1) t' hq2 (by omega)
   obtain⟨q1,b',q2⟩:=h.qs (j+1) t' hq2
   simp only
   rw[aJ hnt,aJ hnt,k1]
   refine⟨q1,b',q2.trans ?_⟩
   rw[z1,show st+(s:Int)+((0:Nat):Int)+((j+1:Nat):Int)=st+(s:Int)+((1:Nat):Int)+(j:Int) by omega]
  ·simp only
   by_cases e':t'=t
   ·subst e'
    rw[bp,bp,cG]
    refine .inr (.inr (.inr (.inl ⟨rfl,rfl,tw (st+s),?_⟩)))
    rw[<-e]
   ·rw[aJ e',aJ e',bJ _ _ _ _ e',bJ _ _ _ _ e']
    exact h.th t' ht'
 ·rw[if_neg e,dM]
  refine⟨h.bad,h.tr,h.now,h.ws,fun j' t' hq=>?_,fun t' ht'=>?_⟩
  ·simp only
   by_cases e':t'=t
   ·have hjj:j'=j:=by
     rcases Nat.decEq j' j with hh | hh
     ·exact absurd e' (hne j' t' hq hh)
     ·exact hh
    subst hjj
    subst e'
    rw[bp]
    exact⟨ha,_,rfl⟩
   ·rw[aJ e']
    exact h.qs j' t' hq
  ·simp only
   by_cases e':t'=t
   ·subst e'
    exact .inr (.inr (.inl ⟨ha,hla⟩))
   ·rw[aJ e']
    exact h.th t' ht'
theorem sc (hn:n<=64)(o:nF)(h:∃ s,qO n st s r):∃ s,qO n st s (eE (gP n) r o):=by
 refine yq (I:=fun r=>∃ s,qO n st s r) ?_ ?_ ?_ r o h
 ·rintro r t ⟨s,h⟩ ht _ ha;exact⟨s,uk h ht ha⟩
 ·rintro r t ⟨s,h⟩ ht _ ha;exact⟨s,Ai h ht ha⟩
 ·rintro r t late ⟨s,h⟩ ht _ ha
  rcases h.th t ht with h1 | h1 | h1 | h1 | h1
  ·exfalso;have:=h1.1;omega
  ·obtain⟨h2,h3,a,b,hc⟩:=h1
   exact⟨s,BR h ht h2 h3 hc late⟩
  ·exact⟨s,DO h hn ht h1.1 h1.2 late⟩
  ·exfalso;have:=h1.1;omega
  ·obtain⟨h2,h3,b,hc⟩:=h1
   exact⟨s+1,DN h ht h2 h3 hc late⟩
end
structure ue (X:Type)(n:Nat)(op:X->Nat->X)(done:X->Prop) where
 I:X->Prop
 mu:X->Nat
 en:X->Nat->Prop
 keep:∀ x t,t<n->I x->I (op x t)
 le:∀ x t,I x->t<n->mu (op x t)<=mu x
 lt:∀ x t,I x->t<n->en x t->mu (op x t)<mu x
 stays:∀ x t t',I x->t<n->t'<n->en x t->t'≠t->en (op x t') t\/mu (op x t')<mu x
 some_:∀ x,I x->¬ done x->∃ t,t<n/\en x t
def xd {X:Type}(n:Nat)(op:X->Nat->X)(x:X):X:=(List.range n).foldl op x
def fj {X:Type}(n:Nat)(op:X->Nat->X):Nat->X->X
 | 0,x=>x
 | j+1,x=>fj n op j (xd n op x)
section
variable {X:Type}{n:Nat}{op:X->Nat->X}{done:X->Prop}
theorem nX (P:ue X n op done):∀ (l:List Nat) (x:X),P.I x->(∀ t∈l,t<n)->P.I (l.foldl op x)
 | [],x,h,_=>h
 | t :: l,x,h,hl=>nX P l _ (P.keep x t (hl t (by simp)) h) fun t ht=>hl t (by simp[ht])
theorem uw (P:ue X n op done):∀ (l:List Nat) (x:X),P.I x->(∀ t∈l,t<n)->P.mu (l.foldl op x)<=P.mu x
 | [],x,h,_=>L _
 | t :: l,x,h,hl=>Nat.le_trans (uw P l _ (P.keep x t (hl t (by simp)) h) fun t ht=>hl t (by simp[ht])) (P.le x t h (hl t (by simp)))
theorem uv (P:ue X n op done){t:Nat}(ht:t<n):∀ (l:List Nat) (x:X),P.I x->(∀ t∈l,t<n)->t∈l->P.en x t->P.mu (l.foldl op x)<P.mu x
 | [],x,_,_,hm,_=>by simp at hm
 | y :: l,x,h,hl,hm,he=>by
  have hy:=hl y (by simp)
  have hI:=P.keep x y hy h
  have hle:=uw P l (op x y) hI fun t ht=>hl t (by simp[ht])
  by_cases e:y=t
  ·subst e
   exact Nat.lt_of_le_of_lt hle (P.lt x y h ht he)
  ·rcases P.stays x t y h ht hy he e with h1 | h1
   ·have hm2:t∈l:=by
     rcases List.mem_cons.1 hm with hm | hm
     ·exact absurd hm.symm e
     ·exact hm
    exact Nat.lt_of_lt_of_le (uv P ht l _ hI (fun t ht=>hl t (by simp[ht])) hm2 h1) (P.le x y h hy)
   ·exact Nat.lt_of_le_of_lt hle h1
theorem nW (P:ue X n op done){x:X}(h:P.I x):P.I (xd n op x):=nX P _ x h fun t ht=>List.mem_range.1 ht
theorem mb (P:ue X n op done):∀ (j:Nat) (x:X),P.I x->P.I (fj n op j x)
 | 0,x,h=>h
 | j+1,x,h=>mb P j _ (nW P h)
theorem vy (P:ue X n op done){x:X}(h:P.I x)(hi:¬ done x):P.mu (xd n op x)<P.mu x:=by
 obtain⟨t,ht,he⟩:=P.some_ x h hi
 exact uv P ht _ x h (fun t ht=>List.mem_range.1 ht) (List.mem_range.2 ht) he
theorem nY (P:ue X n op done):∀ (j:Nat) (x:X),P.I x->P.mu x<j->∃ i,i<=P.mu x/\done (fj n op i x)/\∀ i',i'<i->¬ done (fj n op i' x)
 | 0,x,_,hj=>by omega
 | j+1,x,h,hj=>by
  by_cases hi:done x
  ·exact⟨0,Nat.zero_le _,hi,fun i' h=>by omega⟩
  ·have hlt:=vy P h hi
   obtain⟨i,h1,h2,h3⟩:=nY P j (xd n op x) (nW P h) (by omega)
   refine⟨i+1,by omega,h2,fun i' hi'=>?_⟩
   match i',hi' with
   | 0,_=>exact hi
   | i'+1,hi'=>exact h3 i' (by omega)
end
def bO (k:Lk)(r:Rn)(t:Nat):Rn:=eE k r ⟨if r.act t=2 then 2 else 3,t,J⟩
def mw (n:Nat)(r:Rn):Prop:=∀ t,t<n->r.act t=0
theorem ic {k:Lk}{r:Rn}{t:Nat}(h:r.act t=0):bO k r t=r:=by
 unfold bO eE
 simp only[h]
 split
 ·rfl
 ·simp[h]
abbrev Fo (k:Lk):=ue Rn k.n (bO k) (mw k.n)
def mp (f:Nat->Nat):Nat->Nat
 | 0=>0
 | n+1=>mp f n+f n
theorem ul (f:Nat->Nat)(c:Nat):∀ n,(∀ t,t<n->f t<=c)->mp f n<=n*c
 | 0,_=>by simp[mp]
 | n+1,h=>by
  have h1:=ul f c n fun t ht=>h t (by omega)
  have h2:=h n (by omega)
  rw[Nat.add_mul,Nat.one_mul]
  unfold mp;omega
theorem i5 {f g:Nat->Nat}:∀ n,(∀ t,t<n->f t=g t)->mp f n=mp g n
 | 0,_=>rfl
 | n+1,h=>by unfold mp;rw[i5 n fun t ht=>h t (by omega),h n (by omega)]
section
variable {k:Lk}{r:Rn}{t:Nat}
theorem iB (hb:r.bad=J)(ht:t<k.n)(ha:r.act t=1\/r.act t=3):bO k r t=bm { r with m:=(br k r.m t J).1 } t (br k r.m t J).2:=by
 unfold bO eE
 rw[if_neg (show ¬ r.act t=2 by omega)]
 simp only
 rw[if_neg (by rw[hb];simp;omega)]
 simp only[Int.toNat_natCast]
 rw[if_neg (by omega),if_neg (by omega),if_pos ha]
theorem qo (hb:r.bad=J)(ht:t<k.n)(ha:r.act t=2):bO k r t=bm { m:=(bg k r.m t H).1,act:=cb r.act t 3,l:=r.l++[⟨8,t,0⟩],bad:=r.bad } t (bg k r.m t H).2:=by
 unfold bO eE
 rw[if_pos ha]
 simp only
 rw[if_neg (by rw[hb];simp;omega)]
 simp only[Int.toNat_natCast]
 rw[if_neg (by omega),if_pos trivial,if_pos ha]
 rfl
theorem ve (hb:r.bad=J)(ht:t<k.n)(ha:r.act t=0):eE k r ⟨1,t,J⟩=bm { m:=(bg k r.m t J).1,act:=cb r.act t 1,l:=r.l++[⟨1,t,0⟩],bad:=r.bad } t (bg k r.m t J).2:=by
 unfold eE
 simp only
 rw[if_neg (by rw[hb];simp;omega)]
 simp only[Int.toNat_natCast]
 rw[if_pos trivial,if_pos ha]
 rfl
end
theorem iD {f g:Nat->Nat}{t:Nat}(hl:f t<g t)(hr:∀ t',t'≠t->f t'=g t'):∀ n,t<n->mp f n<mp g n
 | 0,h=>by omega
 | n+1,h=>by
  unfold mp
  by_cases e:n=t
  ·subst e
   have:mp f n=mp g n:=i5 n fun s hs=>hr s (by omega)
   omega
  ·have:=iD hl hr n (by omega)
   have:=hr n e
   omega
theorem mT {k:Lk}{r:Rn}{t:Nat}(h:r.act t≠2):eE k r ⟨3,t,J⟩=bO k r t:=by unfold bO;rw[if_neg h]
theorem yr {k:Lk}{r:Rn}{t:Nat}(h:r.act t=2):eE k r ⟨2,t,J⟩=bO k r t:=by unfold bO;rw[if_pos h]
structure zN (W:Rn->Nat->Nat)(En:Rn->Nat->Prop)(r r':Rn)(t:Nat):Prop where
 less:En r t->W r' t<W r t
 rest:∀ t',t'≠t->W r' t'=W r t'
 none_:¬ En r t->W r' t=W r t/\∀ t',t'≠t->En r t'->En r' t'
 a1:r.act t=1->r'.act t=1\/r'.act t=2
 a2:r.act t=2->r'.act t=0\/r'.act t=3
 a3:r.act t=3->r'.act t=0\/r'.act t=3
structure np (k:Lk) where
 I:Rn->Prop
 W:Rn->Nat->Nat
 c:Nat
 En:Rn->Nat->Prop
 few:∀ r t,W r t<=c
 zero:∀ r t,r.act t=0->W r t=0
 range:∀ r t,I r->t<k.n->r.act t=0\/r.act t=1\/r.act t=2\/r.act t=3
 keep:∀ r o,I r->I (eE k r o)
 turned:∀ r t,I r->t<k.n->zN W En r (bO k r t) t
 called:∀ r t,I r->t<k.n->r.act t=0->((eE k r ⟨1,t,J⟩).act t=1\/(eE k r ⟨1,t,J⟩).act t=2)/\∀ t',t'≠t->W (eE k r ⟨1,t,J⟩) t'=W r t'
 idle:∀ r t,I r->t<k.n->En r t->r.act t≠0
 some_:∀ r,I r->¬ mw k.n r->∃ t,t<k.n/\En r t
def np.fin {k:Lk}(S:np k):Fo k where
 I:=S.I
 mu r:=mp (S.W r) k.n
 en:=S.En
 keep r t _ h:=S.keep r _ h
 le r t h ht:=by
  have T:=S.turned r t h ht
  by_cases he:S.En r t
  ·exact M (iD (T.less he) T.rest k.n ht)
  ·refine Nat.le_of_eq (i5 k.n fun s _=>?_)
   by_cases e:s=t
   ·subst e;exact(T.none_ he).1
   ·exact T.rest s e
 lt r t h ht he:=by
  have T:=S.turned r t h ht
  exact iD (T.less he) T.rest k.n ht
 stays r t t' h ht ht' he hne:=by
  have T:=S.turned r t' h ht'
  by_cases he':S.En r t'
  ·exact .inr (iD (T.less he') T.rest k.n ht')
  ·exact .inl ((T.none_ he').2 t (fun e=>hne e.symm) he)
 some_:=S.some_
section
variable {k:Lk}(S:np k)
theorem qp (r:Rn)(h:S.I r):∃ i,i<=k.n*S.c/\mw k.n (fj k.n (bO k) i r)/\(∀ i',i'<i->¬ mw k.n (fj k.n (bO k) i' r))/\S.I (fj k.n (bO k) i r):=by
 have hmu:S.fin.mu r<=k.n*S.c:=ul _ _ _ fun t _=>S.few r t
 obtain⟨i,i1,i2,i3⟩:=nY S.fin (k.n*S.c+1) r h (by omega)
 exact⟨i,by omega,i2,i3,mb S.fin i r h⟩
end
def dH (k:Lk)(t:Nat):Nat->Rn->Rn
 | 0,r=>r
 | j+1,r=>dH k t j (eE k r ⟨3,t,J⟩)
end
section
open Go.ChangeShapes Go.WideShapes Go.ChangeAt Go.RowKit
theorem eO.here {k:IntKind}{w:World}{a:Option Addr}{xs:List Int}(h:eO k w a xs){i:Nat}(hi:i<xs.length):∃ b off,a=U ⟨b,off,V⟩/\w.cell? ⟨b,off+i,V⟩=U (.int k (aG xs i)):=by
 obtain⟨b,off,e,_,hc⟩:=h (by omega)
 exact⟨b,off,e,hc i hi⟩
theorem eO.grown {k:IntKind}{w w':World}{a:Option Addr}{xs:List Int}(h:eO k w a xs)(hb:w.grownBy w' V):eO k w' a xs:=by
 intro h0
 obtain⟨b,off,e,hlt,hc⟩:=h h0
 exact⟨b,off,e,Nat.lt_of_lt_of_le hlt hb.size,fun i hi=>((aQ hb).cell (p:=⟨b,off+i,V⟩) hlt).trans (hc i hi)⟩
section
variable {w w':World}{x n each N:Nat}{R:RM}{free:Nat->List Nat}{gen out:List Int}
theorem nn {W W3:World}{o:Obj}{r:Option Nat}{b:Nat}{t:TypeId}{cs:Array Value}(h:(W.drew.alloc o).grownBy W3 r)(hb:Bk W b t cs)(hne:U b≠r):Bk W3 b t cs:=Bk.grown (Bk.alloc (w:=W.drew) hb o) h hne
end
end
section
def BO (c:Nat)(ms:List Int):Prop:=(∀ x∈ms,0<=x/\x<5)/\ms.length<=c
theorem jJ (c:Nat):BO c []:=⟨by simp,by simp⟩
theorem pC {self:Int}{l:List aK}(hl:∀ i∈l,Du i):∀ (n:Nat) (xs:List Int) (pc:Int) (ms:List Int),(∀ x∈ms,0<=x/\x<5)->(∀ x∈(g9 self l n xs pc ms).ms,0<=x/\x<5)/\(g9 self l n xs pc ms).ms.length<=ms.length+n
 | n,xs,pc,ms,h=>by
  by_cases h9:pc<0\/l.length<=pc
  ·rw[mO h9];exact⟨h,by simp⟩
  ·obtain⟨k,rfl⟩:∃ k:Nat,pc=k:=⟨pc.toNat,by omega⟩
   have hk:=List.getElem?_eq_getElem (l:=l) (i:=k) (by omega)
   have hi:=hl _ (List.getElem_mem (l:=l) (n:=k) (by omega))
   generalize l[k]=i at hk hi
   by_cases hm:eW i.op=H
   ·rw[mP hk hm];exact⟨h,by simp⟩
   ·have hm':eW i.op=J:=by simpa using hm
    match n with
    | 0=>rw[j7 hk hm'];exact⟨h,by simp⟩
    | n+1=>
     by_cases h13:i.op=13
     ·rw[j9 hk h13];exact⟨h,by simp⟩
     ·rw[j8 hk hm' h13]
      by_cases h12:i.op=12
      ·rw[if_pos h12]
       have h2:=pC (self:=self) hl n (nB xs i self) (rZ xs k i) (ms++[i.k]) (fun x hx=>by
        rcases List.mem_append.1 hx with hx | hx
        ·exact h x hx
        ·simp at hx;subst hx
         exact⟨hi.k.1,by have:=hi.mark (.inl h12);omega⟩)
       exact⟨h2.1,by have:=h2.2;simp only[List.length_append,List.length_cons,List.length_nil] at this;omega⟩
      ·rw[if_neg h12]
       have h2:=pC (self:=self) hl n (nB xs i self) (rZ xs k i) ms h
       exact⟨h2.1,by have:=h2.2;omega⟩
section
variable {k:Lk}{m:Mc}{t:Nat}
theorem lD (h:ia k)(c:xx)(o:Ot):BO 256 (g8 k m t c o).2.ms:=by
 have h2:=pC (self:=(t:Int)) h.ok 256 c.xs c.pc [] (by simp)
 exact⟨h2.1,by have:=h2.2;simpa [g8] using this⟩
theorem jM (h:ia k)(u:Bool):BO 256 (bg k m t u).2.ms:=lD h _ _
theorem pz (h:ia k)(late:Bool):BO 256 (br k m t late).2.ms:=by
 unfold br
 simp only
 split
 ·exact jJ _
 ·split
  ·exact lD h _ _
  ·split
   ·split
    ·exact jJ _
    ·exact lD h _ _
   ·split
    ·exact jJ _
    ·unfold r8
     simp only
     repeat' split
     all_goals first | exact lD h _ _ | exact jJ _
end
theorem m7 (r:Rn)(t:Nat)(o:Ot):(bm r t o).l.length<=r.l.length+o.ms.length+1:=by
 unfold bm eJ enter
 simp only
 repeat' split
 all_goals (simp only[List.length_append,List.length_map,List.length_cons,List.length_nil];omega)
theorem kT {k:Lk}(h:ia k)(r:Rn)(o:nF):(eE k r o).l.length<=r.l.length+258:=by
 unfold eE
 split
 ·omega
 ·simp only
  split
  ·split
   ·have h1:=m7 { (enter { r with act:=cb r.act o.t.toNat 1 } 1 o.t.toNat) with m:=(bg k r.m o.t.toNat J).1 } o.t.toNat (bg k r.m o.t.toNat J).2
    have h2:=(jM h (m:=r.m) (t:=o.t.toNat) J).2
    simp only[enter,List.length_append,List.length_cons,List.length_nil] at h1 ⊢
    omega
   ·omega
  ·split
   ·split
    ·have h1:=m7 { (enter { r with act:=cb r.act o.t.toNat 3 } 8 o.t.toNat) with m:=(bg k r.m o.t.toNat H).1 } o.t.toNat (bg k r.m o.t.toNat H).2
     have h2:=(jM h (m:=r.m) (t:=o.t.toNat) H).2
     simp only[enter,List.length_append,List.length_cons,List.length_nil] at h1 ⊢
     omega
    ·omega
   ·split
    ·have h1:=m7 { r with m:=(br k r.m o.t.toNat o.late).1 } o.t.toNat (br k r.m o.t.toNat o.late).2
     have h2:=(pz h (m:=r.m) (t:=o.t.toNat) o.late).2
     simp only at h1 ⊢
     omega
    ·omega
theorem qU {k:Lk}(h:ia k):∀ (l:List nF) (r:Rn),(kX k r l).l.length<=r.l.length+258*l.length
 | [],r=>by simp[kX]
 | o :: l,r=>by
  have h1:=qU h l (eE k r o)
  have h2:=kT h r o
  unfold kX at *
  simp only[List.foldl_cons,List.length_cons]
  omega
end
