import Derived.Test.YthdgehcghklflaaGreatDoorWMem
import Derived.Test.YthdgehcghklflaaGreatDoorWRecs
import Derived.Test.YthdgehcghklflaaGreatDoorWInstA
import Derived.Deep.RegionLaw
import Derived.Deep.WholeRow
import Derived.Laws.Tables
import Derived.Laws.BitsAllLaws
import Derived.Test.YthdgehcghklflaaGreatDoorRows
import Derived.Deep.RegionHeld3
import Derived.Deep.Cut
import Derived.Deep.QuietTactic
import Derived.BigQuiet
import Derived.Laws.CopyOwn
import Derived.Deep.DeepCutAuto
import Derived.Deep.CutBlock
set_option linter.unusedVariables false
set_option maxHeartbeats 2000000
set_option maxRecDepth 100000
open Go.Value renaming int->I,slice->J,pointer->H
open Go.IntKind renaming i64->N,u32->O
open Option renaming none->Z,some->S
open Bool renaming false->T,true->U
open Go.Obj renaming cells->G
open Go.Lib renaming hid->F
open Go.RowKit.Below renaming refl->D
open Nat renaming le_refl->C
namespace Go.Proofs.YthdgehcghklflaaGreatDoor
section
open Go.ChangeShapes Go.WideShapes Go.ChangeAt Go.RowKit
structure fC where
 l:List aJ
 lo:Int
 un:Int
def fC.zero:fC:=⟨[],0,0⟩
def lf (c:fC):Bool:=decide (1<=c.l.length) && (decide (c.l.length<=64) && (decide (0<=c.lo) && (decide (0<=c.un) && (decide (c.lo<c.l.length) && (decide (c.un<c.l.length) && c.l.all fun i=>au i c.l.length)))))
theorem Ar (c:fC)(h1:1<=c.l.length)(h2:c.l.length<=64):lf c=((c.l.all fun i=>au i c.l.length) && ((decide (0<=c.lo) && decide (c.lo<c.l.length)) && (decide (0<=c.un) && decide (c.un<c.l.length)))):=by
 unfold lf
 simp only[h1,h2,decide_true,Bool.true_and]
 generalize (c.l.all fun i=>au i c.l.length)=x
 generalize decide (0<=c.lo)=a
 generalize decide (0<=c.un)=b
 generalize decide (c.lo<c.l.length)=d
 generalize decide (c.un<c.l.length)=e
 cases a <;> cases b <;> cases d <;> cases e <;> cases x <;> rfl
theorem qG {c:fC}(h:¬ (1<=c.l.length/\c.l.length<=64)):lf c=T:=by
 unfold lf
 by_cases h1:1<=c.l.length
 ·have h2:¬ c.l.length<=64:=fun h2=>h ⟨h1,h2⟩
  simp[h2]
 ·simp[h1]
def ja (i:aJ):List Value:=[I N i.op,I N i.d,I N i.s,I N i.t,I N i.u,I N i.a,I O i.k,I N i.pl]
theorem jD (i:aJ):(ja i).length=8:=rfl
def bH (l:List aJ):List Value:=l.flatMap ja
theorem mf (l:List aJ)(i:aJ):bH (l++[i])=bH l++ja i:=by simp[bH]
theorem iC:∀ l:List aJ,(bH l).length=l.length*8
 | []=>rfl
 | i :: l=>by
  have:=iC l
  unfold bH at *
  simp[this,jD]
  omega
theorem m9 (i:aJ):∀ u∈ja i,u.oneCell'=U:=by
 intro u hu
 simp only[ja,List.mem_cons,List.not_mem_nil,or_false] at hu
 rcases hu with rfl|rfl|rfl|rfl|rfl|rfl|rfl|rfl <;> rfl
theorem uk:(Tryz.prog.info? 119).map (fun i=>(i.zero,i.size,i.bytes))=S (S (.agg #[I N 0,I N 0,I N 0,I N 0,I N 0,I N 0,I O 0,I N 0]),8,64):=by kernel_rfl
theorem lQ {α:Type}(f:α->List Value)(n:Nat)(hf:∀ x,(f x).length=n):∀ (l:List α) (k j:Nat) (x:α),l[k]?=S x->j<n->(l.flatMap f)[k*n+j]?=(f x)[j]?
 | [],k,j,x,h,_=>by simp at h
 | y :: l,0,j,x,h,hj=>by
  simp at h
  subst h
  simp[List.getElem?_append,hf,hj]
 | y :: l,k+1,j,x,h,hj=>by
  have ih:=lQ f n hf l k j x (by simpa using h) hj
  rw[<-ih]
  have e:(k+1)*n+j=n+(k*n+j):=by rw[Nat.add_mul];omega
  rw[e,List.flatMap_cons,List.getElem?_append_right (by rw[hf];omega),hf]
  congr 1
  omega
theorem mV {l:List aJ}{k:Nat}{i:aJ}(h:l[k]?=S i){j:Nat}(hj:j<8):(bH l)[k*8+j]?=(ja i)[j]?:=lQ ja 8 jD l k j i h hj
def Pg (w:World)(base:Nat)(v:Value)(c:fC):Prop:=∃ sl,v=.agg #[sl,I N c.lo,I N c.un]/\w.ownsRow base 119 8 sl c.l.length (bH c.l)
theorem zX (i j:aJ)(w:World):(binOp .eql 119 (iv i) (iv j)).run Tryz.prog w=.ok (.bool (dj i j)) w:=by
 unfold iv
 have hu:=Tryz.underlying119
 go_simp
 unfold dj
 repeat' split
 all_goals simp[*]
def Ib (w:World)(g:Nat)(i:aJ):Prop:=Bk w g 119 #[I N i.op,I N i.d,I N i.s,I N i.t,I N i.u,I N i.a,I O i.k,I N i.pl]
theorem Ib.cells {w:World}{g:Nat}{i:aJ}(h:Ib w g i):
 w.cell? ⟨g,0,Z⟩=S (I N i.op)/\w.cell? ⟨g,1,Z⟩=S (I N i.d)/\w.cell? ⟨g,2,Z⟩=S (I N i.s)/\w.cell? ⟨g,3,Z⟩=S (I N i.t)/\
 w.cell? ⟨g,4,Z⟩=S (I N i.u)/\w.cell? ⟨g,5,Z⟩=S (I N i.a)/\w.cell? ⟨g,6,Z⟩=S (I O i.k)/\w.cell? ⟨g,7,Z⟩=S (I N i.pl):=
 ⟨Bk.cell h 0,Bk.cell h 1,Bk.cell h 2,Bk.cell h 3,Bk.cell h 4,Bk.cell h 5,Bk.cell h 6,Bk.cell h 7⟩
theorem Ib.below {w w':World}{g:Nat}{i:aJ}(h:Ib w g i)(hb:Below w.heap.size w w'):Ib w' g i:=(hb.block g (Bk.lt h)).trans h
theorem Ib.wL {w:World}{b:Nat}{i:aJ}(h:Ib w b i):
 (∀ g:gp w,g.x.cell? ⟨b,0,Z⟩=S (I N i.op))/\(∀ g:gp w,g.x.cell? ⟨b,1,Z⟩=S (I N i.d))/\(∀ g:gp w,g.x.cell? ⟨b,2,Z⟩=S (I N i.s))/\(∀ g:gp w,g.x.cell? ⟨b,3,Z⟩=S (I N i.t))/\
 (∀ g:gp w,g.x.cell? ⟨b,4,Z⟩=S (I N i.u))/\(∀ g:gp w,g.x.cell? ⟨b,5,Z⟩=S (I N i.a))/\(∀ g:gp w,g.x.cell? ⟨b,6,Z⟩=S (I O i.k))/\(∀ g:gp w,g.x.cell? ⟨b,7,Z⟩=S (I N i.pl)):=by
 obtain⟨c0,c1,c2,c3,c4,c5,c6,c7⟩:=h.cells
 exact⟨fun g=>g.cell c0,fun g=>g.cell c1,fun g=>g.cell c2,fun g=>g.cell c3,fun g=>g.cell c4,fun g=>g.cell c5,fun g=>g.cell c6,fun g=>g.cell c7⟩
theorem Ib.made (w:World)(op d s t u a k pl:Int):Ib (w.alloc (G #[I N op,I N d,I N s,I N t,I N u,I N a,I O k,I N pl] 119)) w.heap.size ⟨op,d,s,t,u,a,k,pl⟩:=Bk.made _ _ _
theorem zw {w x:World}{op d s t u a k pl:Int}(h:Below (w.alloc (G #[I N op,I N d,I N s,I N t,I N u,I N a,I O k,I N pl] 119)).heap.size (w.alloc (G #[I N op,I N d,I N s,I N t,I N u,I N a,I O k,I N pl] 119)) x):Ib x w.heap.size ⟨op,d,s,t,u,a,k,pl⟩/\Below w.heap.size w x:=
 ⟨(Ib.made w op d s t u a k pl).below h,((D _ _).alloc (C _) _).trans (h.mono (by simp))⟩
def eu (y:World)(g:Nat)(i:aJ):World:=((((((((y.setCell ⟨g,0,Z⟩ (I N i.op)).setCell ⟨g,1,Z⟩ (I N i.d)).setCell ⟨g,2,Z⟩ (I N i.s)).setCell ⟨g,3,Z⟩ (I N i.t)).setCell ⟨g,4,Z⟩ (I N i.u)).setCell ⟨g,5,Z⟩ (I N i.a)).setCell ⟨g,6,Z⟩ (I O i.k)).setCell ⟨g,7,Z⟩ (I N i.pl))
theorem dG {y:World}{g:Nat}{i j:aJ}(h:Ib y g j):Ib (eu y g i) g i:=by
 have h8:=(((((((Bk.put h 0 (I N i.op)).put 1 (I N i.d)).put 2 (I N i.s)).put 3 (I N i.t)).put 4 (I N i.u)).put 5 (I N i.a)).put 6 (I O i.k)).put 7 (I N i.pl)
 unfold eu Ib
 simpa only[List.setIfInBounds_toArray,List.set_cons_zero,List.set_cons_succ] using h8
theorem jA {y:World}{g b:Nat}{i:aJ}{t:TypeId}{cs:Array Value}(h:Bk y b t cs)(hne:b≠g):Bk (eu y g i) b t cs:=
 (((((((h.off hne _).off hne _).off hne _).off hne _).off hne _).off hne _).off hne _).off hne _
theorem aU {B:Nat}{w y:World}{g:Nat}{i:aJ}(h:Below B w y)(hg:B<=g):Below B w (eu y g i):=
 (((((((h.setCell hg _).setCell hg _).setCell hg _).setCell hg _).setCell hg _).setCell hg _).setCell hg _).setCell hg _
theorem yq (i:aJ)(l:List UInt8)(n:Nat)(h:n<l.length):oQ i (l.take (n+1))=cJ (oQ i (l.take n)) (l.getD n 0).toNat 0:=by
 unfold oQ
 rw[List.take_succ_eq_append_getElem h,List.foldl_append]
 simp[h]
theorem yD (f:UInt8->Bool)(l:List UInt8)(n:Nat)(h:n<l.length):(l.take (n+1)).all f=((l.take n).all f && f (l.getD n 0)):=by
 rw[List.take_succ_eq_append_getElem h,List.all_append]
 simp[h]
theorem zh (f:UInt8->Bool)(l:List UInt8)(n:Nat)(h:n<l.length)(hf:f (l.getD n 0)=T):l.all f=T:=by
 rw[Bool.eq_false_iff]
 intro ha
 have:=List.all_eq_true.1 ha (l.getD n 0) (by simp[h])
 rw[hf] at this
 cases this
structure Be (w:World)(i:aJ)(hs:List UInt8)(p:Int)(n:Nat)(x:World):Prop where
 below:Below w.heap.size w x
 box:Ib x w.heap.size i
 left:Ib x (w.heap.size+1) (oQ i (hs.take n))
 ok:(hs.take n).all (fun c=>nG i p c.toNat)=U
theorem zc (i:aJ)(p:Int)(k0:0<=i.k)(k1:i.k<4294967296)(w:World):
 Calls Tryz.prog 70 #[iv i,I N p] w fun e w'=>e=.returned (.bool (au i p))/\Below w.heap.size w w':=by
 have hL:=tF i.op
 have h6:=tG i.op
 have ER:au i p=(!(dh i.op).isEmpty && ((dh i.op).all (fun c=>nG i p c.toNat) && qu (oQ i (dh i.op)))):=rfl
 have H0:=F (wF i.op)
 generalize dh i.op=hs at hL h6 ER H0
 have HL:=F hL
 have HR:=F ER
 clear hL ER
 obtain⟨op,d,s,t,u,a,k,pl⟩:=i
 simp only at k0 k1 H0
 unfold iv
 go_enter Tryz.func70,Tryz.ntmps70
 go_wp2_with fail
 refine(H0.out _).mono ?_
 rintro e w' ⟨rfl,rfl⟩
 unfold bs
 by_cases he:hs=[]
 ·subst he
  go_wp2
  go_ret
  exact⟨bn HR.out.symm,(D _ _).alloc (C _) _⟩
 have hne:hs.isEmpty=T:=by simpa using he
 go_wp2
 go_loopw [24] (fun v x=>∃ n:Nat,n<=hs.length/\v=I N n/\Be w ⟨op,d,s,t,u,a,k,pl⟩ hs p n x) (fun v _=>hs.length-(intOf v).toNat)
 case atStart=>
  refine⟨0,Nat.zero_le _,rfl,?_,?_,?_,rfl⟩
  ·exact(((D _ _).alloc (C _) _).alloc (by simp) _)
  ·exact(Bk.made _ _ _).alloc _
  ·have:=Bk.made (w.alloc (G #[I N op,I N d,I N s,I N t,I N u,I N a,I O k,I N pl] 119)) 119 #[I N 0,I N d,I N s,I N t,I N u,I N a,I O k,I N pl]
   rw[show (w.alloc (G #[I N op,I N d,I N s,I N t,I N u,I N a,I O k,I N pl] 119)).heap.size=w.heap.size+1 by simp] at this
   exact this
 case round=>
  obtain⟨n,hn,rfl,R⟩:=hrel
  obtain⟨hb,hI,hZ,hok⟩:=R
  generalize wr=x at *
  have hlt1:w.heap.size<x.heap.size:=Bk.lt hI
  have hlt2:w.heap.size+1<x.heap.size:=Bk.lt hZ
  by_cases hlt:n<hs.length
  ·have hidx:=eE hs n hlt
   have hc:Bo ((hs.getD n 0).toNat:Int):=HL.out _ (by simp[hlt])
   generalize hcc:((hs.getD n 0).toNat:Int)=c at hidx hc
   obtain⟨g0,-⟩:=hI.wL
   have HC:=F hcc
   clear hcc
   go_wp2_with fail
   refine ar (by kernel_rfl) (by kernel_rfl) ?_
   repeat (go_big_quiet_step ((go_at_call 110;exact qZ (A5 _ _ _ hc _))))
   refine wpQuiet_nil ?_
   rintro y ⟨⟨_,hy⟩,rfl⟩
   replace hb:=hb.trans (hy.mono (Nat.le_of_lt hlt1))
   replace hI:=hI.below hy
   replace hZ:=hZ.below hy
   replace hlt1:w.heap.size<y.heap.size:=Bk.lt hI
   replace hlt2:w.heap.size+1<y.heap.size:=Bk.lt hZ
   clear g0 hy x
   obtain⟨g0,g1,g2,g3,g4,g5,g6,g7⟩:=hI.wL
   simp only at g0 g1 g2 g3 g4 g5 g6 g7
   go_wp2_with fail
   refine ar (by kernel_rfl) (by kernel_rfl) ?_
   repeat (go_big_quiet_step ((go_at_call 111;exact ag (Ez ⟨op,d,s,t,u,a,k,pl⟩ _ hc k0 k1 _))))
   refine wpQuiet_nil ?_
   rintro x ⟨⟨_,hx⟩,rfl⟩
   replace hb:=hb.trans (hx.mono (Nat.le_of_lt hlt1))
   replace hI:=hI.below hx
   replace hZ:=hZ.below hx
   replace hlt1:w.heap.size<x.heap.size:=Bk.lt hI
   replace hlt2:w.heap.size+1<x.heap.size:=Bk.lt hZ
   clear g0 g1 g2 g3 g4 g5 g6 g7 hx y
   by_cases hlo:bf ⟨op,d,s,t,u,a,k,pl⟩ c<eJ op c
   ·go_wp2
    go_ret
    refine⟨bn ?_,hb⟩
    rw[HR.out,zh _ _ n hlt (by rw[HC.out];simp[nG];intro h;omega)];simp
   have hlo':decide (bf ⟨op,d,s,t,u,a,k,pl⟩ c<eJ op c)=T:=by simpa using hlo
   by_cases hhi:dZ op c p<=bf ⟨op,d,s,t,u,a,k,pl⟩ c
   ·go_wp2
    go_ret
    refine⟨bn ?_,hb⟩
    rw[HR.out,zh _ _ n hlt (by rw[HC.out];simp[nG];intro h;omega)];simp
   have hhi':decide (bf ⟨op,d,s,t,u,a,k,pl⟩ c>=dZ op c p)=T:=by simpa using hhi
   generalize hZZ:oQ ⟨op,d,s,t,u,a,k,pl⟩ (hs.take n)=z at hZ
   have HZ:=F hZZ
   clear hZZ
   obtain⟨zop,zd,zs,zt,zu,za,zk,zpl⟩:=z
   obtain⟨c0,c1,c2,c3,c4,c5,c6,c7⟩:=hZ.cells
   simp only at c0 c1 c2 c3 c4 c5 c6 c7
   go_wp2_with fail
   go_region_law (first | (go_simp;go_at_call 112;refine(Ew ⟨zop,zd,zs,zt,zu,za,zk,zpl⟩ _ 0 hc _).mono ?_;rintro e y ⟨rfl,hy⟩;replace hy:=eX hy;obtain⟨d0,d1,d2,d3,d4,d5,d6,d7⟩:=(hZ.below hy).cells;have hf:=Bk.free (hZ.below hy);generalize hz2:cJ ⟨zop,zd,zs,zt,zu,za,zk,zpl⟩ c 0=z2;have HZ2:=F hz2;clear hz2;obtain⟨yop,yd,ys,yt,yu,ya,yk,ypl⟩:=z2;unfold iv))
   all_goals
    generalize hv:((((((((y.setCell ⟨w.heap.size+1,0,Z⟩ (I N yop)).setCell ⟨w.heap.size+1,1,Z⟩ (I N yd)).setCell ⟨w.heap.size+1,2,Z⟩ (I N ys)).setCell ⟨w.heap.size+1,3,Z⟩ (I N yt)).setCell ⟨w.heap.size+1,4,Z⟩ (I N yu)).setCell ⟨w.heap.size+1,5,Z⟩ (I N ya)).setCell ⟨w.heap.size+1,6,Z⟩ (I O yk)).setCell ⟨w.heap.size+1,7,Z⟩ (I N ypl))=v
    have hv2:eu y (w.heap.size+1) ⟨yop,yd,ys,yt,yu,ya,yk,ypl⟩=v:=hv
    clear hv
    have hA:=dG (i:=⟨yop,yd,ys,yt,yu,ya,yk,ypl⟩) (hZ.below hy)
    have hB:=jA (i:=⟨yop,yd,ys,yt,yu,ya,yk,ypl⟩) (hI.below hy) (show w.heap.size≠w.heap.size+1 by omega)
    have hC:=aU (i:=⟨yop,yd,ys,yt,yu,ya,yk,ypl⟩) (hb.trans (hy.mono (Nat.le_of_lt hlt1))) (show w.heap.size<=w.heap.size+1 by omega)
    rw[hv2] at hA hB hC
    clear hv2 d0 d1 d2 d3 d4 d5 d6 d7 hf c0 c1 c2 c3 c4 c5 c6 c7 hidx
    have hn1:(n:Int)+1<=6:=by omega
    go_wp2
    go_roundw
    case rel=>
     refine⟨n+1,by omega,by go_num,hC,hB,?_,?_⟩
     ·rw[yq _ _ _ hlt,HZ.out,HC.out,HZ2.out];exact hA
     ·rw[yD _ _ _ hlt,HC.out,hok];simp[nG];omega
    case measure=>simp[intOf];omega
  ·obtain rfl:n=hs.length:=by omega
   generalize hZZ:oQ ⟨op,d,s,t,u,a,k,pl⟩ (hs.take hs.length)=z at hZ
   obtain⟨zop,zd,zs,zt,zu,za,zk,zpl⟩:=z
   obtain⟨c0,c1,c2,c3,c4,c5,c6,c7⟩:=hZ.cells
   simp only at c0 c1 c2 c3 c4 c5 c6 c7
   rw[List.take_length] at hZZ hok
   have HZ:=F hZZ
   have HO:=F hok
   clear hZZ hok
   have hq:=zX ⟨zop,zd,zs,zt,zu,za,zk,zpl⟩ aJ.zero
   generalize hB:dj ⟨zop,zd,zs,zt,zu,za,zk,zpl⟩ aJ.zero=B at hq
   have HB:=F hB
   clear hB
   unfold iv aJ.zero at hq
   simp only at hq
   go_wp2
   go_ret
   refine⟨bn ?_,hb⟩
   rw[HR.out,HO.out,HZ.out,CV,HB.out,hne];rfl
theorem cm (i j:aJ)(w:World):(binOp .eql 125 (iv i) (iv j)).run Tryz.prog w=.ok (.bool (dj i j)) w:=by
 unfold iv
 have hu:=Tryz.underlying125
 go_simp
 unfold dj
 repeat' split
 all_goals simp[*]
def Jb (w:World)(g:Nat)(i:aJ):Prop:=Bk w g 125 #[I N i.op,I N i.d,I N i.s,I N i.t,I N i.u,I N i.a,I O i.k,I N i.pl]
theorem Jb.cells {w:World}{g:Nat}{i:aJ}(h:Jb w g i):
 w.cell? ⟨g,0,Z⟩=S (I N i.op)/\w.cell? ⟨g,1,Z⟩=S (I N i.d)/\w.cell? ⟨g,2,Z⟩=S (I N i.s)/\w.cell? ⟨g,3,Z⟩=S (I N i.t)/\
 w.cell? ⟨g,4,Z⟩=S (I N i.u)/\w.cell? ⟨g,5,Z⟩=S (I N i.a)/\w.cell? ⟨g,6,Z⟩=S (I O i.k)/\w.cell? ⟨g,7,Z⟩=S (I N i.pl):=
 ⟨Bk.cell h 0,Bk.cell h 1,Bk.cell h 2,Bk.cell h 3,Bk.cell h 4,Bk.cell h 5,Bk.cell h 6,Bk.cell h 7⟩
theorem Jb.below {w w':World}{g:Nat}{i:aJ}(h:Jb w g i)(hb:Below w.heap.size w w'):Jb w' g i:=(hb.block g (Bk.lt h)).trans h
theorem Jb.wL {w:World}{b:Nat}{i:aJ}(h:Jb w b i):
 (∀ g:gp w,g.x.cell? ⟨b,0,Z⟩=S (I N i.op))/\(∀ g:gp w,g.x.cell? ⟨b,1,Z⟩=S (I N i.d))/\(∀ g:gp w,g.x.cell? ⟨b,2,Z⟩=S (I N i.s))/\(∀ g:gp w,g.x.cell? ⟨b,3,Z⟩=S (I N i.t))/\
 (∀ g:gp w,g.x.cell? ⟨b,4,Z⟩=S (I N i.u))/\(∀ g:gp w,g.x.cell? ⟨b,5,Z⟩=S (I N i.a))/\(∀ g:gp w,g.x.cell? ⟨b,6,Z⟩=S (I O i.k))/\(∀ g:gp w,g.x.cell? ⟨b,7,Z⟩=S (I N i.pl)):=by
 obtain⟨c0,c1,c2,c3,c4,c5,c6,c7⟩:=h.cells
 exact⟨fun g=>g.cell c0,fun g=>g.cell c1,fun g=>g.cell c2,fun g=>g.cell c3,fun g=>g.cell c4,fun g=>g.cell c5,fun g=>g.cell c6,fun g=>g.cell c7⟩
theorem Jb.made (w:World)(op d s t u a k pl:Int):Jb (w.alloc (G #[I N op,I N d,I N s,I N t,I N u,I N a,I O k,I N pl] 125)) w.heap.size ⟨op,d,s,t,u,a,k,pl⟩:=Bk.made _ _ _
theorem fH {w x:World}{op d s t u a k pl:Int}(h:Below (w.alloc (G #[I N op,I N d,I N s,I N t,I N u,I N a,I O k,I N pl] 125)).heap.size (w.alloc (G #[I N op,I N d,I N s,I N t,I N u,I N a,I O k,I N pl] 125)) x):Jb x w.heap.size ⟨op,d,s,t,u,a,k,pl⟩/\Below w.heap.size w x:=
 ⟨(Jb.made w op d s t u a k pl).below h,((D _ _).alloc (C _) _).trans (h.mono (by simp))⟩
theorem ff {y:World}{g:Nat}{i j:aJ}(h:Jb y g j):Jb (eu y g i) g i:=by
 have h8:=(((((((Bk.put h 0 (I N i.op)).put 1 (I N i.d)).put 2 (I N i.s)).put 3 (I N i.t)).put 4 (I N i.u)).put 5 (I N i.a)).put 6 (I O i.k)).put 7 (I N i.pl)
 unfold eu Jb
 simpa only[List.setIfInBounds_toArray,List.set_cons_zero,List.set_cons_succ] using h8
theorem du (n:Int)(h0:0<=n)(h1:n<=7)(w:World):Calls Tryz.prog 105 #[I N n] w fun e w'=>e=.returned (.bool U)/\w=w':=by
 go_enter Tryz.func105,Tryz.ntmps105
 go_wp2
 go_ret
 exact⟨rfl,rfl⟩
theorem nn (n:Int)(h:n<0\/7<n)(w:World):Calls Tryz.prog 105 #[I N n] w fun e w'=>e=.returned (.bool T)/\w=w':=by
 rcases h with h | h
 ·have h2:decide (n>=0)=T:=by simp;omega
  go_enter Tryz.func105,Tryz.ntmps105
  go_wp2
  go_ret
  exact⟨rfl,rfl⟩
 ·have h2:decide (n<=7)=T:=by simp;omega
  have h3:0<=n:=by omega
  go_enter Tryz.func105,Tryz.ntmps105
  go_wp2
  go_ret
  exact⟨rfl,rfl⟩
def iJ:Array Value:=#[.string ⟨#[]⟩,.string ⟨#[99,111,110,115,116]⟩,.string ⟨#[109,111,118,101]⟩,.string ⟨#[97,100,100,107]⟩,.string ⟨#[97,110,100,107]⟩,.string ⟨#[115,104,108]⟩,.string ⟨#[115,104,114]⟩,.string ⟨#[111,114]⟩,.string ⟨#[98,101,113]⟩,.string ⟨#[98,110,101]⟩,.string ⟨#[106,117,109,112]⟩,.string ⟨#[115,101,108,102]⟩,.string ⟨#[109,97,114,107]⟩,.string ⟨#[100,111,110,101]⟩,.string ⟨#[]⟩,.string ⟨#[]⟩,.string ⟨#[108,111,97,100]⟩,.string ⟨#[115,116,111,114,101]⟩,.string ⟨#[115,119,97,112]⟩,.string ⟨#[99,97,115]⟩,.string ⟨#[102,97,100,100]⟩,.string ⟨#[97,119,97,105,116]⟩,.string ⟨#[116,97,107,101]⟩,.string ⟨#[102,114,101,101]⟩]
theorem uY:∀ n:Nat,1<=n->n<=23->iJ[n]?=S (.string ⟨(bM n).toArray⟩):=by
 intro n h1 h2
 have hn:n=1\/n=2\/n=3\/n=4\/n=5\/n=6\/n=7\/n=8\/n=9\/n=10\/n=11\/n=12\/n=13\/n=14\/n=15\/n=16\/n=17\/n=18\/n=19\/n=20\/n=21\/n=22\/n=23:=by omega
 rcases hn with rfl|rfl|rfl|rfl|rfl|rfl|rfl|rfl|rfl|rfl|rfl|rfl|rfl|rfl|rfl|rfl|rfl|rfl|rfl|rfl|rfl|rfl|rfl <;> rfl
theorem fb (op:Int)(w:World):Calls Tryz.prog 104 #[I N op] w fun e w'=>e=.returned (bs (bM op))/\Below w.heap.size w w':=by
 by_cases h:op<1\/23<op
 ·have E:=F (show bM op=[] from(dw (by omega)).2)
  generalize bM op=nm at *
  rcases h with h | h
  ·go_enter Tryz.func104,Tryz.ntmps104
   go_wp2_with (first | (refine fm rfl 249 _ rfl iJ (by kernel_rfl) ?_) | (refine eQ rfl 249 _ _ rfl _ iJ rfl rfl (by kernel_rfl) (by kernel_rfl) (by kernel_rfl) ?_))
   go_ret
   exact⟨by rw[E.out];rfl,(D _ _).alloc (C _) _⟩
  ·have h2:decide (op<1)=T:=by simp;omega
   go_enter Tryz.func104,Tryz.ntmps104
   go_wp2_with (first | (refine fm rfl 249 _ rfl iJ (by kernel_rfl) ?_) | (refine eQ rfl 249 _ _ rfl _ iJ rfl rfl (by kernel_rfl) (by kernel_rfl) (by kernel_rfl) ?_))
   go_ret
   exact⟨by rw[E.out];rfl,(D _ _).alloc (C _) _⟩
 ·obtain⟨n,hn⟩:∃ n:Nat,op=n:=⟨op.toNat,by omega⟩
  subst hn
  have h1:1<=n:=by omega
  have h23:n<=23:=by omega
  have hc:(w.alloc (.cells iJ 249)).cell? ⟨w.heap.size,n,Z⟩=S (.string ⟨(bM n).toArray⟩):=by
   rw[cell_of_row _ _ _ _ _ _ (heap_alloc_new w _)]
   exact uY n h1 h23
  generalize bM n=nm at *
  have d1:decide ((n:Int)<1)=T:=by simp;omega
  have d2:decide ((n:Int) > 23)=T:=by simp;omega
  have d3:(n:Int)<24:=by omega
  clear h
  go_enter Tryz.func104,Tryz.ntmps104
  go_wp2_with (first | (refine fm rfl 249 _ rfl iJ (by kernel_rfl) ?_) | (refine eQ rfl 249 _ _ rfl _ iJ rfl rfl (by kernel_rfl) (by kernel_rfl) (by kernel_rfl) ?_))
  go_ret
  exact⟨rfl,(D _ _).alloc (C _) _⟩
structure wO (i:aJ):Prop where
 d:0<=i.d/\i.d<=7
 s:0<=i.s/\i.s<=7
 t:0<=i.t/\i.t<=7
 u:0<=i.u/\i.u<=7
 a:0<=i.a/\i.a<=7
end
section
def fG:List UInt8:=[108,111,99,107,58,10,102,97,100,100,32,114,49,32,48,32,114,48,32,49,10,109,97,114,107,32,49,10,97,119,97,105,116,32,114,50,32,49,32,114,48,32,101,113,32,114,49,10,109,97,114,107,32,50,10,100,111,110,101,32,49,10,117,110,108,111,99,107,58,10,97,100,100,107,32,114,49,32,114,49,32,49,10,115,116,111,114,101,32,49,32,114,48,32,114,49,10,109,97,114,107,32,52,10,100,111,110,101,32,50,10]
def cK:fC:=⟨EJ,0,5⟩
theorem qy:fG.length<80000:=by decide
def yN (n:Nat):List Int:=List.replicate n 0
end
section
open Go.RowKit
def bg (xs:List Int):Prop:=xs.length=8/\fM xs
theorem aC {xs:List Int}(h:xs.length=8):∃ a b c d e f g i,xs=[a,b,c,d,e,f,g,i]:=by
 match xs,h with
 | [a,b,c,d,e,f,g,i],_=>exact⟨a,b,c,d,e,f,g,i,rfl⟩
def oR (a b:Int):Int:=((a.toNat &&& b.toNat:Nat):Int)
def BR (a b:Int):Int:=((a.toNat ||| b.toNat:Nat):Int)
theorem tk {a b:Int}(h0:0<=a)(h1:a<4294967296):0<=oR a b/\oR a b<4294967296:=by
 unfold oR
 have:=Nat.and_le_left (n:=a.toNat) (m:=b.toNat)
 omega
theorem uT {a b:Int}(h0:0<=a)(h1:a<4294967296)(h2:0<=b)(h3:b<4294967296):0<=BR a b/\BR a b<4294967296:=by
 unfold BR
 have:=Nat.or_lt_two_pow (x:=a.toNat) (y:=b.toNat) (n:=32) (by omega) (by omega)
 omega
def jQ (both:Bool)(a b:Nat):Nat->Nat
 | 0=>0
 | n+1=>jQ both a b n+(if (if both then a / 2 ^ n % 2+b / 2 ^ n % 2=2 else 0<a / 2 ^ n % 2+b / 2 ^ n % 2) then 2 ^ n else 0)
theorem rm (x n:Nat):x % 2 ^ (n+1)=x % 2 ^ n+(if x / 2 ^ n % 2=1 then 2 ^ n else 0):=by
 rw[Nat.mod_pow_succ]
 have:x / 2 ^ n % 2=0\/x / 2 ^ n % 2=1:=by omega
 rcases this with h | h <;> simp[h]
theorem A9 (a b n:Nat):(a &&& b) / 2 ^ n % 2=1↔a / 2 ^ n % 2=1/\b / 2 ^ n % 2=1:=by
 have h:=Nat.testBit_and a b n
 simp only[Nat.testBit_eq_decide_div_mod_eq,decide_eq_decide,<-Bool.decide_and] at h
 exact h
theorem C5 (a b n:Nat):(a ||| b) / 2 ^ n % 2=1↔a / 2 ^ n % 2=1\/b / 2 ^ n % 2=1:=by
 have h:=Nat.testBit_or a b n
 simp only[Nat.testBit_eq_decide_div_mod_eq,decide_eq_decide,<-Bool.decide_or] at h
 exact h
theorem rn (a b:Nat):∀ n,jQ U a b n=(a &&& b) % 2 ^ n
 | 0=>by simp[jQ,Nat.mod_one]
 | n+1=>by
  rw[rm,jQ,rn a b n]
  congr 1
  have h1:a / 2 ^ n % 2=0\/a / 2 ^ n % 2=1:=by omega
  have h2:b / 2 ^ n % 2=0\/b / 2 ^ n % 2=1:=by omega
  have h3:=A9 a b n
  rcases h1 with h1 | h1 <;> rcases h2 with h2 | h2 <;> simp[h1,h2] at h3 ⊢ <;> simp[h3]
theorem ur (a b:Nat):∀ n,jQ T a b n=(a ||| b) % 2 ^ n
 | 0=>by simp[jQ,Nat.mod_one]
 | n+1=>by
  rw[rm,jQ,ur a b n]
  congr 1
  have h1:a / 2 ^ n % 2=0\/a / 2 ^ n % 2=1:=by omega
  have h2:b / 2 ^ n % 2=0\/b / 2 ^ n % 2=1:=by omega
  have h3:=C5 a b n
  rcases h1 with h1 | h1 <;> rcases h2 with h2 | h2 <;> simp[h1,h2] at h3 ⊢ <;> simp[h3]
theorem ut (both:Bool)(a b:Nat):∀ n,jQ both a b n<2 ^ n
 | 0=>by simp[jQ]
 | n+1=>by
  have:=ut both a b n
  rw[jQ,Nat.pow_succ]
  have:∀ c:Prop,[Decidable c]->(if c then 2 ^ n else 0)<=2 ^ n:=by intro c _;split <;> omega
  have:=this (if both=U then a / 2 ^ n % 2+b / 2 ^ n % 2=2 else 0<a / 2 ^ n % 2+b / 2 ^ n % 2)
  omega
theorem Ba (both:Bool)(a b:Int)(h0:0<=a)(h1:a<4294967296)(h2:0<=b)(h3:b<4294967296):(jQ both a.toNat b.toNat 32:Int)=if both then oR a b else BR a b:=by
 cases both
 ·rw[ur,Nat.mod_eq_of_lt (Nat.or_lt_two_pow (by omega) (by omega))];rfl
 ·rw[rn,Nat.mod_eq_of_lt (Nat.lt_of_le_of_lt Nat.and_le_left (by omega))];rfl
def wH (op a b k self:Int):Option Int:=
 if op=1 then S k
 else if op=2 then S a
 else if op=3 then S ((a+k) % 4294967296)
 else if op=4 then S (oR a k)
 else if op=5 then S (a*2 ^ k.toNat % 4294967296)
 else if op=6 then S (a / 2 ^ k.toNat)
 else if op=7 then S (BR a b)
 else if op=11 then S self
 else Z
def fF (xs:List Int)(i:aJ)(self:Int):Option Int:=wH i.op (aG xs i.s.toNat) (aG xs i.t.toNat) i.k self
def gI (op a b pl pc:Int):Int:=if op=10\/(op=8/\a=b)\/(op=9/\a≠b) then pl else if op=13 then pc else pc+1
def ib (xs:List Int)(pc:Int)(i:aJ):Int:=gI i.op (aG xs i.s.toNat) (aG xs i.t.toNat) i.pl pc
def BC (xs:List Int)(i:aJ)(self:Int):List Int:=match fF xs i self with
 | some v=>xs.set i.d.toNat v
 | none=>xs
def i6 (xs:List Int)(i:aJ)(self:Int):List Int:=if cW i.op then xs else BC xs i self
def lg (xs:List Int)(pc:Int)(i:aJ):Int:=if cW i.op then pc else ib xs pc i
structure Bm (i:aJ):Prop where
 op:(1<=i.op/\i.op<=13)\/(16<=i.op/\i.op<=23)
 d:0<=i.d/\i.d<=7
 s:0<=i.s/\i.s<=7
 t:0<=i.t/\i.t<=7
 k:0<=i.k/\i.k<4294967296
 sh:(i.op=5\/i.op=6)->i.k<=31
 mark:(i.op=12\/i.op=13)->i.k<=4
theorem BE {i:aJ}{p:Int}(h:au i p=U)(k0:0<=i.k)(k1:i.k<4294967296):Bm i:=by
 obtain⟨hd,hs,ht,hu,ha⟩:=eA i p h
 obtain⟨op,d,s,t,u,a,k,pl⟩:=i
 simp only at k0 k1 hd hs ht hu ha
 refine⟨?_,hd,hs,ht,⟨k0,k1⟩,?_,?_⟩
 ·rcases co op with rfl|rfl|rfl|rfl|rfl|rfl|rfl|rfl|rfl|rfl|rfl|rfl|rfl|rfl|rfl|rfl|rfl|rfl|rfl|rfl|rfl | hn
  rotate_right
  ·unfold au at h
   rw[(dw hn).1] at h
   simp at h
  all_goals simp
 ·rintro(e | e)
  ·simp only at e
   subst e
   rw[jH d s t u a k pl p hd hs ht hu ha k0 k1] at h
   simp at h
   exact h.2
  ·simp only at e
   subst e
   rw[jG d s t u a k pl p hd hs ht hu ha k0 k1] at h
   simp at h
   exact h.2
 ·rintro(e | e)
  ·simp only at e
   subst e
   rw[iu d s t u a k pl p hd hs ht hu ha k0 k1] at h
   simp at h
   show k<=4
   omega
  ·simp only at e
   subst e
   rw[ir d s t u a k pl p hd hs ht hu ha k0 k1] at h
   simp at h
   show k<=4
   omega
section
variable {xs:List Int}{i:aJ}{self:Int}
theorem px {k:Int}(h0:0<=k)(h1:k<=31):(1:Int)<=2 ^ k.toNat/\(2:Int) ^ k.toNat<=2147483648:=by
 have a:=Nat.one_le_two_pow (n:=k.toNat)
 have b:=Nat.pow_le_pow_right (n:=2) (by omega) (show k.toNat<=31 by omega)
 have e:((2 ^ k.toNat:Nat):Int)=(2:Int) ^ k.toNat:=by simp
 omega
theorem rM (hx:fM xs)(h:Bm i)(h0:0<=self)(h1:self<4294967296){v:Int}(hv:fF xs i self=S v):0<=v/\v<4294967296:=by
 have es:=hx.at_ i.s.toNat
 have et:=hx.at_ i.t.toNat
 have hk:=h.k
 unfold fF wH at hv
 repeat' split at hv
 all_goals first | (injection hv with hv;subst hv) | cases hv
 ·omega
 ·omega
 ·omega
 ·exact tk es.1 es.2
 ·omega
 ·rename_i e
  have hp:=px hk.1 (h.sh (.inr e))
  have:=Int.ediv_le_self (2 ^ i.k.toNat) es.1
  have:=Int.ediv_nonneg es.1 (by omega:(0:Int)<=2 ^ i.k.toNat)
  omega
 ·exact uT es.1 es.2 et.1 et.2
 ·omega
theorem bg.one (hx:bg xs)(h:Bm i)(h0:0<=self)(h1:self<4294967296):bg (i6 xs i self):=by
 unfold i6 BC
 split
 ·exact hx
 ·split
  ·rename_i v hv
   exact⟨by rw[List.length_set];exact hx.1,hx.2.set _ _ (rM hx.2 h h0 h1 hv)⟩
  ·exact hx
end
structure Fq where
 xs:List Int
 pc:Int
 ms:List Int
 done:Int
 e:Int
def fK (self:Int)(l:List aJ):Nat->List Int->Int->List Int->Fq
 | n,xs,pc,ms=>
  if pc<0 then ⟨xs,pc,ms,-1,11⟩
  else match l[pc.toNat]? with
   | none=>⟨xs,pc,ms,-1,11⟩
   | some i=>if cW i.op then ⟨xs,pc,ms,-1,0⟩
    else match n with
     | 0=>⟨xs,pc,ms,-1,11⟩
     | n+1=>if i.op=13 then ⟨xs,pc,ms,i.k,0⟩ else fK self l n (i6 xs i self) (lg xs pc i) (if i.op=12 then ms++[i.k] else ms)
section
variable {self:Int}{l:List aJ}{n:Nat}{xs:List Int}{pc:Int}{ms:List Int}
theorem mR (h:pc<0\/l.length<=pc):fK self l n xs pc ms=⟨xs,pc,ms,-1,11⟩:=by
 unfold fK
 by_cases h0:pc<0
 ·rw[if_pos h0]
 ·rw[if_neg h0,List.getElem?_eq_none (by omega)]
theorem mS {i:aJ}{k:Nat}(h:l[k]?=S i)(hm:cW i.op=U):fK self l n xs k ms=⟨xs,k,ms,-1,0⟩:=by
 unfold fK
 rw[if_neg (by omega),Int.toNat_natCast,h]
 simp[hm]
theorem jZ {i:aJ}{k:Nat}(h:l[k]?=S i)(hm:cW i.op=T):fK self l 0 xs k ms=⟨xs,k,ms,-1,11⟩:=by
 unfold fK
 rw[if_neg (by omega),Int.toNat_natCast,h]
 simp[hm]
theorem j8 {i:aJ}{k:Nat}(h:l[k]?=S i)(hm:i.op=13):fK self l (n+1) xs k ms=⟨xs,k,ms,i.k,0⟩:=by
 unfold fK
 rw[if_neg (by omega),Int.toNat_natCast,h]
 simp[hm,cW]
theorem j7 {i:aJ}{k:Nat}(h:l[k]?=S i)(hm:cW i.op=T)(h13:i.op≠13):fK self l (n+1) xs k ms=fK self l n (i6 xs i self) (lg xs k i) (if i.op=12 then ms++[i.k] else ms):=by
 conv=>lhs;unfold fK
 rw[if_neg (by omega),Int.toNat_natCast,h]
 simp[hm,h13]
end
theorem fT {self:Int}{l:List aJ}(hl:∀ i∈l,Bm i)(h0:0<=self)(h1:self<4294967296):∀ (n:Nat) (xs:List Int) (pc:Int) (ms:List Int),bg xs->bg (fK self l n xs pc ms).xs
 | n,xs,pc,ms,hx=>by
  by_cases h9:pc<0\/l.length<=pc
  ·rw[mR h9];exact hx
  ·obtain⟨k,rfl⟩:∃ k:Nat,pc=k:=⟨pc.toNat,by omega⟩
   have hk:=List.getElem?_eq_getElem (l:=l) (i:=k) (by omega)
   have hi:=hl _ (List.getElem_mem (l:=l) (n:=k) (by omega))
   generalize l[k]=i at hk hi
   by_cases hm:cW i.op=U
   ·rw[mS hk hm];exact hx
   ·have hm':cW i.op=T:=by simpa using hm
    match n with
    | 0=>rw[jZ hk hm'];exact hx
    | n+1=>
     by_cases h13:i.op=13
     ·rw[j8 hk h13];exact hx
     ·rw[j7 hk hm' h13];exact fT hl h0 h1 n _ _ _ (hx.one hi h0 h1)
end
section
def ep (zs:List Int):Prop:=zs.length<=8/\∀ k,k<zs.length->0<=aG zs k/\aG zs k<=4096
def sz (zs:List Int)(k:Nat):Nat:=(aG zs k).toNat
def pre (zs:List Int):Nat->Nat
 | 0=>0
 | k+1=>pre zs k+sz zs k
theorem fp (zs:List Int)(k:Nat):pre zs (k+1)=pre zs k+sz zs k:=rfl
def jU (zs:List Int):Nat:=pre zs zs.length
def iS (zs:List Int):Nat->List (Nat×Nat)
 | 0=>[]
 | k+1=>iS zs k++(List.range (sz zs k)).map fun i=>(k,i)
def nE (zs:List Int):List (Nat×Nat):=iS zs zs.length
section
variable {zs:List Int}
theorem zo (h:ep zs){k:Nat}(hk:k<zs.length):aG zs k=(sz zs k:Int):=by
 have:=(h.2 k hk).1;unfold sz;omega
theorem BA (h:ep zs){k:Nat}(hk:k<zs.length):sz zs k<=4096:=by
 have:=(h.2 k hk);unfold sz;omega
theorem qI (zs:List Int){a b:Nat}(h:a<=b):pre zs a<=pre zs b:=by
 induction b with
 | zero=>
  obtain rfl:a=0:=by omega
  exact C _
 | succ b ih=>
  by_cases e:a=b+1
  ·subst e;exact C _
  ·exact Nat.le_trans (ih (by omega)) (by simp[pre])
theorem pT (h:ep zs):∀ k,k<=zs.length->pre zs k<=4096*k
 | 0,_=>C _
 | k+1,hk=>by
  have h1:=pT h k (by omega)
  have h2:=BA h (k:=k) (by omega)
  rw[fp];omega
theorem tu (h:ep zs):jU zs<=32768:=by
 have h1:=pT h zs.length (C _)
 have h2:=h.1
 unfold jU;omega
theorem As {k:Nat}(hk:k<=zs.length):pre zs k<=jU zs:=qI zs hk
theorem iG (zs:List Int):∀ k,(iS zs k).length=pre zs k
 | 0=>rfl
 | k+1=>by simp[iS,pre,iG zs k]
theorem jF (zs:List Int):(nE zs).length=jU zs:=iG zs _
theorem rk (zs:List Int):∀ K a p,a<K->p<sz zs a->(iS zs K)[pre zs a+p]?=S (a,p)
 | 0,a,p,ha,_=>by omega
 | K+1,a,p,ha,hp=>by
  unfold iS
  rw[List.getElem?_append,iG]
  by_cases e:a=K
  ·subst e
   rw[if_neg (by omega),Nat.add_sub_cancel_left]
   simp[hp]
  ·have h1:pre zs (a+1)<=pre zs K:=qI zs (by omega)
   rw[fp] at h1
   rw[if_pos (by omega)]
   exact rk zs K a p (by omega) hp
theorem lS {a p:Nat}(ha:a<zs.length)(hp:p<sz zs a):(nE zs)[pre zs a+p]?=S (a,p):=rk zs _ a p ha hp
theorem nV (zs:List Int):∀ K i,i<pre zs K->∃ a p,a<K/\p<sz zs a/\i=pre zs a+p
 | 0,i,h=>by unfold pre at h;omega
 | K+1,i,h=>by
  by_cases e:i<pre zs K
  ·obtain⟨a,p,h1,h2,h3⟩:=nV zs K i e
   exact⟨a,p,by omega,h2,h3⟩
  ·rw[fp] at h
   exact⟨K,i-pre zs K,by omega,by omega,by omega⟩
theorem nN {i:Nat}(h:i<jU zs):∃ a p,a<zs.length/\p<sz zs a/\i=pre zs a+p:=nV zs _ i h
theorem tA {a p:Nat}(ha:a<zs.length)(hp:p<sz zs a):pre zs a+p<jU zs:=by
 have h1:pre zs (a+1)<=jU zs:=As (by omega)
 rw[fp] at h1;omega
def tJ (c:Nat×Nat):List Value:=[I N c.1,I N c.2]
def jj (l:List (Nat×Nat)):List Value:=l.flatMap tJ
theorem tc (l:List (Nat×Nat))(c:Nat×Nat):jj (l++[c])=jj l++tJ c:=by simp[jj]
theorem rj:∀ (l:List (Nat×Nat)) (k:Nat) (c:Nat×Nat),l[k]?=S c->(jj l)[k*2]?=S (I N c.1)/\(jj l)[k*2+1]?=S (I N c.2)
 | [],k,c,h=>by simp at h
 | x :: l,0,c,h=>by simp at h;subst h;exact⟨rfl,rfl⟩
 | x :: l,k+1,c,h=>by
  have ih:=rj l k c (by simpa using h)
  have e:jj (x :: l)=I N x.1 :: I N x.2 :: jj l:=by simp[jj,tJ]
  rw[e,show (k+1)*2=k*2+1+1 by omega]
  exact ih
def dP (zs:List Int)(k i:Nat):List (Nat×Nat):=iS zs k++(List.range i).map fun i=>(k,i)
theorem vT (zs:List Int)(k:Nat):dP zs k 0=iS zs k:=by simp[dP]
theorem qs (zs:List Int)(k:Nat):dP zs k (sz zs k)=iS zs (k+1):=rfl
theorem pa (zs:List Int)(k i:Nat):dP zs k (i+1)=dP zs k i++[(k,i)]:=by simp[dP,List.range_succ]
theorem qr (zs:List Int)(k i:Nat):(dP zs k i).length=pre zs k+i:=by simp[dP,iG]
end
structure Lk where
 l:List aJ
 lo:Int
 un:Int
 zs:List Int
 each:Nat
 n:Nat
structure kF where
 xs:List Int
 pc:Int
structure Pn where
 free:Nat->List Nat
 gen:List Int
 out:List Int
structure Mc where
 ws:List Int
 pn:Pn
 cs:Nat->kF
structure Ot where
 ms:List Int
 done:Int
 addr:Int
 wrote:Bool
 stay:Bool
 e:Int
def eO {α:Type}(f:Nat->α)(t:Nat)(v:α):Nat->α:=fun i=>if i=t then v else f i
theorem jX {α:Type}(f:Nat->α)(t:Nat)(v:α):eO f t v t=v:=by simp[eO]
theorem iU {α:Type}{f:Nat->α}{t i:Nat}{v:α}(h:i≠t):eO f t v i=f i:=by simp[eO,h]
def Eu (gen:List Int)(q:Nat):Int:=aG gen q*4096+((q:Int)+1)
def FI (gen out:List Int)(h:Int):Bool:=decide (1<=h % 4096/\h % 4096<=(out.length:Int)/\aG out (h % 4096-1).toNat=1/\Eu gen (h % 4096-1).toNat=h)
def ww (p:Pn)(t:Nat):Pn×Int:=match p.free t with
 | []=>(p,0)
 | q :: rest=>(⟨eO p.free t rest,p.gen,p.out.set q 1⟩,Eu p.gen q)
def zx (each:Nat)(p:Pn)(h:Int):Option Pn:=
 if h=0 then S p
 else if FI p.gen p.out h then
  let q:=(h % 4096-1).toNat
  S ⟨eO p.free (q / each) (p.free (q / each)++[q]),p.gen.set q ((h / 4096+1) % 262144),p.out.set q 0⟩
 else Z
def oM (n each:Nat):Pn:=⟨fun t=>(List.range each).map fun i=>t*each+i,List.replicate (n*each) 0,List.replicate (n*each) 0⟩
def nC (each:Nat)(p:Pn)(t:Nat):Int:=(each:Int)-((p.free t).length:Int)
def fz (zs:List Int)(area v:Int):Option Nat:=
 if 0<=area/\area<zs.length/\v % 4096<sz zs area.toNat then S (pre zs area.toNat+(v % 4096).toNat) else Z
def ie (k:Lk)(m:Mc)(t:Nat)(c:kF)(o:Ot):Mc×Ot:=
 let r:=fK (t:Int) k.l 256 c.xs c.pc []
 ({ m with cs:=eO m.cs t ⟨r.xs,r.pc⟩ },{ o with ms:=r.ms,done:=r.done,e:=r.e })
def cx (k:Lk)(m:Mc)(t:Nat)(unlock:Bool):Mc×Ot:=
 ie k m t ⟨(m.cs t).xs,if unlock then k.un else k.lo⟩ ⟨[],0,-1,T,T,0⟩
def eZ:Ot:=⟨[],-1,-1,T,T,11⟩
def gV (k:Lk)(pc:Int):Option aJ:=if pc<0 then Z else match k.l[pc.toNat]? with
 | some i=>if cW i.op then S i else Z
 | none=>Z
def p5 (k:Lk)(m:Mc)(t:Nat)(c:kF)(late:Bool)(i:aJ)(a:Nat):Mc×Ot:=
 let v:=aG c.xs i.t.toNat
 let u:=aG c.xs i.u.toNat
 let was:=aG m.ws a
 let d:=i.d.toNat
 let o:Ot:=⟨[],0,a,T,T,0⟩
 if i.op=16 then ie k m t ⟨c.xs.set d was,c.pc+1⟩ o
 else if i.op=17 then ie k { m with ws:=m.ws.set a v } t ⟨c.xs,c.pc+1⟩ { o with wrote:=U }
 else if i.op=18 then ie k { m with ws:=m.ws.set a v } t ⟨c.xs.set d was,c.pc+1⟩ { o with wrote:=U }
 else if i.op=19 then
  if was=v then ie k { m with ws:=m.ws.set a u } t ⟨c.xs.set d 1,c.pc+1⟩ { o with wrote:=U }
  else ie k m t ⟨c.xs.set d 0,c.pc+1⟩ o
 else if i.op=20 then ie k { m with ws:=m.ws.set a ((was+i.k) % 4294967296) } t ⟨c.xs.set d was,c.pc+1⟩ { o with wrote:=U }
 else
  let holds:=decide (was=v) != decide (i.k=1)
  if holds then ie k m t ⟨c.xs.set d was,c.pc+1⟩ o
  else if late=T\/i.pl<0 then ({ m with cs:=eO m.cs t ⟨c.xs.set d was,c.pc⟩ },{ o with stay:=U,done:=-1 })
  else ie k m t ⟨c.xs.set d was,i.pl⟩ o
def dx (k:Lk)(m:Mc)(t:Nat)(late:Bool):Mc×Ot:=
 let c:=m.cs t
 match gV k c.pc with
 | none=>(m,eZ)
 | some i=>
  let s:=aG c.xs i.s.toNat
  if i.op=22 then
   let r:=ww m.pn t
   ie k { m with pn:=r.1 } t ⟨c.xs.set i.d.toNat r.2,c.pc+1⟩ ⟨[],0,-1,T,T,0⟩
  else if i.op=23 then match zx k.each m.pn s with
   | none=>(m,eZ)
   | some p=>ie k { m with pn:=p } t ⟨c.xs,c.pc+1⟩ ⟨[],0,-1,T,T,0⟩
  else match fz k.zs i.a s with
   | none=>(m,eZ)
   | some a=>p5 k m t c late i a
def oN (k:Lk)(init r7:List Int):Mc:=⟨init,oM k.n k.each,fun t=>⟨[0,0,0,0,0,0,0,aG r7 t],0⟩⟩
structure Rn where
 m:Mc
 act:Nat->Int
 l:List En
 bad:Bool
structure EH where
 kind:Int
 t:Int
 late:Bool
def enter (r:Rn)(kind:Int)(t:Nat):Rn:={ r with l:=r.l++[⟨kind,t,0⟩] }
def D5 (k:Int):Int:=if k=1 then 2 else if k=2 then 3 else if k=3 then 4 else if k=4 then 9 else 0
def CB (r:Rn)(t:Nat)(ms:List Int):Rn:={ r with l:=r.l++ms.map fun k=>⟨D5 k,(t:Int),0⟩ }
def zv (r:Rn)(t:Nat)(o:Ot):Rn:=
 let r:=CB r t o.ms
 if o.e≠0\/(0<=o.done/\¬ ((o.done=2)↔(r.act t=3))) then { r with bad:=U }
 else if o.done=0 then { enter r 6 t with act:=eO r.act t 0 }
 else if o.done=1 then { enter r 5 t with act:=eO r.act t 2 }
 else if o.done=2 then { enter r 10 t with act:=eO r.act t 0 }
 else if o.done=3 then { enter r 7 t with act:=eO r.act t 0 }
 else r
def FD (k:Lk)(r:Rn)(o:EH):Rn:=
 if o.t<0\/(k.n:Int)<=o.t\/r.bad=U then r
 else
  let t:=o.t.toNat
  if o.kind=1 then
   if r.act t=0 then
    let r:=enter { r with act:=eO r.act t 1 } 1 t
    let x:=cx k r.m t T
    zv { r with m:=x.1 } t x.2
   else r
  else if o.kind=2 then
   if r.act t=2 then
    let r:=enter { r with act:=eO r.act t 3 } 8 t
    let x:=cx k r.m t U
    zv { r with m:=x.1 } t x.2
   else r
  else if r.act t=1\/r.act t=3 then
   let x:=dx k r.m t o.late
   zv { r with m:=x.1 } t x.2
  else r
structure Ac where
 ws:List Int
 c:kF
 wrote:Bool
 stay:Bool
def fI (c:kF)(i:aJ)(v:Int)(late:Bool):kF×Bool:=
 if decide (v=aG c.xs i.t.toNat)==decide (i.k=0) then (⟨c.xs.set i.d.toNat v,c.pc+1⟩,T)
 else if late=U/\i.pl≠-1 then (⟨c.xs.set i.d.toNat v,i.pl⟩,T)
 else (⟨c.xs.set i.d.toNat v,c.pc⟩,U)
def ig (ws:List Int)(c:kF)(late:Bool)(i:aJ)(a:Nat):Ac:=
 let v:=aG c.xs i.t.toNat
 let u:=aG c.xs i.u.toNat
 let was:=aG ws a
 let d:=i.d.toNat
 if i.op=16 then ⟨ws,⟨c.xs.set d was,c.pc+1⟩,T,T⟩
 else if i.op=17 then ⟨ws.set a v,⟨c.xs,c.pc+1⟩,U,T⟩
 else if i.op=18 then ⟨ws.set a v,⟨c.xs.set d was,c.pc+1⟩,U,T⟩
 else if i.op=19 then if was=v then ⟨ws.set a u,⟨c.xs.set d 1,c.pc+1⟩,U,T⟩ else ⟨ws,⟨c.xs.set d 0,c.pc+1⟩,T,T⟩
 else if i.op=20 then ⟨ws.set a ((was+i.k) % 4294967296),⟨c.xs.set d was,c.pc+1⟩,U,T⟩
 else ⟨ws,(fI c i was late).1,T,(fI c i was late).2⟩
structure EK (i:aJ)(n:Nat):Prop where
 op:16<=i.op/\i.op<=23
 d:0<=i.d/\i.d<=7
 s:0<=i.s/\i.s<=7
 t:0<=i.t/\i.t<=7
 u:0<=i.u/\i.u<=7
 a:0<=i.a/\i.a<=7
 k:0<=i.k/\i.k<4294967296
 aw:i.op=21->(i.k=0\/i.k=1)/\(i.pl=-1\/(0<=i.pl/\i.pl<n))
theorem Cx {i:aJ}{n:Nat}(h:au i n=U)(k0:0<=i.k)(k1:i.k<4294967296)(hm:cW i.op=U):EK i n:=by
 obtain⟨hd,hs,ht,hu,ha⟩:=eA i n h
 have ho:=(BE h k0 k1).op
 have hop:16<=i.op/\i.op<=23:=by
  unfold cW at hm
  simp only[Bool.and_eq_true,decide_eq_true_eq] at hm
  omega
 refine⟨hop,hd,hs,ht,hu,ha,⟨k0,k1⟩,fun e=>?_⟩
 obtain⟨op,d,s,t,u,a,k,pl⟩:=i
 simp only at e k0 k1 hd hs ht hu ha
 subst e
 rw[gN d s t u a k pl n hd hs ht hu ha k0 k1] at h
 simp at h
 simp only
 omega
theorem bg.put {xs:List Int}(h:bg xs)(d:Nat){v:Int}(hv:0<=v/\v<4294967296):bg (xs.set d v):=⟨by rw[List.length_set];exact h.1,h.2.set _ _ hv⟩
section
variable {ws:List Int}{c:kF}{late:Bool}{i:aJ}{a n:Nat}
theorem yH:(ig ws c late i a).ws.length=ws.length:=by
 unfold ig
 simp only
 repeat' split
 all_goals simp
theorem yG (hw:fM ws)(hx:bg c.xs):fM (ig ws c late i a).ws:=by
 have h0:=hw.at_ a
 have h1:=hx.2.at_ i.t.toNat
 have h2:=hx.2.at_ i.u.toNat
 unfold ig
 simp only
 repeat' split
 all_goals first | exact hw | exact hw.set _ _ h1 | exact hw.set _ _ h2 | exact hw.set _ _ (by omega)
theorem jg {v:Int}(hv:0<=v/\v<4294967296)(hx:bg c.xs):bg (fI c i v late).1.xs:=by
 unfold fI
 repeat' split
 all_goals exact hx.put _ hv
theorem mq (hw:fM ws)(hx:bg c.xs):bg (ig ws c late i a).c.xs:=by
 have h0:=hw.at_ a
 unfold ig
 simp only
 repeat' split
 all_goals first | exact hx | exact hx.put _ h0 | exact hx.put _ (by omega) | exact jg h0 hx
end
section
variable {k:Lk}{m:Mc}{t:Nat}{late:Bool}{i:aJ}{a:Nat}
def fh (k:Lk)(m:Mc)(t:Nat)(c:kF)(addr:Int)(wrote stay:Bool):Mc×Ot:=
 if stay then ({ m with cs:=eO m.cs t c },⟨[],-1,addr,wrote,U,0⟩) else ie k m t c ⟨[],0,addr,wrote,T,0⟩
theorem C6 (h:EK i k.l.length)(h22:i.op≠22)(h23:i.op≠23)(c:kF):
 p5 k m t c late i a=fh k { m with ws:=(ig m.ws c late i a).ws } t (ig m.ws c late i a).c a (ig m.ws c late i a).wrote (ig m.ws c late i a).stay:=by
 have hop:=h.op
 unfold p5 ig fh
 simp only
 by_cases h16:i.op=16
 ·simp[h16]
 by_cases h17:i.op=17
 ·simp[h17]
 by_cases h18:i.op=18
 ·simp[h18]
 by_cases h19:i.op=19
 ·simp only[h19]
  by_cases hw:aG m.ws a=aG c.xs i.t.toNat
  ·simp[hw]
  ·simp[hw]
 by_cases h20:i.op=20
 ·simp[h20]
 have h21:i.op=21:=by omega
 obtain⟨hk,hp⟩:=h.aw h21
 simp only[if_neg h16,if_neg h17,if_neg h18,if_neg h19,if_neg h20]
 unfold fI
 by_cases hw:aG m.ws a=aG c.xs i.t.toNat
 ·rcases hk with hk | hk
  ·simp[hw,hk]
  ·cases late with
   | true=>
    rcases hp with hp | ⟨hp,_⟩
    ·simp[hw,hk,hp]
    ·have h1:¬ i.pl=-1:=by omega
     have h2:¬ i.pl<0:=by omega
     simp[hw,hk,h1,h2]
   | false=>simp[hw,hk]
 ·rcases hk with hk | hk
  ·cases late with
   | true=>
    rcases hp with hp | ⟨hp,_⟩
    ·simp[hw,hk,hp]
    ·have h1:¬ i.pl=-1:=by omega
     have h2:¬ i.pl<0:=by omega
     simp[hw,hk,h1,h2]
   | false=>simp[hw,hk]
  ·simp[hw,hk]
structure Dn where
 m:Mc
 c:kF
 addr:Int
 wrote:Bool
 stay:Bool
def Ds (k:Lk)(m:Mc)(t:Nat)(c:kF)(late:Bool)(i:aJ):Option Dn:=
 if i.op=22 then S ⟨{ m with pn:=(ww m.pn t).1 },⟨c.xs.set i.d.toNat (ww m.pn t).2,c.pc+1⟩,-1,T,T⟩
 else if i.op=23 then match zx k.each m.pn (aG c.xs i.s.toNat) with
  | none=>Z
  | some p=>S ⟨{ m with pn:=p },⟨c.xs,c.pc+1⟩,-1,T,T⟩
 else match fz k.zs i.a (aG c.xs i.s.toNat) with
  | none=>Z
  | some a=>S ⟨{ m with ws:=(ig m.ws c late i a).ws },(ig m.ws c late i a).c,a,(ig m.ws c late i a).wrote,(ig m.ws c late i a).stay⟩
theorem nR (h:gV k (m.cs t).pc=Z):dx k m t late=(m,eZ):=by
 unfold dx
 simp only[h]
theorem zU (h:gV k (m.cs t).pc=S i)(ho:EK i k.l.length):dx k m t late=match Ds k m t (m.cs t) late i with
 | none=>(m,eZ)
 | some r=>fh k r.m t r.c r.addr r.wrote r.stay:=by
 unfold dx Ds
 simp only[h]
 by_cases h22:i.op=22
 ·simp[h22,fh]
 by_cases h23:i.op=23
 ·simp only[if_neg h22,if_pos h23]
  cases zx k.each m.pn (aG (m.cs t).xs i.s.toNat) with
  | none=>rfl
  | some p=>simp[fh]
 ·simp only[if_neg h22,if_neg h23]
  cases fz k.zs i.a (aG (m.cs t).xs i.s.toNat) with
  | none=>rfl
  | some a=>exact C6 ho h22 h23 _
theorem fg {pc:Int}(h:gV k pc=S i):0<=pc/\pc<k.l.length/\k.l[pc.toNat]?=S i/\cW i.op=U:=by
 unfold gV at h
 by_cases h0:pc<0
 ·rw[if_pos h0] at h;cases h
 ·rw[if_neg h0] at h
  cases hk:k.l[pc.toNat]? with
  | none=>rw[hk] at h;cases h
  | some j=>
   rw[hk] at h
   simp only at h
   by_cases hm:cW j.op=U
   ·rw[if_pos hm] at h
    injection h with h
    subst h
    have:=(List.getElem?_eq_some_iff.1 hk).1
    exact⟨by omega,by omega,rfl,hm⟩
   ·rw[if_neg hm] at h;cases h
theorem oh {pc:Int}(h:gV k pc=Z):pc<0\/(k.l.length:Int)<=pc\/∃ j,0<=pc/\pc<k.l.length/\k.l[pc.toNat]?=S j/\cW j.op=T:=by
 unfold gV at h
 by_cases h0:pc<0
 ·exact .inl h0
 ·rw[if_neg h0] at h
  cases hk:k.l[pc.toNat]? with
  | none=>exact .inr (.inl (by have:=List.getElem?_eq_none_iff.1 hk;omega))
  | some j=>
   rw[hk] at h
   simp only at h
   have:=(List.getElem?_eq_some_iff.1 hk).1
   by_cases hm:cW j.op=U
   ·rw[if_pos hm] at h;cases h
   ·exact .inr (.inr ⟨j,by omega,by omega,rfl,by simpa using hm⟩)
structure EI (k:Lk)(m:Mc):Prop where
 ws:fM m.ws
 len:m.ws.length=jU k.zs
 cs:∀ t,t<k.n->bg (m.cs t).xs
structure mz (k:Lk):Prop where
 code:lf ⟨k.l,k.lo,k.un⟩=U
 k32:∀ i∈k.l,0<=i.k/\i.k<4294967296
 zs:ep k.zs
 few:jU k.zs<=8192
 n1:1<=k.n
 n64:k.n<=64
 each:k.each<=8
theorem mz.parts (h:mz k):1<=k.l.length/\k.l.length<=64/\0<=k.lo/\k.lo<k.l.length/\0<=k.un/\k.un<k.l.length/\∀ i∈k.l,au i k.l.length=U:=by
 have hc:=h.code
 unfold lf at hc
 simp only[Bool.and_eq_true,decide_eq_true_eq,List.all_eq_true] at hc
 obtain⟨h1,h2,h3,h4,h5,h6,h7⟩:=hc
 exact⟨h1,h2,h3,h5,h4,h6,h7⟩
theorem mz.ok (h:mz k):∀ i∈k.l,Bm i:=fun i hi=>BE (h.parts.2.2.2.2.2.2 i hi) (h.k32 i hi).1 (h.k32 i hi).2
theorem mz.Dq (h:mz k){pc:Int}(hm:gV k pc=S i):EK i k.l.length:=by
 obtain⟨_,_,h3,h4⟩:=fg hm
 have hi:=List.mem_of_getElem? h3
 exact Cx (h.parts.2.2.2.2.2.2 i hi) (h.k32 i hi).1 (h.k32 i hi).2 h4
theorem eT {cs:Nat->kF}{c:kF}{n:Nat}(h:∀ t,t<n->bg (cs t).xs)(hc:bg c.xs)(t:Nat):∀ s,s<n->bg (eO cs t c s).xs:=fun s hs=>by
 unfold eO
 split
 ·exact hc
 ·exact h s hs
end
end
section
open Go.ChangeShapes Go.WideShapes Go.ChangeAt Go.RowKit
def Dy (w:World)(a:Option Addr)(l:List aJ):Prop:=
 0<l.length->∃ b off,a=S ⟨b,off,Z⟩/\b<w.heap.size/\∀ k i,l[k]?=S i->∀ j,j<8->w.cell? ⟨b,off+k*8+j,Z⟩=(ja i)[j]?
def Pv (w:World)(v:Value)(c:fC):Prop:=∃ a cap,v=.agg #[J a c.l.length cap,I N c.lo,I N c.un]/\c.l.length<=cap/\cap<=maxLen/\(a=Z->cap=0)/\Dy w a c.l
section
variable {w w':World}{a:Option Addr}{l:List aJ}{v:Value}{c:fC}
theorem Dy.below (h:Dy w a l)(hb:Below w.heap.size w w'):Dy w' a l:=by
 intro h0
 obtain⟨b,off,e,hlt,hc⟩:=h h0
 exact⟨b,off,e,Nat.lt_of_lt_of_le hlt hb.size,fun k i hk j hj=>(hb.cell (p:=⟨b,off+k*8+j,Z⟩) hlt).trans (hc k i hk j hj)⟩
theorem Pv.below (h:Pv w v c)(hb:Below w.heap.size w w'):Pv w' v c:=by
 obtain⟨a,cap,e,h1,h2,h4,h3⟩:=h
 exact⟨a,cap,e,h1,h2,h4,h3.below hb⟩
theorem pt {t:TypeId}{base cap:Nat}(h:w.ownsRow base t 8 (J a l.length cap) l.length (bH l)):Dy w a l:=by
 intro h0
 obtain⟨a2,cap2,e,_,_,hg⟩:=bp h
 simp only[Value.slice.injEq] at e
 obtain⟨rfl,-,rfl⟩:=e
 obtain⟨g,rfl,_,_,hlt,_,hc⟩:=hg h0
 refine⟨g,0,rfl,hlt,fun k i hk j hj=>?_⟩
 have hkl:=(List.getElem?_eq_some_iff.1 hk).1
 rw[Nat.zero_add,hc _ (by omega),mV hk hj]
theorem py {t:TypeId}{base n cap size:Nat}{xs:List Value}(h:w.ownsRow base t size (J a n cap) n xs)(e:a=Z):cap=0:=by
 subst e
 rcases h.2 with ⟨h,_⟩ | ⟨g,c,cur,h,_⟩
 ·injection h
 ·injection h with h;cases h
theorem Pg.pv {base:Nat}(h:Pg w base v c):Pv w v c:=by
 obtain⟨sl,rfl,ho⟩:=h
 obtain⟨a,cap,rfl,h1,h2,_⟩:=bp ho
 exact⟨a,cap,rfl,h1,h2,py ho,pt ho⟩
theorem Dy.at_ (h:Dy w a l){k:Nat}{i:aJ}(hk:l[k]?=S i):∃ b off,a=S ⟨b,off,Z⟩/\b<w.heap.size/\w.cell? ⟨b,off+k*8,Z⟩=S (I N i.op)/\w.cell? ⟨b,off+k*8+1,Z⟩=S (I N i.d)/\w.cell? ⟨b,off+k*8+2,Z⟩=S (I N i.s)/\w.cell? ⟨b,off+k*8+3,Z⟩=S (I N i.t)/\
 w.cell? ⟨b,off+k*8+4,Z⟩=S (I N i.u)/\w.cell? ⟨b,off+k*8+5,Z⟩=S (I N i.a)/\w.cell? ⟨b,off+k*8+6,Z⟩=S (I O i.k)/\w.cell? ⟨b,off+k*8+7,Z⟩=S (I N i.pl):=by
 have hkl:=(List.getElem?_eq_some_iff.1 hk).1
 obtain⟨b,off,e,hlt,hc⟩:=h (by omega)
 exact⟨b,off,e,hlt,hc k i hk 0 (by omega),hc k i hk 1 (by omega),hc k i hk 2 (by omega),hc k i hk 3 (by omega),hc k i hk 4 (by omega),hc k i hk 5 (by omega),hc k i hk 6 (by omega),hc k i hk 7 (by omega)⟩
end
end
section
def i4 (n:Nat):Lk:=⟨EJ,0,5,[1,1],0,n⟩
def Ce (k:Lk)(r:Rn)(t:Nat):Rn:=FD k r ⟨if r.act t=2 then 2 else 3,t,T⟩
end
section
open Go.ChangeShapes Go.WideShapes Go.ChangeAt Go.RowKit
def wE (zs:List Int):Array Value:=(zs.map (Value.int .i64)).toArray
theorem qU (zs:List Int)(i:Nat)(h:i<zs.length):(wE zs)[i]?=S (I N (aG zs i)):=by simp[wE,h,aG]
theorem mZ (zs:List Int){k i:Nat}(h:i<k):aG (zs.take k) i=aG zs i:=by
 unfold aG;simp only[List.getD_eq_getElem?_getD,List.getElem?_take];rw[if_pos h]
theorem rW {zs:List Int}(h:ep zs)(k:Nat):ep (zs.take k):=by
 refine⟨by have:=h.1;simp;omega,fun i hi=>?_⟩
 simp at hi
 rw[mZ zs (by omega)]
 exact h.2 i (by omega)
theorem qH (zs:List Int){k:Nat}:∀ j,j<=k->pre (zs.take k) j=pre zs j
 | 0,_=>rfl
 | j+1,h=>by rw[fp,fp,qH zs j (by omega)];unfold sz;rw[mZ zs (by omega)]
theorem wW {zs:List Int}{k:Nat}(h:k<=zs.length):jU (zs.take k)=pre zs k:=by
 unfold jU;rw[List.length_take,Nat.min_eq_left h,qH zs k (C _)]
theorem xT {w:World}{s k:Nat}{zs:List Int}(h:Bk w s 3 (wE zs))(hk:k<=zs.length):dM .i64 w (S ⟨s,0,Z⟩) (zs.take k):=by
 intro _
 refine⟨s,0,rfl,h.lt,fun i hi=>?_⟩
 simp at hi
 rw[Nat.zero_add,h.cell,qU zs i (by omega),mZ zs (by omega)]
theorem dM.here {k:IntKind}{w:World}{a:Option Addr}{xs:List Int}(h:dM k w a xs){i:Nat}(hi:i<xs.length):∃ b off,a=S ⟨b,off,Z⟩/\w.cell? ⟨b,off+i,Z⟩=S (.int k (aG xs i)):=by
 obtain⟨b,off,e,_,hc⟩:=h (by omega)
 exact⟨b,off,e,hc i hi⟩
theorem dM.grown {k:IntKind}{w w':World}{a:Option Addr}{xs:List Int}(h:dM k w a xs)(hb:w.grownBy w' Z):dM k w' a xs:=by
 intro h0
 obtain⟨b,off,e,hlt,hc⟩:=h h0
 exact⟨b,off,e,Nat.lt_of_lt_of_le hlt hb.size,fun i hi=>((aP hb).cell (p:=⟨b,off+i,Z⟩) hlt).trans (hc i hi)⟩
theorem oF {w:World}{a:Option Addr}{zs:List Int}(h:dM .i64 w a zs)(hz:ep zs)(cap:Nat):
 Calls Tryz.prog 73 #[J a zs.length cap] w fun e w'=>e=.returned (I N (jU zs))/\w=w':=by
 have h8:=hz.1
 go_enter Tryz.func73,Tryz.ntmps73
 go_wp2
 go_loopw [3,8] (fun s t wr=>∃ k:Nat,k<=zs.length/\t=I N k/\s=I N (pre zs k)/\w=wr) (fun _ t _=>zs.length-(intOf t).toNat)
 case atStart=>exact⟨0,Nat.zero_le _,rfl,rfl,by trivial⟩
 case round=>
  obtain⟨k,hk,rfl,rfl,rfl⟩:=hrel
  by_cases hlt:k<zs.length
  ·obtain⟨b,off,rfl,hc⟩:=h.here hlt
   rw[zo hz hlt] at hc
   have h1:=BA hz hlt
   have h2:=pT hz k hk
   have hs:=fp zs k
   go_wp2
   go_roundw
   case rel=>exact⟨k+1,by omega,by go_num,by rw[hs];go_num,by trivial⟩
   case measure=>simp[intOf];omega
  ·obtain rfl:k=zs.length:=by omega
   go_wp2
   go_ret
   exact⟨rfl,rfl⟩
theorem CC {w:World}{a:Option Addr}{zs:List Int}(h:dM .i64 w a zs)(hz:ep zs)(cap:Nat):
 Calls Tryz.prog 72 #[J a zs.length cap] w fun e w'=>e=.returned (.bool U)/\w=w':=by
 have h8:=hz.1
 go_enter Tryz.func72,Tryz.ntmps72
 go_wp2
 go_loopw [10] (fun t wr=>∃ k:Nat,k<=zs.length/\t=I N k/\w=wr) (fun t _=>zs.length-(intOf t).toNat)
 case atStart=>exact⟨0,Nat.zero_le _,rfl,by trivial⟩
 case round=>
  obtain⟨k,hk,rfl,rfl⟩:=hrel
  by_cases hlt:k<zs.length
  ·obtain⟨b,off,rfl,hc⟩:=h.here hlt
   obtain⟨h1,h2⟩:=hz.2 k hlt
   go_wp2
   go_roundw
   case rel=>exact⟨k+1,by omega,by go_num,by trivial⟩
   case measure=>simp[intOf];omega
  ·obtain rfl:k=zs.length:=by omega
   go_wp2
   go_ret
   exact⟨rfl,rfl⟩
structure Mm (w:World)(p q g s:Nat)(zs xs:List Int):Prop where
 ptr:Bk w p 169 #[H (S ⟨q,0,Z⟩),J (S ⟨s,0,Z⟩) zs.length zs.length]
 cel:pf w q g xs
 row:Bk w s 3 (wE zs)
 right:ep zs
 len:xs.length=jU zs
section
variable {w w':World}{p q g s:Nat}{zs xs ys:List Int}
theorem Mm.grown (h:Mm w p q g s zs xs)(hg:w.grownBy w' Z):Mm w' p q g s zs xs:=
 ⟨h.ptr.grown hg (by simp),h.cel.kept hg (by simp) (by simp),h.row.grown hg (by simp),h.right,h.len⟩
theorem Mm.alloc (h:Mm w p q g s zs xs)(o:Obj):Mm (w.alloc o) p q g s zs xs:=h.grown (bd _ _ Z)
theorem Mm.drewN (h:Mm w p q g s zs xs)(n:Nat):Mm (w.drewN n) p q g s zs xs:=h.grown (eD (df w Z) n)
theorem Mm.only (h:Mm w p q g s zs xs)(hc:pf w' q g ys)(ho:fE w w' g)(hl:ys.length=xs.length):Mm w' p q g s zs ys:=
 ⟨h.ptr.grown ho (fun e=>by injection e with e;exact h.ptr.aj h.cel.row (by decide) e),hc,h.row.grown ho (fun e=>by injection e with e;exact h.row.aj h.cel.row (by decide) e),h.right,hl.trans h.len⟩
theorem Mm.off {b:Nat}(h:Mm w p q g s zs xs)(ho:fE w w' b)(h1:b≠p)(h2:b≠q)(h3:b≠g)(h4:b≠s):Mm w' p q g s zs xs:=
 ⟨h.ptr.grown ho (fun e=>by injection e with e;exact h1 e.symm),h.cel.kept ho (fun e=>by injection e with e;exact h2 e.symm) (fun e=>by injection e with e;exact h3 e.symm),h.row.grown ho (fun e=>by injection e with e;exact h4 e.symm),h.right,h.len⟩
theorem Mm.c0 (h:Mm w p q g s zs xs):w.cell? ⟨p,0,Z⟩=S (H (S ⟨q,0,Z⟩)):=by rw[h.ptr.cell];rfl
theorem Mm.c1 (h:Mm w p q g s zs xs):w.cell? ⟨p,1,Z⟩=S (J (S ⟨s,0,Z⟩) zs.length zs.length):=by rw[h.ptr.cell];rfl
theorem Mm.at_ (h:Mm w p q g s zs xs){i:Nat}(hi:i<zs.length):w.cell? ⟨s,i,Z⟩=S (I N (sz zs i)):=by rw[h.row.cell,qU zs i hi,zo h.right hi]
theorem yA (h:Mm w p q g s zs xs)(a:Nat)(ha:a<zs.length)(v:Int)(h0:0<=v)(h1:v<4294967296)(hv:v % 4096<sz zs a):
 Calls Tryz.prog 82 #[H (S ⟨p,0,Z⟩),I N a,I O v] w fun e w'=>e=.returned (.tuple #[I N ((pre zs a+(v % 4096).toNat:Nat):Int),.bool U])/\w=w':=by
 have c1:=h.c1
 have c2:=h.at_ ha
 have h8:=h.right.1
 have hT:=oF (xT h.row (k:=a) (by omega)) (rW h.right a) zs.length
 rw[wW (by omega),List.length_take,Nat.min_eq_left (by omega)] at hT
 have hp:=pT h.right a (by omega)
 obtain⟨pl,hpl,hpl2⟩:∃ pl:Nat,v % 4096=pl/\pl<4096:=⟨(v % 4096).toNat,by omega,by omega⟩
 rw[hpl] at hv ⊢
 have HT:=F hT
 clear hT
 go_enter Tryz.func82,Tryz.ntmps82
 go_wp2_with fail
 refine(yX v h0 h1 w).mono ?_
 rw[hpl]
 rintro e w' ⟨rfl,rfl⟩
 go_wp2_with fail
 refine HT.out.mono ?_
 rintro e w' ⟨rfl,rfl⟩
 go_wp2
 go_ret2
 exact⟨by simp,rfl⟩
theorem tg (h:Mm w p q g s zs xs)(a:Int)(v:Int)(h0:0<=v)(h1:v<4294967296)(hv:a<0\/(zs.length:Int)<=a\/(sz zs a.toNat:Int)<=v % 4096):
 Calls Tryz.prog 82 #[H (S ⟨p,0,Z⟩),I N a,I O v] w fun e w'=>e=.returned (.tuple #[I N 0,.bool T])/\w=w':=by
 have c1:=h.c1
 have h8:=h.right.1
 rcases(show a<0\/(0<=a/\(zs.length:Int)<=a)\/(0<=a/\a<zs.length) by omega) with hb | hb | hb
 ·go_enter Tryz.func82,Tryz.ntmps82
  go_wp2
  go_ret2
  exact⟨rfl,rfl⟩
 ·go_enter Tryz.func82,Tryz.ntmps82
  go_wp2
  go_ret2
  exact⟨rfl,rfl⟩
 obtain⟨n,rfl⟩:=Int.eq_ofNat_of_zero_le hb.1
 have c2:=h.at_ (i:=n) (by omega)
 have hv2:(sz zs n:Int)<=v % 4096:=by
  rw[Int.toNat_natCast] at hv;omega
 obtain⟨pl,hpl,hpl2⟩:∃ pl:Nat,v % 4096=pl/\pl<4096:=⟨(v % 4096).toNat,by omega,by omega⟩
 rw[hpl] at hv2
 have hn:n<zs.length:=by omega
 clear hv
 go_enter Tryz.func82,Tryz.ntmps82
 go_wp2_with fail
 refine(yX v h0 h1 w).mono ?_
 rw[hpl]
 rintro e w' ⟨rfl,rfl⟩
 go_wp2
 go_ret2
 exact⟨rfl,rfl⟩
end
theorem Ag:(Tryz.prog.info? 125).map (fun i=>(i.zero,i.size,i.bytes))=S (S (.agg #[I N 0,I N 0,I N 0,I N 0,I N 0,I N 0,I O 0,I N 0]),8,64):=by kernel_rfl
theorem yS {w:World}{base:Nat}{t:TypeId}{sl:Value}{c:fC}(h:w.ownsRow base t 8 sl c.l.length (bH c.l)):Pv w (.agg #[sl,I N c.lo,I N c.un]) c:=by
 obtain⟨a,cap,rfl,h1,h2,_⟩:=bp h
 exact⟨a,cap,rfl,h1,h2,py h,pt h⟩
theorem nL (w:World)(t:TypeId)(xs ys:Array Value):Below w.heap.size w ((w.alloc (.cells xs t)).alloc (.cells ys t))/\Bk ((w.alloc (.cells xs t)).alloc (.cells ys t)) w.heap.size t xs/\Bk ((w.alloc (.cells xs t)).alloc (.cells ys t)) (w.heap.size+1) t ys:=by
 have h:=Bk.made (w.alloc (.cells xs t)) t ys
 rw[World.size_alloc] at h
 exact⟨((D _ _).alloc (C _) _).alloc (by simp) _,(Bk.made w t xs).alloc _,h⟩
theorem jS {P:Program}{w:World}{ops:Array Oper}{rest:List Oper}{o:Oper}{a:Act}{Q:Exit->Act->World->Prop}(hgd:o.guard=Z)(d s:Operand)(dT sT:TypeId)
 (ho:o.op=.call { callee:=.builtin .copy,args:=#[d,s],argTypes:=#[dT,sT] }) (elem:TypeId) (hu:P.underlying dT=S (.slice elem)) (hsz:(P.info? elem).map (·.size)=S 1)
 (dp sp:Option Addr) (dLen dCap sLen sCap:Nat) (hd:a.eval d=J dp dLen dCap) (hs:a.eval s=J sp sLen sCap)
 (g off:Nat) (cur:List Value) (t:TypeId) (hg:Bk w g t cur.toArray) (cs:List Value) (hn:cs.length=Nat.min sLen dLen)
 (hpos:0<cs.length->dp=S ⟨g,off,Z⟩/\∃ ad,sp=S ad/\∀ j v,cs[j]?=S v->w.cell? (ad.add j)=S v)
 (hfit:off+cs.length<=cur.length) (h1:∀ v∈cs,v.oneCell'=U)
 (h:∀ w',Bk w' g t (splice cur off cs).toArray->fE w w' g->wpList P ops Q rest (a.put o.dst (goInt cs.length)) w'):
 wpList P ops Q (o :: rest) a w:=by
 by_cases h0:cs.length=0
 ·obtain rfl:cs=[]:=List.eq_nil_of_length_eq_zero h0
  refine wpList_copy_nothing hgd d s dT sT ho elem hu hsz dp sp dLen dCap sLen sCap hd hs (by simpa using hn.symm) ?_
  exact h w (by unfold Bk at *;simpa [splice] using hg) (df _ _)
 ·obtain⟨rfl,ad,rfl,hsrc⟩:=hpos (by omega)
  refine wpList_copy_own hgd d s dT sT ho elem hu hsz g off dLen dCap ad sLen sCap hd hs cur.toArray t hg cs hn hsrc (by simpa using hfit) h1 ?_
  exact h _ (show _=_ by simpa [splice] using setRow_heap w g _ _ t _ hg) ⟨rfl,rfl,rfl,by simp[World.setRow],fun k _ hne=>setRow_other w g k _ (fun e=>hne (by rw[e]))⟩
theorem vb (n:Nat):madeCells #[I N 0] n=((List.replicate n (0:Int)).map (Value.int .i64)).toArray:=by
 apply Array.ext
 ·simp[madeCells]
 ·intro i h1 h2;simp[madeCells,Nat.mod_one]
theorem rP {α:Type}(L cs:List α)(h:L.length=cs.length):splice L 0 cs=cs:=by
 unfold splice;rw[Nat.zero_add,<-h,List.drop_length];simp
theorem yp {x:World}{s:Nat}{a:Option Addr}{zs:List Int}(h:dM .i64 x a zs):
 0<(zs.map (Value.int .i64)).length->(S ⟨s,0,Z⟩:Option Addr)=S ⟨s,0,Z⟩/\∃ ad,a=S ad/\∀ j v,(zs.map (Value.int .i64))[j]?=S v->x.cell? (ad.add j)=S v:=by
 intro h0
 refine⟨rfl,?_⟩
 obtain⟨b',off,e,_,hc⟩:=h (by simpa using h0)
 exact⟨_,e,oA hc⟩
def Em (w:World)(zs xs:List Int)(e:Ending)(w':World):Prop:=
 ∃ p q g s,e=.returned (.tuple #[H (S ⟨p,0,Z⟩),I N 0])/\Mm w' p q g s zs xs/\(w.heap.size<=p/\w.heap.size<=q/\w.heap.size<=g/\w.heap.size<=s)/\w.grownBy w' Z
section
variable {w:World}{a b:Option Addr}{zs ys:List Int}
theorem Fa (ha:dM .i64 w a zs)(hb:dM .u32 w b ys)(hz:ep zs)(ht:jU zs=ys.length)(hl:ys.length<=8192)(hy:fM ys)(c1 c2:Nat):
 Calls Tryz.prog 40 #[J a zs.length c1,J b ys.length c2] w (Em w zs ys):=by
 obtain⟨i0,hi0,hz0,hz1,hz2⟩:=info_parts lO
 have h8:=hz.1
 have hmk:=fun W:World=>run_make (P:=Tryz.prog) W 26 3 i0 _ Tryz.underlying26 hi0 hz0 .i64 .i64 zs.length zs.length (by omega) (by omega) (by rw[hz2];omega) (by omega)
 rw[hz1] at hmk
 clear hi0 hz0 hz1 hz2
 have hR:=F (CC ha hz c1)
 have hT:=F (oF ha hz c1)
 have hN:=F (Fd ys.length hl w)
 rw[ht] at hT
 have HT:=F ht
 clear ht
 go_enter Tryz.func40,Tryz.ntmps40
 go_wp2_with fail
 refine hR.out.mono ?_
 rintro e w' ⟨rfl,rfl⟩
 go_wp2_with fail
 refine hT.out.mono ?_
 rintro e w' ⟨rfl,rfl⟩
 go_wp2_with fail
 refine hN.out.mono ?_
 rintro e w1 ⟨q,g,rfl,hc,hq,hg,hw1⟩
 go_upto_region 7 with fail
 clear hmk hR hT hN
 have hM:Bk ((w1.alloc (G (madeCells #[I N 0] zs.length) 3)).alloc (G #[H (S ⟨q,0,Z⟩),J (S ⟨w1.heap.size,0,Z⟩) zs.length zs.length] 169)) (w1.heap.size+1) 169 #[H (S ⟨q,0,Z⟩),J (S ⟨w1.heap.size,0,Z⟩) zs.length zs.length]:=by
  have:=Bk.made (w1.alloc (G (madeCells #[I N 0] zs.length) 3)) 169 #[H (S ⟨q,0,Z⟩),J (S ⟨w1.heap.size,0,Z⟩) zs.length zs.length]
  rw[World.size_alloc] at this
  exact this
 have hS:Bk ((w1.alloc (G (madeCells #[I N 0] zs.length) 3)).alloc (G #[H (S ⟨q,0,Z⟩),J (S ⟨w1.heap.size,0,Z⟩) zs.length zs.length] 169)) w1.heap.size 3 ((List.replicate zs.length (0:Int)).map (Value.int .i64)).toArray:=by
  have:=(Bk.made w1 3 (madeCells #[I N 0] zs.length)).alloc (G #[H (S ⟨q,0,Z⟩),J (S ⟨w1.heap.size,0,Z⟩) zs.length zs.length] 169)
  rw[vb] at this ⊢
  exact this
 have hC:=(hc.alloc (G (madeCells #[I N 0] zs.length) 3)).alloc (G #[H (S ⟨q,0,Z⟩),J (S ⟨w1.heap.size,0,Z⟩) zs.length zs.length] 169)
 have hG:w.grownBy ((w1.alloc (G (madeCells #[I N 0] zs.length) 3)).alloc (G #[H (S ⟨q,0,Z⟩),J (S ⟨w1.heap.size,0,Z⟩) zs.length zs.length] 169)) Z:=aQ (aQ hw1 (bd _ _ Z) (.inl rfl)) (bd _ _ Z) (.inl rfl)
 have hs:=hw1.size
 clear hc hw1
 generalize (w1.alloc (G (madeCells #[I N 0] zs.length) 3)).alloc (G #[H (S ⟨q,0,Z⟩),J (S ⟨w1.heap.size,0,Z⟩) zs.length zs.length] 169)=x at *
 obtain⟨p,hp⟩:∃ p,w1.heap.size+1=p:=⟨_,rfl⟩
 have hps:w.heap.size<=p:=by omega
 rw[hp] at hM ⊢
 clear hp
 generalize w1.heap.size=s at *
 have m1:=hM.cell 1
 have m1':x.cell? ⟨p,1,Z⟩=S (J (S ⟨s,0,Z⟩) zs.length zs.length):=m1
 clear m1
 have HS:=F hS
 have HA:=F (ha.grown hG)
 go_wp2_with (refine jS rfl (.tmp 39) (.tmp 40) 26 26 rfl 3 Tryz.underlying26 (by kernel_rfl) (S ⟨s,0,Z⟩) a zs.length zs.length zs.length c1 (by simp[Act.eval]) (by simp[Act.eval]) s 0 ((List.replicate zs.length (0:Int)).map (Value.int .i64)) 3 HS.out (zs.map (Value.int .i64)) (by simp) (yp HA.out) (by simp) (ints_oneCell .i64 zs) ?_;intro x2 hx2 hg2)
 rw[rP _ _ (by simp)] at hx2
 have hg3:w.grownBy x2 Z:=aQ hG hg2 (.inr fun y e=>by injection e with e;omega)
 have hI:Mm x2 p q g s zs (my ys 0):=by
  rw[yR]
  exact⟨hM.grown hg2 (fun e=>by injection e with e;exact hM.aj hS (by decide) e),hC.kept hg2 (fun e=>by injection e with e;exact hC.ptr.aj hS (by decide) e) (fun e=>by injection e with e;exact hC.row.aj hS (by decide) e),hx2,hz,by simp[HT.out]⟩
 clear hM hS hC hG m1' HS HA hg2 hx2
 go_wp2
 go_loopw [44] (fun t wr=>∃ k:Nat,k<=ys.length/\t=I N k/\Mm wr p q g s zs (my ys k)/\w.grownBy wr Z) (fun t _=>ys.length-(intOf t).toNat)
 case atStart=>exact⟨0,Nat.zero_le _,rfl,hI,hg3⟩
 case round=>
  clear hI hg3
  obtain⟨k,hk,rfl,hI,hgr⟩:=hrel
  have c0:=hI.c0
  by_cases hlt:k<ys.length
  ·obtain⟨b',off,rfl,hcell⟩:=(hb.grown hgr).here hlt
   have hSt:=y9 hI.cel k (by rw[jB ys k hk];exact hlt) (aG ys k) (hy.at_ k)
   rw[qJ ys k hlt] at hSt
   have HSt:=F hSt
   clear hSt
   go_wp2_with fail
   refine HSt.out.mono ?_
   rintro e w3 ⟨rfl,hc3,ho3⟩
   have hI3:Mm w3 p q g s zs (my ys (k+1)):=hI.only hc3 ho3 (by rw[jB ys k hk,jB ys (k+1) (by omega)])
   have hg4:w.grownBy w3 Z:=aQ hgr ho3 (.inr fun y e=>by injection e with e;omega)
   clear HSt hI hgr hc3 ho3 hcell
   go_wp2
   go_roundw
   case rel=>exact⟨k+1,by omega,by go_num,hI3,hg4⟩
   case measure=>simp[intOf];omega
  ·obtain rfl:k=ys.length:=by omega
   rw[qK] at hI
   go_wp2
   go_ret2
   exact⟨p,q,g,s,rfl,hI,⟨hps,hq,hg,hs⟩,hgr⟩
end
def bQ (xs:List Int)(pc:Int):List Value:=xs.map (Value.int .u32)++[I N pc]
def cv (xs:List Int)(pc:Int):Value:=.agg (bQ xs pc).toArray
theorem A1 {xs:List Int}{pc:Int}(h:xs.length=8){k:Nat}(hk:k<8):(bQ xs pc).toArray[k]?=S (I O (aG xs k)):=by
 rw[List.getElem?_toArray,bQ,List.getElem?_append_left (by simp;omega),List.getElem?_map,jK (by omega)]
 rfl
theorem AZ {xs:List Int}{pc:Int}(h:xs.length=8):(bQ xs pc).toArray[8]?=S (I N pc):=by
 rw[List.getElem?_toArray,bQ,List.getElem?_append_right (by simp;omega)]
 simp[h]
theorem yo {xs:List Int}{pc:Int}(h:xs.length=8)(k:Nat)(hk:k<8)(v:Int):(bQ xs pc).toArray.setIfInBounds k (I O v)=(bQ (xs.set k v) pc).toArray:=by
 rw[List.setIfInBounds_toArray,bQ,bQ,List.set_append_left _ _ (by simp;omega),List.map_set]
def Cb (w:World)(g:Nat)(xs:List Int)(pc:Int):Prop:=Bk w g 108 (bQ xs pc).toArray
theorem Cb.at_ {w:World}{g:Nat}{xs:List Int}{pc:Int}(h:Cb w g xs pc)(h8:xs.length=8){k:Nat}(hk:k<8):w.cell? ⟨g,k,Z⟩=S (I O (aG xs k)):=(Bk.cell h k).trans (A1 h8 hk)
theorem Cb.pc {w:World}{g:Nat}{xs:List Int}{pc:Int}(h:Cb w g xs pc)(h8:xs.length=8):w.cell? ⟨g,8,Z⟩=S (I N pc):=(Bk.cell h 8).trans (AZ h8)
theorem Cb.cells {w:World}{g:Nat}{r0 r1 r2 r3 r4 r5 r6 r7 pc:Int}(h:Cb w g [r0,r1,r2,r3,r4,r5,r6,r7] pc):
 w.cell? ⟨g,0,Z⟩=S (I O r0)/\w.cell? ⟨g,1,Z⟩=S (I O r1)/\w.cell? ⟨g,2,Z⟩=S (I O r2)/\w.cell? ⟨g,3,Z⟩=S (I O r3)/\
 w.cell? ⟨g,4,Z⟩=S (I O r4)/\w.cell? ⟨g,5,Z⟩=S (I O r5)/\w.cell? ⟨g,6,Z⟩=S (I O r6)/\w.cell? ⟨g,7,Z⟩=S (I O r7)/\w.cell? ⟨g,8,Z⟩=S (I N pc):=
 ⟨Bk.cell h 0,Bk.cell h 1,Bk.cell h 2,Bk.cell h 3,Bk.cell h 4,Bk.cell h 5,Bk.cell h 6,Bk.cell h 7,Bk.cell h 8⟩
theorem Cb.below {w w':World}{g:Nat}{xs:List Int}{pc:Int}(h:Cb w g xs pc)(hb:Below w.heap.size w w'):Cb w' g xs pc:=(hb.block g (Bk.lt h)).trans h
theorem Cb.set {w:World}{g:Nat}{xs:List Int}{pc:Int}(h:Cb w g xs pc)(h8:xs.length=8){k:Nat}(hk:k<8)(v:Int):Cb (w.setCell ⟨g,k,Z⟩ (I O v)) g (xs.set k v) pc:=by
 unfold Cb
 rw[<-yo h8 k hk v]
 exact Bk.put h k _
theorem EE (n:Int)(h:0<=n/\n<=7):bits .and .i64 n 7=n:=by
 have:n=0\/n=1\/n=2\/n=3\/n=4\/n=5\/n=6\/n=7:=by omega
 rcases this with rfl|rfl|rfl|rfl|rfl|rfl|rfl|rfl <;> rfl
theorem kB (n:Int)(h:0<=n/\n<=7)(w:World):Calls Tryz.prog 132 #[I N n] w fun e w'=>e=.returned (I N n)/\w=w':=by
 go_enter Tryz.func132,Tryz.ntmps132
 go_wp2
 go_ret
 exact⟨br (by first | exact EE n h | rw[EE n h]),rfl⟩
theorem Fp (c:fC)(v:Value)(w:World)(hv:Pv w v c)(p:Int)(i:aJ)(b:Bool)
 (h:(b=T/\i=aJ.zero/\(p<0\/c.l.length<=p))\/(b=U/\∃ k:Nat,p=k/\c.l[k]?=S i)):
 Calls Tryz.prog 84 #[v,I N p] w fun e w'=>e=.returned (.tuple #[iv i,.bool b])/\Below w.heap.size w w':=by
 obtain⟨a,ca,rfl,hc1,hc2,_,ha⟩:=hv
 unfold iv
 rcases h with ⟨rfl,rfl,hp⟩ | ⟨rfl,k,rfl,hk⟩
 ·unfold aJ.zero
  by_cases h0:p<0
  ·go_enter Tryz.func84,Tryz.ntmps84
   go_wp2
   refine bodyPost_ret (v:=.tuple #[.agg #[I N 0,I N 0,I N 0,I N 0,I N 0,I N 0,I O 0,I N 0],.bool T]) (by simp[results,Tryz.results84,go_sem]) rfl ⟨rfl,?_⟩
   exact((D _ _).alloc (C _) _).alloc (by simp) _
  ·have h1:p>=c.l.length:=by omega
   go_enter Tryz.func84,Tryz.ntmps84
   go_wp2
   refine bodyPost_ret (v:=.tuple #[.agg #[I N 0,I N 0,I N 0,I N 0,I N 0,I N 0,I O 0,I N 0],.bool T]) (by simp[results,Tryz.results84,go_sem]) rfl ⟨rfl,?_⟩
   exact((D _ _).alloc (C _) _).alloc (by simp) _
 ·obtain⟨op,d,s,t,u,a',k',pl⟩:=i
  obtain⟨g,off,rfl,hgl,e0,e1,e2,e3,e4,e5,e6,e7⟩:=ha.at_ hk
  have hlt:=(List.getElem?_eq_some_iff.1 hk).1
  have hki:(k:Int)<c.l.length:=by omega
  have hki2:decide ((k:Int)>=c.l.length)=T:=by simpa using hlt
  have hng:g≠w.heap.size:=Nat.ne_of_lt hgl
  simp only at e0 e1 e2 e3 e4 e5 e6 e7
  go_enter Tryz.func84,Tryz.ntmps84
  go_wp2
  refine bodyPost_ret (v:=.tuple #[.agg #[I N op,I N d,I N s,I N t,I N u,I N a',I O k',I N pl],.bool U]) (by simp[results,Tryz.results84,go_sem]) rfl ⟨rfl,?_⟩
  exact((D _ _).alloc (C _) _).alloc (by simp) _
theorem Cb.made (w:World)(xs:List Int)(pc:Int):Cb (w.alloc (G (bQ xs pc).toArray 108)) w.heap.size xs pc:=Bk.made _ _ _
theorem C0 (xs:List Int)(pc:Int)(i:aJ)(self:Int)(hx:bg xs)(hi:Bm i)(hm:cW i.op=T)(h0:0<=self)(h1:self<4294967296)(w:World):
 Calls Tryz.prog 131 #[cv xs pc,iv i,I N self] w fun e w'=>e=.returned (.tuple #[I O ((fF xs i self).getD 0),.bool (fF xs i self).isSome])/\Below w.heap.size w w':=by
 obtain⟨h8,hxu⟩:=hx
 have hs:=hi.s
 have ht:=hi.t
 have hk:=hi.k
 have hsh:=hi.sh
 have hop:1<=i.op/\i.op<=13:=by
  rcases hi.op with h | h
  ·exact h
  ·exfalso;simp[cW] at hm;omega
 clear hi hm
 obtain⟨op,d,s,t,u,a',k,pl⟩:=i
 simp only at hs ht hk hsh hop
 obtain⟨sn,rfl⟩:∃ n:Nat,s=n:=⟨s.toNat,by omega⟩
 obtain⟨tn,rfl⟩:∃ n:Nat,t=n:=⟨t.toNat,by omega⟩
 have hs8:sn<8:=by omega
 have ht8:tn<8:=by omega
 have HR:Hid (∀ n:Int,0<=n/\n<=7->∀ W,Calls Tryz.prog 132 #[I N n] W fun e w'=>e=.returned (I N n)/\w'=W):=F fun n h W=>(kB n h W).mono fun _ _ ⟨h1,h2⟩=>⟨h1,h2.symm⟩
 have HS:=F (HR.out sn (by omega))
 have HT:=F (HR.out tn (by omega))
 clear HR
 have hA:=hxu.at_ sn
 have hB:=hxu.at_ tn
 obtain⟨r0,r1,r2,r3,r4,r5,r6,r7,rfl⟩:=aC h8
 have q0:=(Cb.made w [r0,r1,r2,r3,r4,r5,r6,r7] pc).below (Below.alloc (o:=G #[I N op,I N d,I N sn,I N tn,I N u,I N a',I O k,I N pl] 119) (D _ _) (C _))
 have q1:=Ib.made (w.alloc (G (bQ [r0,r1,r2,r3,r4,r5,r6,r7] pc).toArray 108)) op d sn tn u a' k pl
 have b0:Below w.heap.size w ((w.alloc (G (bQ [r0,r1,r2,r3,r4,r5,r6,r7] pc).toArray 108)).alloc (G #[I N op,I N d,I N sn,I N tn,I N u,I N a',I O k,I N pl] 119)):=((D _ _).alloc (C _) _).alloc (by simp) _
 rw[World.size_alloc] at q1
 unfold cv iv
 simp only[bQ,List.map_cons,List.map_nil,List.cons_append,List.nil_append] at q0 q1 b0 ⊢
 have HV:Hid (fF [r0,r1,r2,r3,r4,r5,r6,r7] ⟨op,d,sn,tn,u,a',k,pl⟩ self=wH op (aG [r0,r1,r2,r3,r4,r5,r6,r7] sn) (aG [r0,r1,r2,r3,r4,r5,r6,r7] tn) k self):=F (by simp[fF])
 generalize fF [r0,r1,r2,r3,r4,r5,r6,r7] ⟨op,d,sn,tn,u,a',k,pl⟩ self=V at *
 go_enter Tryz.func131,Tryz.ntmps131
 go_upto_region 1 with fail
 generalize (w.alloc (G #[I O r0,I O r1,I O r2,I O r3,I O r4,I O r5,I O r6,I O r7,I N pc] 108)).alloc (G #[I N op,I N d,I N sn,I N tn,I N u,I N a',I O k,I N pl] 119)=x at *
 have cA:=q0.at_ rfl hs8
 have cB:=q0.at_ rfl ht8
 obtain⟨e0,e1,e2,e3,e4,e5,e6,e7⟩:=q1.cells
 simp only at e0 e1 e2 e3 e4 e5 e6 e7
 generalize aG [r0,r1,r2,r3,r4,r5,r6,r7] sn=A at *
 generalize aG [r0,r1,r2,r3,r4,r5,r6,r7] tn=B at *
 clear q0 q1 h8 hxu
 go_quiet ((go_at_call 132;first | (with_reducible exact Calls.quiet_of_same (HS.out _)) | (with_reducible exact Calls.quiet_of_same (HT.out _))))
 have ev:∀ (v:Option Int) (x:Int) (b:Bool),V=v->v.getD 0=x->v.isSome=b->(Ending.returned (.tuple #[I O x,.bool b])=.returned (.tuple #[I O (V.getD 0),.bool V.isSome])):=by
  rintro v x b rfl rfl rfl;rfl
 have HE:=F ev
 have bq:=Go.below_drewN b0 nq
 clear ev b0
 have hop2:op=1\/op=2\/op=3\/op=4\/op=5\/op=6\/op=7\/op=8\/op=9\/op=10\/op=11\/op=12\/op=13:=by omega
 clear hop
 rcases hop2 with rfl|rfl|rfl|rfl|rfl|rfl|rfl|rfl|rfl|rfl|rfl|rfl|rfl
 ·go_wp2
  go_ret2
  exact⟨HE.out _ _ _ HV.out rfl rfl,bq⟩
 ·go_wp2
  go_ret2
  exact⟨HE.out _ _ _ HV.out rfl rfl,bq⟩
 ·go_wp2
  go_ret2
  exact⟨HE.out _ _ _ HV.out (by first | rfl | simp[wH,IntKind.wrap_u32]) rfl,bq⟩
 ·go_wp2
  go_ret2
  exact⟨HE.out _ _ _ HV.out (by first | rfl | simp[wH,oR,u32_and A k hA.1 hA.2 hk.1 hk.2]) rfl,bq⟩
 ·have hk31:=hsh (.inl rfl)
  have hmin:min k.toNat 32=k.toNat:=by omega
  go_wp2
  go_ret2
  exact⟨HE.out _ _ _ HV.out rfl rfl,bq⟩
 ·have hk31:=hsh (.inr rfl)
  have hmin:min k.toNat 32=k.toNat:=by omega
  go_wp2
  go_ret2
  exact⟨HE.out _ _ _ HV.out rfl rfl,bq⟩
 ·go_wp2
  go_ret2
  exact⟨HE.out _ _ _ HV.out (by first | rfl | simp[wH,BR,u32_or A B hA.1 hA.2 hB.1 hB.2]) rfl,bq⟩
 ·go_wp2
  go_ret2
  exact⟨HE.out _ _ _ HV.out rfl rfl,bq⟩
 ·go_wp2
  go_ret2
  exact⟨HE.out _ _ _ HV.out rfl rfl,bq⟩
 ·go_wp2
  go_ret2
  exact⟨HE.out _ _ _ HV.out rfl rfl,bq⟩
 ·go_wp2
  go_ret2
  exact⟨HE.out _ _ _ HV.out (by first | rfl | (simp[wH,IntKind.wrap_u32];omega)) rfl,bq⟩
 ·go_wp2
  go_ret2
  exact⟨HE.out _ _ _ HV.out rfl rfl,bq⟩
 ·go_wp2
  go_ret2
  exact⟨HE.out _ _ _ HV.out rfl rfl,bq⟩
theorem pd (xs:List Int)(pc:Int)(i:aJ)(hx:bg xs)(hi:Bm i)(hm:cW i.op=T)(p0:-9223372036854775808<=pc)(p1:pc<=1099511627776)(w:World):
 Calls Tryz.prog 130 #[cv xs pc,iv i] w fun e w'=>e=.returned (I N (ib xs pc i))/\Below w.heap.size w w':=by
 obtain⟨h8,hxu⟩:=hx
 have hs:=hi.s
 have ht:=hi.t
 have hk:=hi.k
 have hsh:=hi.sh
 have hop:1<=i.op/\i.op<=13:=by
  rcases hi.op with h | h
  ·exact h
  ·exfalso;simp[cW] at hm;omega
 clear hi hm
 obtain⟨op,d,s,t,u,a',k,pl⟩:=i
 simp only at hs ht hk hsh hop
 obtain⟨sn,rfl⟩:∃ n:Nat,s=n:=⟨s.toNat,by omega⟩
 obtain⟨tn,rfl⟩:∃ n:Nat,t=n:=⟨t.toNat,by omega⟩
 have hs8:sn<8:=by omega
 have ht8:tn<8:=by omega
 have HR:Hid (∀ n:Int,0<=n/\n<=7->∀ W,Calls Tryz.prog 132 #[I N n] W fun e w'=>e=.returned (I N n)/\w'=W):=F fun n h W=>(kB n h W).mono fun _ _ ⟨h1,h2⟩=>⟨h1,h2.symm⟩
 have HS:=F (HR.out sn (by omega))
 have HT:=F (HR.out tn (by omega))
 clear HR
 have hA:=hxu.at_ sn
 have hB:=hxu.at_ tn
 obtain⟨r0,r1,r2,r3,r4,r5,r6,r7,rfl⟩:=aC h8
 have q0:=(Cb.made w [r0,r1,r2,r3,r4,r5,r6,r7] pc).below (Below.alloc (o:=G #[I N op,I N d,I N sn,I N tn,I N u,I N a',I O k,I N pl] 119) (D _ _) (C _))
 have q1:=Ib.made (w.alloc (G (bQ [r0,r1,r2,r3,r4,r5,r6,r7] pc).toArray 108)) op d sn tn u a' k pl
 have b0:Below w.heap.size w ((w.alloc (G (bQ [r0,r1,r2,r3,r4,r5,r6,r7] pc).toArray 108)).alloc (G #[I N op,I N d,I N sn,I N tn,I N u,I N a',I O k,I N pl] 119)):=((D _ _).alloc (C _) _).alloc (by simp) _
 rw[World.size_alloc] at q1
 unfold cv iv
 simp only[bQ,List.map_cons,List.map_nil,List.cons_append,List.nil_append] at q0 q1 b0 ⊢
 have HV:Hid (ib [r0,r1,r2,r3,r4,r5,r6,r7] pc ⟨op,d,sn,tn,u,a',k,pl⟩=gI op (aG [r0,r1,r2,r3,r4,r5,r6,r7] sn) (aG [r0,r1,r2,r3,r4,r5,r6,r7] tn) pl pc):=F (by simp[ib])
 generalize ib [r0,r1,r2,r3,r4,r5,r6,r7] pc ⟨op,d,sn,tn,u,a',k,pl⟩=V at *
 have hmx:(pc==9223372036854775807)=T:=by simp;omega
 go_enter Tryz.func130,Tryz.ntmps130
 go_upto_region 1 with fail
 generalize (w.alloc (G #[I O r0,I O r1,I O r2,I O r3,I O r4,I O r5,I O r6,I O r7,I N pc] 108)).alloc (G #[I N op,I N d,I N sn,I N tn,I N u,I N a',I O k,I N pl] 119)=x at *
 have cA:=q0.at_ rfl hs8
 have cB:=q0.at_ rfl ht8
 have cp:x.cell? ⟨w.heap.size,8,Z⟩=S (I N pc):=q0.pc rfl
 obtain⟨e0,e1,e2,e3,e4,e5,e6,e7⟩:=q1.cells
 simp only at e0 e1 e2 e3 e4 e5 e6 e7
 generalize aG [r0,r1,r2,r3,r4,r5,r6,r7] sn=A at *
 generalize aG [r0,r1,r2,r3,r4,r5,r6,r7] tn=B at *
 clear q0 q1 h8 hxu
 have hop2:op=1\/op=2\/op=3\/op=4\/op=5\/op=6\/op=7\/op=8\/op=9\/op=10\/op=11\/op=12\/op=13:=by omega
 clear hop
 by_cases hAB:A=B
 ·subst hAB
  go_quiet ((go_at_call 132;first | (with_reducible exact Calls.quiet_of_same (HS.out _)) | (with_reducible exact Calls.quiet_of_same (HT.out _))))
  have bq:=Go.below_drewN b0 nq
  clear b0
  rcases hop2 with rfl|rfl|rfl|rfl|rfl|rfl|rfl|rfl|rfl|rfl|rfl|rfl|rfl
  all_goals
   go_wp2
   go_ret
   exact⟨br (by rw[HV.out];first | rfl | simp[gI] | (simp[gI];omega)),bq⟩
 ·have hne:(A==B)=T:=by simpa using hAB
  go_quiet ((go_at_call 132;first | (with_reducible exact Calls.quiet_of_same (HS.out _)) | (with_reducible exact Calls.quiet_of_same (HT.out _))))
  have bq:=Go.below_drewN b0 nq
  have HN:=F hAB
  clear b0 hAB
  rcases hop2 with rfl|rfl|rfl|rfl|rfl|rfl|rfl|rfl|rfl|rfl|rfl|rfl|rfl
  all_goals
   go_wp2
   go_ret
   exact⟨br (by rw[HV.out];have:=HN.out;first | rfl | simp[gI,this] | (simp[gI,this];omega)),bq⟩
end
