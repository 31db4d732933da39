import Derived.Test.YthdgehcghklflaaGreatDoorRMem
import Derived.Test.YthdgehcghklflaaGreatDoorRInstA
import Derived.Test.YthdgehcghklflaaGreatDoorRPool
import Derived.Test.YthdgehcghklflaaGreatDoorRWdA
import Derived.Deep.RegionLaw
import Derived.ArgAppend
import Derived.Deep.WholeRow
import Derived.Laws.Tables
import Derived.Laws.BitsAllLaws
import Derived.Test.YthdgehcghklflaaGreatDoorRows
import Derived.RegionTactic
import Derived.Deep.RegionLawGrows
import Derived.Deep.RegionHeld3
import Derived.Deep.Onto
import Derived.Lib.SmallJoins
import Derived.Laws.LoneSync
import Derived.Laws.Pointers
set_option linter.unusedVariables false
namespace Go.Proofs.YthdgehcghklflaaGreatDoor
open Go.ChangeShapes Go.WideShapes Go.ChangeAt Go.RowKit
structure Prg where
 l:List Ins
 lo:Int
 un:Int
def Prg.zero:Prg:=⟨[],0,0⟩
def prgB (c:Prg):Bool:=decide (1≤c.l.length) && (decide (c.l.length≤64) && (decide (0≤c.lo) && (decide (0≤c.un) && (decide (c.lo < c.l.length) && (decide (c.un < c.l.length) && c.l.all fun i=>rightB i c.l.length)))))
theorem prgB_is (c:Prg)(h1:1≤c.l.length)(h2:c.l.length≤64):prgB c=((c.l.all fun i=>rightB i c.l.length) && ((decide (0≤c.lo) && decide (c.lo < c.l.length)) && (decide (0≤c.un) && decide (c.un < c.l.length)))):=by
 unfold prgB
 simp only[h1,h2,decide_true,Bool.true_and]
 generalize (c.l.all fun i=>rightB i c.l.length)=x
 generalize decide (0≤c.lo)=a
 generalize decide (0≤c.un)=b
 generalize decide (c.lo < c.l.length)=d
 generalize decide (c.un < c.l.length)=e
 cases a <;> cases b <;> cases d <;> cases e <;> cases x <;> rfl
theorem prgB_few {c:Prg}(h:¬ (1≤c.l.length∧c.l.length≤64)):prgB c=false:=by
 unfold prgB
 by_cases h1:1≤c.l.length
 ·have h2:¬ c.l.length≤64:=fun h2=>h ⟨h1,h2⟩
  simp[h2]
 ·simp[h1]
def insC (i:Ins):List Value:=[.int .i64 i.op,.int .i64 i.d,.int .i64 i.s,.int .i64 i.t,.int .i64 i.u,.int .i64 i.a,.int .u32 i.k,.int .i64 i.pl]
theorem insC_len (i:Ins):(insC i).length=8:=rfl
def progC (l:List Ins):List Value:=l.flatMap insC
theorem progC_snoc (l:List Ins)(i:Ins):progC (l++[i])=progC l++insC i:=by simp[progC]
theorem insC_one (i:Ins):∀ u∈insC i,u.oneCell'=true:=by
 intro u hu
 simp only[insC,List.mem_cons,List.not_mem_nil,or_false] at hu
 rcases hu with rfl | rfl | rfl | rfl | rfl | rfl | rfl | rfl <;> rfl
theorem insInfo:(Tryz.prog.info? 119).map (fun i=>(i.zero,i.size,i.bytes))=some (some (.agg #[.int .i64 0,.int .i64 0,.int .i64 0,.int .i64 0,.int .i64 0,.int .i64 0,.int .u32 0,.int .i64 0]),8,64):=by kernel_rfl
theorem flat_at {α:Type}(f:α→List Value)(n:Nat)(hf:∀ x,(f x).length=n):∀ (l:List α) (k j:Nat) (x:α),l[k]?=some x→j < n→(l.flatMap f)[k * n+j]?=(f x)[j]?
 | [],k,j,x,h,_=>by simp at h
 | y :: l,0,j,x,h,hj=>by
  simp at h
  subst h
  simp[List.getElem?_append,hf,hj]
 | y :: l,k+1,j,x,h,hj=>by
  have ih:=flat_at f n hf l k j x (by simpa using h) hj
  rw[←ih]
  have e:(k+1) * n+j=n+(k * n+j):=by rw[Nat.add_mul];omega
  rw[e,List.flatMap_cons,List.getElem?_append_right (by rw[hf];omega),hf]
  congr 1
  omega
theorem progC_at {l:List Ins}{k:Nat}{i:Ins}(h:l[k]?=some i){j:Nat}(hj:j < 8):(progC l)[k * 8+j]?=(insC i)[j]?:=flat_at insC 8 insC_len l k j i h hj
def Pg (w:World)(base:Nat)(v:Value)(c:Prg):Prop:=∃ sl,v=.agg #[sl,.int .i64 c.lo,.int .i64 c.un]∧w.ownsRow base 119 8 sl c.l.length (progC c.l)
theorem run_eqI (i j:Ins)(w:World):(binOp .eql 119 (iv i) (iv j)).run Tryz.prog w=.ok (.bool (eqI i j)) w:=by
 unfold iv
 have hu:=Tryz.underlying119
 go_simp
 unfold eqI
 repeat' split
 all_goals simp[*]
def Ib (w:World)(g:Nat)(i:Ins):Prop:=Bk w g 119 #[.int .i64 i.op,.int .i64 i.d,.int .i64 i.s,.int .i64 i.t,.int .i64 i.u,.int .i64 i.a,.int .u32 i.k,.int .i64 i.pl]
theorem Ib.cells {w:World}{g:Nat}{i:Ins}(h:Ib w g i):
 w.cell? ⟨g,0,none⟩=some (.int .i64 i.op)∧w.cell? ⟨g,1,none⟩=some (.int .i64 i.d)∧w.cell? ⟨g,2,none⟩=some (.int .i64 i.s)∧w.cell? ⟨g,3,none⟩=some (.int .i64 i.t)∧
 w.cell? ⟨g,4,none⟩=some (.int .i64 i.u)∧w.cell? ⟨g,5,none⟩=some (.int .i64 i.a)∧w.cell? ⟨g,6,none⟩=some (.int .u32 i.k)∧w.cell? ⟨g,7,none⟩=some (.int .i64 i.pl):=
 ⟨Bk.cell h 0,Bk.cell h 1,Bk.cell h 2,Bk.cell h 3,Bk.cell h 4,Bk.cell h 5,Bk.cell h 6,Bk.cell h 7⟩
theorem Ib.below {w w':World}{g:Nat}{i:Ins}(h:Ib w g i)(hb:Below w.heap.size w w'):Ib w' g i:=(hb.block g (Bk.lt h)).trans h
theorem Ib.grw {w:World}{b:Nat}{i:Ins}(h:Ib w b i):
 (∀ g:Grw w,g.x.cell? ⟨b,0,none⟩=some (.int .i64 i.op))∧(∀ g:Grw w,g.x.cell? ⟨b,1,none⟩=some (.int .i64 i.d))∧(∀ g:Grw w,g.x.cell? ⟨b,2,none⟩=some (.int .i64 i.s))∧(∀ g:Grw w,g.x.cell? ⟨b,3,none⟩=some (.int .i64 i.t))∧
 (∀ g:Grw w,g.x.cell? ⟨b,4,none⟩=some (.int .i64 i.u))∧(∀ g:Grw w,g.x.cell? ⟨b,5,none⟩=some (.int .i64 i.a))∧(∀ g:Grw w,g.x.cell? ⟨b,6,none⟩=some (.int .u32 i.k))∧(∀ g:Grw w,g.x.cell? ⟨b,7,none⟩=some (.int .i64 i.pl)):=by
 obtain⟨c0,c1,c2,c3,c4,c5,c6,c7⟩:=h.cells
 exact⟨fun g=>g.cell c0,fun g=>g.cell c1,fun g=>g.cell c2,fun g=>g.cell c3,fun g=>g.cell c4,fun g=>g.cell c5,fun g=>g.cell c6,fun g=>g.cell c7⟩
theorem Ib.made (w:World)(op d s t u a k pl:Int):Ib (w.alloc (.cells #[.int .i64 op,.int .i64 d,.int .i64 s,.int .i64 t,.int .i64 u,.int .i64 a,.int .u32 k,.int .i64 pl] 119)) w.heap.size ⟨op,d,s,t,u,a,k,pl⟩:=Bk.made _ _ _
theorem boxed {w x:World}{op d s t u a k pl:Int}(h:Below (w.alloc (.cells #[.int .i64 op,.int .i64 d,.int .i64 s,.int .i64 t,.int .i64 u,.int .i64 a,.int .u32 k,.int .i64 pl] 119)).heap.size (w.alloc (.cells #[.int .i64 op,.int .i64 d,.int .i64 s,.int .i64 t,.int .i64 u,.int .i64 a,.int .u32 k,.int .i64 pl] 119)) x):Ib x w.heap.size ⟨op,d,s,t,u,a,k,pl⟩∧Below w.heap.size w x:=
 ⟨(Ib.made w op d s t u a k pl).below h,((Below.refl _ _).alloc (Nat.le_refl _) _).trans (h.mono (by simp))⟩
def put8 (y:World)(g:Nat)(i:Ins):World:=((((((((y.setCell ⟨g,0,none⟩ (.int .i64 i.op)).setCell ⟨g,1,none⟩ (.int .i64 i.d)).setCell ⟨g,2,none⟩ (.int .i64 i.s)).setCell ⟨g,3,none⟩ (.int .i64 i.t)).setCell ⟨g,4,none⟩ (.int .i64 i.u)).setCell ⟨g,5,none⟩ (.int .i64 i.a)).setCell ⟨g,6,none⟩ (.int .u32 i.k)).setCell ⟨g,7,none⟩ (.int .i64 i.pl))
theorem put8_ib {y:World}{g:Nat}{i j:Ins}(h:Ib y g j):Ib (put8 y g i) g i:=by
 have h8:=(((((((Bk.put h 0 (.int .i64 i.op)).put 1 (.int .i64 i.d)).put 2 (.int .i64 i.s)).put 3 (.int .i64 i.t)).put 4 (.int .i64 i.u)).put 5 (.int .i64 i.a)).put 6 (.int .u32 i.k)).put 7 (.int .i64 i.pl)
 unfold put8 Ib
 simpa only[List.setIfInBounds_toArray,List.set_cons_zero,List.set_cons_succ] using h8
theorem put8_off {y:World}{g b:Nat}{i:Ins}{t:TypeId}{cs:Array Value}(h:Bk y b t cs)(hne:b≠g):Bk (put8 y g i) b t cs:=
 (((((((h.off hne _).off hne _).off hne _).off hne _).off hne _).off hne _).off hne _).off hne _
theorem put8_below {B:Nat}{w y:World}{g:Nat}{i:Ins}(h:Below B w y)(hg:B≤g):Below B w (put8 y g i):=
 (((((((h.setCell hg _).setCell hg _).setCell hg _).setCell hg _).setCell hg _).setCell hg _).setCell hg _).setCell hg _
theorem clr_snoc (i:Ins)(l:List UInt8)(n:Nat)(h:n < l.length):clr i (l.take (n+1))=setI (clr i (l.take n)) (l.getD n 0).toNat 0:=by
 unfold clr
 rw[List.take_succ_eq_append_getElem h,List.foldl_append]
 simp[h]
theorem all_snoc (f:UInt8→Bool)(l:List UInt8)(n:Nat)(h:n < l.length):(l.take (n+1)).all f=((l.take n).all f && f (l.getD n 0)):=by
 rw[List.take_succ_eq_append_getElem h,List.all_append]
 simp[h]
theorem all_no (f:UInt8→Bool)(l:List UInt8)(n:Nat)(h:n < l.length)(hf:f (l.getD n 0)=false):l.all f=false:=by
 rw[Bool.eq_false_iff]
 intro ha
 have:=List.all_eq_true.1 ha (l.getD n 0) (by simp[h])
 rw[hf] at this
 cases this
structure RightAt (w:World)(i:Ins)(hs:List UInt8)(p:Int)(n:Nat)(x:World):Prop where
 below:Below w.heap.size w x
 box:Ib x w.heap.size i
 left:Ib x (w.heap.size+1) (clr i (hs.take n))
 ok:(hs.take n).all (fun c=>inB i p c.toNat)=true
set_option maxHeartbeats 1000000 in
theorem cRight (i:Ins)(p:Int)(k0:0≤i.k)(k1:i.k < 4294967296)(w:World):
 Calls Tryz.prog 70 #[iv i,.int .i64 p] w fun e w'=>e=.returned (.bool (rightB i p))∧Below w.heap.size w w':=by
 have hL:=hs_ltr i.op
 have h6:=hs_len i.op
 have ER:rightB i p=(!(hsL i.op).isEmpty && ((hsL i.op).all (fun c=>inB i p c.toNat) && isZ (clr i (hsL i.op)))):=rfl
 have H0:=Lib.hid (cForm i.op)
 generalize hsL i.op=hs at hL h6 ER H0
 have HL:=Lib.hid hL
 have HR:=Lib.hid ER
 clear hL ER
 obtain⟨op,d,s,t,u,a,k,pl⟩:=i
 simp only at k0 k1 H0
 unfold iv
 go_enter Tryz.func70,Tryz.ntmps70
 go_wp2_with fail
 refine(H0.out _).mono ?_
 rintro e w' ⟨rfl,rfl⟩
 unfold bs
 by_cases he:hs=[]
 ·subst he
  go_wp2
  go_ret
  exact⟨ret_bool HR.out.symm,(Below.refl _ _).alloc (Nat.le_refl _) _⟩
 have hne:hs.isEmpty=false:=by simpa using he
 go_wp2
 go_loopw [24] (fun v x=>∃ n:Nat,n≤hs.length∧v=.int .i64 n∧RightAt w ⟨op,d,s,t,u,a,k,pl⟩ hs p n x) (fun v _=>hs.length - (intOf v).toNat)
 case atStart=>
  refine⟨0,Nat.zero_le _,rfl,?_,?_,?_,rfl⟩
  ·exact(((Below.refl _ _).alloc (Nat.le_refl _) _).alloc (by simp) _)
  ·exact(Bk.made _ _ _).alloc _
  ·have:=Bk.made (w.alloc (.cells #[.int .i64 op,.int .i64 d,.int .i64 s,.int .i64 t,.int .i64 u,.int .i64 a,.int .u32 k,.int .i64 pl] 119)) 119 #[.int .i64 0,.int .i64 d,.int .i64 s,.int .i64 t,.int .i64 u,.int .i64 a,.int .u32 k,.int .i64 pl]
   rw[show (w.alloc (.cells #[.int .i64 op,.int .i64 d,.int .i64 s,.int .i64 t,.int .i64 u,.int .i64 a,.int .u32 k,.int .i64 pl] 119)).heap.size=w.heap.size+1 by simp] at this
   exact this
 case round=>
  obtain⟨n,hn,rfl,R⟩:=hrel
  obtain⟨hb,hI,hZ,hok⟩:=R
  generalize wr=x at *
  have hlt1:w.heap.size < x.heap.size:=Bk.lt hI
  have hlt2:w.heap.size+1 < x.heap.size:=Bk.lt hZ
  by_cases hlt:n < hs.length
  ·have hidx:=run_ltr hs n hlt
   have hc:Ltr ((hs.getD n 0).toNat:Int):=HL.out _ (by simp[hlt])
   generalize hcc:((hs.getD n 0).toNat:Int)=c at hidx hc
   obtain⟨g0,-⟩:=hI.grw
   have HC:=Lib.hid hcc
   clear hcc
   go_wp2_with fail
   refine wp_region_grow (by kernel_rfl) (by kernel_rfl) ?_
   repeat (go_big_quiet_step ((go_at_call 110;exact grw_same (cBounds _ _ _ hc _))))
   refine wpQuiet_nil ?_
   rintro y ⟨⟨_,hy⟩,rfl⟩
   replace hb:=hb.trans (hy.mono (Nat.le_of_lt hlt1))
   replace hI:=hI.below hy
   replace hZ:=hZ.below hy
   replace hlt1:w.heap.size < y.heap.size:=Bk.lt hI
   replace hlt2:w.heap.size+1 < y.heap.size:=Bk.lt hZ
   clear g0 hy x
   obtain⟨g0,g1,g2,g3,g4,g5,g6,g7⟩:=hI.grw
   simp only at g0 g1 g2 g3 g4 g5 g6 g7
   go_wp2_with fail
   refine wp_region_grow (by kernel_rfl) (by kernel_rfl) ?_
   repeat (go_big_quiet_step ((go_at_call 111;exact grw_call (cGet ⟨op,d,s,t,u,a,k,pl⟩ _ hc k0 k1 _))))
   refine wpQuiet_nil ?_
   rintro x ⟨⟨_,hx⟩,rfl⟩
   replace hb:=hb.trans (hx.mono (Nat.le_of_lt hlt1))
   replace hI:=hI.below hx
   replace hZ:=hZ.below hx
   replace hlt1:w.heap.size < x.heap.size:=Bk.lt hI
   replace hlt2:w.heap.size+1 < x.heap.size:=Bk.lt hZ
   clear g0 g1 g2 g3 g4 g5 g6 g7 hx y
   by_cases hlo:getI ⟨op,d,s,t,u,a,k,pl⟩ c < lowI op c
   ·go_wp2
    go_ret
    refine⟨ret_bool ?_,hb⟩
    rw[HR.out,all_no _ _ n hlt (by rw[HC.out];simp[inB];intro h;omega)];simp
   have hlo':decide (getI ⟨op,d,s,t,u,a,k,pl⟩ c < lowI op c)=false:=by simpa using hlo
   by_cases hhi:endI op c p≤getI ⟨op,d,s,t,u,a,k,pl⟩ c
   ·go_wp2
    go_ret
    refine⟨ret_bool ?_,hb⟩
    rw[HR.out,all_no _ _ n hlt (by rw[HC.out];simp[inB];intro h;omega)];simp
   have hhi':decide (getI ⟨op,d,s,t,u,a,k,pl⟩ c≥endI op c p)=false:=by simpa using hhi
   generalize hZZ:clr ⟨op,d,s,t,u,a,k,pl⟩ (hs.take n)=z at hZ
   have HZ:=Lib.hid hZZ
   clear hZZ
   obtain⟨zop,zd,zs,zt,zu,za,zk,zpl⟩:=z
   obtain⟨c0,c1,c2,c3,c4,c5,c6,c7⟩:=hZ.cells
   simp only at c0 c1 c2 c3 c4 c5 c6 c7
   go_wp2_with fail
   go_region_law (first | (go_simp;go_at_call 112;refine(cSet ⟨zop,zd,zs,zt,zu,za,zk,zpl⟩ _ 0 hc _).mono ?_;rintro e y ⟨rfl,hy⟩;replace hy:=below_of_drew hy;obtain⟨d0,d1,d2,d3,d4,d5,d6,d7⟩:=(hZ.below hy).cells;have hf:=Bk.free (hZ.below hy);generalize hz2:setI ⟨zop,zd,zs,zt,zu,za,zk,zpl⟩ c 0=z2;have HZ2:=Lib.hid hz2;clear hz2;obtain⟨yop,yd,ys,yt,yu,ya,yk,ypl⟩:=z2;unfold iv))
   all_goals
    generalize hv:((((((((y.setCell ⟨w.heap.size+1,0,none⟩ (.int .i64 yop)).setCell ⟨w.heap.size+1,1,none⟩ (.int .i64 yd)).setCell ⟨w.heap.size+1,2,none⟩ (.int .i64 ys)).setCell ⟨w.heap.size+1,3,none⟩ (.int .i64 yt)).setCell ⟨w.heap.size+1,4,none⟩ (.int .i64 yu)).setCell ⟨w.heap.size+1,5,none⟩ (.int .i64 ya)).setCell ⟨w.heap.size+1,6,none⟩ (.int .u32 yk)).setCell ⟨w.heap.size+1,7,none⟩ (.int .i64 ypl))=v
    have hv2:put8 y (w.heap.size+1) ⟨yop,yd,ys,yt,yu,ya,yk,ypl⟩=v:=hv
    clear hv
    have hA:=put8_ib (i:=⟨yop,yd,ys,yt,yu,ya,yk,ypl⟩) (hZ.below hy)
    have hB:=put8_off (i:=⟨yop,yd,ys,yt,yu,ya,yk,ypl⟩) (hI.below hy) (show w.heap.size≠w.heap.size+1 by omega)
    have hC:=put8_below (i:=⟨yop,yd,ys,yt,yu,ya,yk,ypl⟩) (hb.trans (hy.mono (Nat.le_of_lt hlt1))) (show w.heap.size≤w.heap.size+1 by omega)
    rw[hv2] at hA hB hC
    clear hv2 d0 d1 d2 d3 d4 d5 d6 d7 hf c0 c1 c2 c3 c4 c5 c6 c7 hidx
    have hn1:(n:Int)+1≤6:=by omega
    go_wp2
    go_roundw
    case rel=>
     refine⟨n+1,by omega,by go_num,hC,hB,?_,?_⟩
     ·rw[clr_snoc _ _ _ hlt,HZ.out,HC.out,HZ2.out];exact hA
     ·rw[all_snoc _ _ _ hlt,HC.out,hok];simp[inB];omega
    case measure=>simp[intOf];omega
  ·obtain rfl:n=hs.length:=by omega
   generalize hZZ:clr ⟨op,d,s,t,u,a,k,pl⟩ (hs.take hs.length)=z at hZ
   obtain⟨zop,zd,zs,zt,zu,za,zk,zpl⟩:=z
   obtain⟨c0,c1,c2,c3,c4,c5,c6,c7⟩:=hZ.cells
   simp only at c0 c1 c2 c3 c4 c5 c6 c7
   rw[List.take_length] at hZZ hok
   have HZ:=Lib.hid hZZ
   have HO:=Lib.hid hok
   clear hZZ hok
   have hq:=run_eqI ⟨zop,zd,zs,zt,zu,za,zk,zpl⟩ Ins.zero
   generalize hB:eqI ⟨zop,zd,zs,zt,zu,za,zk,zpl⟩ Ins.zero=B at hq
   have HB:=Lib.hid hB
   clear hB
   unfold iv Ins.zero at hq
   simp only at hq
   go_wp2
   go_ret
   refine⟨ret_bool ?_,hb⟩
   rw[HR.out,HO.out,HZ.out,isZ_eq,HB.out,hne];rfl
set_option maxRecDepth 100000
structure RM where
 fv:Value
 gv:Value
 ov:Value
 vs:Nat→Value
def RM.Has (R:RM)(n i:Nat):Prop:=R.fv.ownBlock=some i∨R.gv.ownBlock=some i∨R.ov.ownBlock=some i∨∃ t,t < n∧(R.vs t).ownBlock=some i
def ones (l:List Nat):List Int:=l.map fun(q:Nat)=>((q:Nat):Int)+1
structure Rf (w:World)(x n each:Nat)(R:RM)(free:Nat→List Nat)(gen out:List Int):Prop where
 ptr:Bk w x 160 #[.int .i64 each,R.fv,R.gv,R.ov]
 row:Vls 26 w R.fv ((List.range n).map R.vs)
 gens:Lst .i64 3 w R.gv gen
 outs:Lst .i64 3 w R.ov out
 frees:∀ t,t < n→Fs w (R.vs t) (ones (free t))
 go:∀ g,R.gv.ownBlock=some g→R.ov.ownBlock≠some g
 vg:∀ t g,t < n→(R.vs t).ownBlock=some g→R.gv.ownBlock≠some g
 vo:∀ t g,t < n→(R.vs t).ownBlock=some g→R.ov.ownBlock≠some g
 vv:∀ s t g,s < n→t < n→s≠t→(R.vs s).ownBlock=some g→(R.vs t).ownBlock≠some g
section
variable {w w':World}{x n each:Nat}{R:RM}{free:Nat→List Nat}{gen out:List Int}
theorem Rf.lt (h:Rf w x n each R free gen out){i:Nat}(k:R.Has n i):i < w.heap.size:=by
 rcases k with e | e | e | ⟨t,ht,e⟩
 ·exact h.row.lt e
 ·exact h.gens.lt e
 ·exact h.outs.lt e
 ·exact(h.frees t ht).lt e
theorem Rf.kept {S:Nat→Prop}(h:Rf w x n each R free gen out)(k:Within w w' S)(h1:¬ S x)(h2:∀ i,R.Has n i→¬ S i):Rf w' x n each R free gen out:=
 ⟨h.ptr.within k h1,h.row.within k (fun g e=>h2 g (.inl e)),h.gens.within k (fun g e=>h2 g (.inr (.inl e))),h.outs.within k (fun g e=>h2 g (.inr (.inr (.inl e)))),
  fun t ht=>(h.frees t ht).within k (fun g e=>h2 g (.inr (.inr (.inr ⟨t,ht,e⟩)))),h.go,h.vg,h.vo,h.vv⟩
theorem Rf.grown (h:Rf w x n each R free gen out)(k:w.grownBy w' none):Rf w' x n each R free gen out:=h.kept (S:=fun _=>False) (.of_grown k (by simp)) (by simp) (by simp)
theorem Rf.c1 (h:Rf w x n each R free gen out):w.cell? ⟨x,1,none⟩=some R.fv:=by rw[h.ptr.cell];rfl
theorem Rf.c2 (h:Rf w x n each R free gen out):w.cell? ⟨x,2,none⟩=some R.gv:=by rw[h.ptr.cell];rfl
theorem Rf.c3 (h:Rf w x n each R free gen out):w.cell? ⟨x,3,none⟩=some R.ov:=by rw[h.ptr.cell];rfl
end
theorem run_eqJ (i j:Ins)(w:World):(binOp .eql 125 (iv i) (iv j)).run Tryz.prog w=.ok (.bool (eqI i j)) w:=by
 unfold iv
 have hu:=Tryz.underlying125
 go_simp
 unfold eqI
 repeat' split
 all_goals simp[*]
def Jb (w:World)(g:Nat)(i:Ins):Prop:=Bk w g 125 #[.int .i64 i.op,.int .i64 i.d,.int .i64 i.s,.int .i64 i.t,.int .i64 i.u,.int .i64 i.a,.int .u32 i.k,.int .i64 i.pl]
theorem Jb.cells {w:World}{g:Nat}{i:Ins}(h:Jb w g i):
 w.cell? ⟨g,0,none⟩=some (.int .i64 i.op)∧w.cell? ⟨g,1,none⟩=some (.int .i64 i.d)∧w.cell? ⟨g,2,none⟩=some (.int .i64 i.s)∧w.cell? ⟨g,3,none⟩=some (.int .i64 i.t)∧
 w.cell? ⟨g,4,none⟩=some (.int .i64 i.u)∧w.cell? ⟨g,5,none⟩=some (.int .i64 i.a)∧w.cell? ⟨g,6,none⟩=some (.int .u32 i.k)∧w.cell? ⟨g,7,none⟩=some (.int .i64 i.pl):=
 ⟨Bk.cell h 0,Bk.cell h 1,Bk.cell h 2,Bk.cell h 3,Bk.cell h 4,Bk.cell h 5,Bk.cell h 6,Bk.cell h 7⟩
theorem Jb.below {w w':World}{g:Nat}{i:Ins}(h:Jb w g i)(hb:Below w.heap.size w w'):Jb w' g i:=(hb.block g (Bk.lt h)).trans h
theorem Jb.grw {w:World}{b:Nat}{i:Ins}(h:Jb w b i):
 (∀ g:Grw w,g.x.cell? ⟨b,0,none⟩=some (.int .i64 i.op))∧(∀ g:Grw w,g.x.cell? ⟨b,1,none⟩=some (.int .i64 i.d))∧(∀ g:Grw w,g.x.cell? ⟨b,2,none⟩=some (.int .i64 i.s))∧(∀ g:Grw w,g.x.cell? ⟨b,3,none⟩=some (.int .i64 i.t))∧
 (∀ g:Grw w,g.x.cell? ⟨b,4,none⟩=some (.int .i64 i.u))∧(∀ g:Grw w,g.x.cell? ⟨b,5,none⟩=some (.int .i64 i.a))∧(∀ g:Grw w,g.x.cell? ⟨b,6,none⟩=some (.int .u32 i.k))∧(∀ g:Grw w,g.x.cell? ⟨b,7,none⟩=some (.int .i64 i.pl)):=by
 obtain⟨c0,c1,c2,c3,c4,c5,c6,c7⟩:=h.cells
 exact⟨fun g=>g.cell c0,fun g=>g.cell c1,fun g=>g.cell c2,fun g=>g.cell c3,fun g=>g.cell c4,fun g=>g.cell c5,fun g=>g.cell c6,fun g=>g.cell c7⟩
theorem Jb.made (w:World)(op d s t u a k pl:Int):Jb (w.alloc (.cells #[.int .i64 op,.int .i64 d,.int .i64 s,.int .i64 t,.int .i64 u,.int .i64 a,.int .u32 k,.int .i64 pl] 125)) w.heap.size ⟨op,d,s,t,u,a,k,pl⟩:=Bk.made _ _ _
theorem boxedJ {w x:World}{op d s t u a k pl:Int}(h:Below (w.alloc (.cells #[.int .i64 op,.int .i64 d,.int .i64 s,.int .i64 t,.int .i64 u,.int .i64 a,.int .u32 k,.int .i64 pl] 125)).heap.size (w.alloc (.cells #[.int .i64 op,.int .i64 d,.int .i64 s,.int .i64 t,.int .i64 u,.int .i64 a,.int .u32 k,.int .i64 pl] 125)) x):Jb x w.heap.size ⟨op,d,s,t,u,a,k,pl⟩∧Below w.heap.size w x:=
 ⟨(Jb.made w op d s t u a k pl).below h,((Below.refl _ _).alloc (Nat.le_refl _) _).trans (h.mono (by simp))⟩
theorem put8_jb {y:World}{g:Nat}{i j:Ins}(h:Jb y g j):Jb (put8 y g i) g i:=by
 have h8:=(((((((Bk.put h 0 (.int .i64 i.op)).put 1 (.int .i64 i.d)).put 2 (.int .i64 i.s)).put 3 (.int .i64 i.t)).put 4 (.int .i64 i.u)).put 5 (.int .i64 i.a)).put 6 (.int .u32 i.k)).put 7 (.int .i64 i.pl)
 unfold put8 Jb
 simpa only[List.setIfInBounds_toArray,List.set_cons_zero,List.set_cons_succ] using h8
theorem rRef (i:Ins)(w:World):
 Calls Tryz.prog 65 #[iv i] w fun e w'=>e=.returned (iv i)∧Below w.heap.size w w':=by
 obtain⟨op,d,s,t,u,a,k,pl⟩:=i
 unfold iv
 go_enter Tryz.func65,Tryz.ntmps65
 go_wp2
 refine bodyPost_ret (v:=.agg #[.int .i64 op,.int .i64 d,.int .i64 s,.int .i64 t,.int .i64 u,.int .i64 a,.int .u32 k,.int .i64 pl]) (by simp[results,Tryz.results65,go_sem]) rfl ⟨rfl,?_⟩
 exact((Below.refl _ _).alloc (Nat.le_refl _) _).alloc (by simp) _
theorem rRegYes (n:Int)(h0:0≤n)(h1:n≤7)(w:World):Calls Tryz.prog 105 #[.int .i64 n] w fun e w'=>e=.returned (.bool true)∧w=w':=by
 go_enter Tryz.func105,Tryz.ntmps105
 go_wp2
 go_ret
 exact⟨rfl,rfl⟩
theorem rRegNo (n:Int)(h:n < 0∨7 < n)(w:World):Calls Tryz.prog 105 #[.int .i64 n] w fun e w'=>e=.returned (.bool false)∧w=w':=by
 rcases h with h | h
 ·have h2:decide (n≥0)=false:=by simp;omega
  go_enter Tryz.func105,Tryz.ntmps105
  go_wp2
  go_ret
  exact⟨rfl,rfl⟩
 ·have h2:decide (n≤7)=false:=by simp;omega
  have h3:0≤n:=by omega
  go_enter Tryz.func105,Tryz.ntmps105
  go_wp2
  go_ret
  exact⟨rfl,rfl⟩
def namesA:Array Value:=#[.string ⟨#[]⟩,.string ⟨#[99,111,110,115,116]⟩,.string ⟨#[109,111,118,101]⟩,.string ⟨#[97,100,100,107]⟩,.string ⟨#[97,110,100,107]⟩,.string ⟨#[115,104,108]⟩,.string ⟨#[115,104,114]⟩,.string ⟨#[111,114]⟩,.string ⟨#[98,101,113]⟩,.string ⟨#[98,110,101]⟩,.string ⟨#[106,117,109,112]⟩,.string ⟨#[115,101,108,102]⟩,.string ⟨#[109,97,114,107]⟩,.string ⟨#[100,111,110,101]⟩,.string ⟨#[]⟩,.string ⟨#[]⟩,.string ⟨#[108,111,97,100]⟩,.string ⟨#[115,116,111,114,101]⟩,.string ⟨#[115,119,97,112]⟩,.string ⟨#[99,97,115]⟩,.string ⟨#[102,97,100,100]⟩,.string ⟨#[97,119,97,105,116]⟩,.string ⟨#[116,97,107,101]⟩,.string ⟨#[102,114,101,101]⟩]
theorem namesA_at:∀ n:Nat,1≤n→n≤23→namesA[n]?=some (.string ⟨(nmL n).toArray⟩):=by
 intro n h1 h2
 have hn:n=1∨n=2∨n=3∨n=4∨n=5∨n=6∨n=7∨n=8∨n=9∨n=10∨n=11∨n=12∨n=13∨n=14∨n=15∨n=16∨n=17∨n=18∨n=19∨n=20∨n=21∨n=22∨n=23:=by omega
 rcases hn with rfl | rfl | rfl | rfl | rfl | rfl | rfl | rfl | rfl | rfl | rfl | rfl | rfl | rfl | rfl | rfl | rfl | rfl | rfl | rfl | rfl | rfl | rfl <;> rfl
set_option maxRecDepth 100000 in
theorem rName (op:Int)(w:World):Calls Tryz.prog 104 #[.int .i64 op] w fun e w'=>e=.returned (bs (nmL op))∧Below w.heap.size w w':=by
 by_cases h:op < 1∨23 < op
 ·have E:=Lib.hid (show nmL op=[] from(hs_none (by omega)).2)
  generalize nmL op=nm at *
  rcases h with h | h
  ·go_enter Tryz.func104,Tryz.ntmps104
   go_wp2_with (first | (refine wpList_build_to rfl 249 _ rfl namesA (by kernel_rfl) ?_) | (refine wpList_store_new rfl 249 _ _ rfl _ namesA rfl rfl (by kernel_rfl) (by kernel_rfl) (by kernel_rfl) ?_))
   go_ret
   exact⟨by rw[E.out];rfl,(Below.refl _ _).alloc (Nat.le_refl _) _⟩
  ·have h2:decide (op < 1)=false:=by simp;omega
   go_enter Tryz.func104,Tryz.ntmps104
   go_wp2_with (first | (refine wpList_build_to rfl 249 _ rfl namesA (by kernel_rfl) ?_) | (refine wpList_store_new rfl 249 _ _ rfl _ namesA rfl rfl (by kernel_rfl) (by kernel_rfl) (by kernel_rfl) ?_))
   go_ret
   exact⟨by rw[E.out];rfl,(Below.refl _ _).alloc (Nat.le_refl _) _⟩
 ·obtain⟨n,hn⟩:∃ n:Nat,op=n:=⟨op.toNat,by omega⟩
  subst hn
  have h1:1≤n:=by omega
  have h23:n≤23:=by omega
  have hc:(w.alloc (.cells namesA 249)).cell? ⟨w.heap.size,n,none⟩=some (.string ⟨(nmL n).toArray⟩):=by
   rw[cell_of_row _ _ _ _ _ _ (heap_alloc_new w _)]
   exact namesA_at n h1 h23
  generalize nmL n=nm at *
  have d1:decide ((n:Int) < 1)=false:=by simp;omega
  have d2:decide ((n:Int) > 23)=false:=by simp;omega
  have d3:(n:Int) < 24:=by omega
  clear h
  go_enter Tryz.func104,Tryz.ntmps104
  go_wp2_with (first | (refine wpList_build_to rfl 249 _ rfl namesA (by kernel_rfl) ?_) | (refine wpList_store_new rfl 249 _ _ rfl _ namesA rfl rfl (by kernel_rfl) (by kernel_rfl) (by kernel_rfl) ?_))
  go_ret
  exact⟨rfl,(Below.refl _ _).alloc (Nat.le_refl _) _⟩
structure Regs (i:Ins):Prop where
 d:0≤i.d∧i.d≤7
 s:0≤i.s∧i.s≤7
 t:0≤i.t∧i.t≤7
 u:0≤i.u∧i.u≤7
 a:0≤i.a∧i.a≤7
end Go.Proofs.YthdgehcghklflaaGreatDoor
namespace Go.Proofs.YthdgehcghklflaaGreatDoor
def tkText:List UInt8:=[108,111,99,107,58,10,102,97,100,100,32,114,49,32,48,32,114,48,32,49,10,109,97,114,107,32,49,10,97,119,97,105,116,32,114,50,32,49,32,114,48,32,101,113,32,114,49,10,109,97,114,107,32,50,10,100,111,110,101,32,49,10,117,110,108,111,99,107,58,10,97,100,100,107,32,114,49,32,114,49,32,49,10,115,116,111,114,101,32,49,32,114,48,32,114,49,10,109,97,114,107,32,52,10,100,111,110,101,32,50,10]
def tkP:Prg:=⟨tkL,0,5⟩
theorem tk_wf:∀ i∈tkP.l,i.Wf:=by
 intro i hi
 simp only[tkP,tkL,List.mem_cons,List.not_mem_nil,or_false] at hi
 rcases hi with rfl | rfl | rfl | rfl | rfl | rfl | rfl | rfl | rfl <;> (constructor <;> decide)
theorem tk_small:tkText.length < 80000:=by decide
def tkR (n:Nat):List Int:=List.replicate n 0
end Go.Proofs.YthdgehcghklflaaGreatDoor
namespace Go.Proofs.YthdgehcghklflaaGreatDoor
open Go.RowKit
def Eight (xs:List Int):Prop:=xs.length=8∧U32s xs
theorem eight_cons {xs:List Int}(h:xs.length=8):∃ a b c d e f g i,xs=[a,b,c,d,e,f,g,i]:=by
 match xs,h with
 | [a,b,c,d,e,f,g,i],_=>exact⟨a,b,c,d,e,f,g,i,rfl⟩
def andI (a b:Int):Int:=((a.toNat &&& b.toNat:Nat):Int)
def orI (a b:Int):Int:=((a.toNat ||| b.toNat:Nat):Int)
theorem andI_range {a b:Int}(h0:0≤a)(h1:a < 4294967296):0≤andI a b∧andI a b < 4294967296:=by
 unfold andI
 have:=Nat.and_le_left (n:=a.toNat) (m:=b.toNat)
 omega
theorem orI_range {a b:Int}(h0:0≤a)(h1:a < 4294967296)(h2:0≤b)(h3:b < 4294967296):0≤orI a b∧orI a b < 4294967296:=by
 unfold orI
 have:=Nat.or_lt_two_pow (x:=a.toNat) (y:=b.toNat) (n:=32) (by omega) (by omega)
 omega
def bitN (both:Bool)(a b:Nat):Nat→Nat
 | 0=>0
 | n+1=>bitN both a b n+(if (if both then a / 2 ^ n % 2+b / 2 ^ n % 2=2 else 0 < a / 2 ^ n % 2+b / 2 ^ n % 2) then 2 ^ n else 0)
theorem bit_step (x n:Nat):x % 2 ^ (n+1)=x % 2 ^ n+(if x / 2 ^ n % 2=1 then 2 ^ n else 0):=by
 rw[Nat.mod_pow_succ]
 have:x / 2 ^ n % 2=0∨x / 2 ^ n % 2=1:=by omega
 rcases this with h | h <;> simp[h]
theorem bit_and (a b n:Nat):(a &&& b) / 2 ^ n % 2=1↔a / 2 ^ n % 2=1∧b / 2 ^ n % 2=1:=by
 have h:=Nat.testBit_and a b n
 simp only[Nat.testBit_eq_decide_div_mod_eq,decide_eq_decide,←Bool.decide_and] at h
 exact h
theorem bit_or (a b n:Nat):(a ||| b) / 2 ^ n % 2=1↔a / 2 ^ n % 2=1∨b / 2 ^ n % 2=1:=by
 have h:=Nat.testBit_or a b n
 simp only[Nat.testBit_eq_decide_div_mod_eq,decide_eq_decide,←Bool.decide_or] at h
 exact h
theorem bitN_and (a b:Nat):∀ n,bitN true a b n=(a &&& b) % 2 ^ n
 | 0=>by simp[bitN,Nat.mod_one]
 | n+1=>by
  rw[bit_step,bitN,bitN_and a b n]
  congr 1
  have h1:a / 2 ^ n % 2=0∨a / 2 ^ n % 2=1:=by omega
  have h2:b / 2 ^ n % 2=0∨b / 2 ^ n % 2=1:=by omega
  have h3:=bit_and a b n
  rcases h1 with h1 | h1 <;> rcases h2 with h2 | h2 <;> simp[h1,h2] at h3 ⊢ <;> simp[h3]
theorem bitN_or (a b:Nat):∀ n,bitN false a b n=(a ||| b) % 2 ^ n
 | 0=>by simp[bitN,Nat.mod_one]
 | n+1=>by
  rw[bit_step,bitN,bitN_or a b n]
  congr 1
  have h1:a / 2 ^ n % 2=0∨a / 2 ^ n % 2=1:=by omega
  have h2:b / 2 ^ n % 2=0∨b / 2 ^ n % 2=1:=by omega
  have h3:=bit_or a b n
  rcases h1 with h1 | h1 <;> rcases h2 with h2 | h2 <;> simp[h1,h2] at h3 ⊢ <;> simp[h3]
theorem bitN_le (both:Bool)(a b:Nat):∀ n,bitN both a b n < 2 ^ n
 | 0=>by simp[bitN]
 | n+1=>by
  have:=bitN_le both a b n
  rw[bitN,Nat.pow_succ]
  have:∀ c:Prop,[Decidable c]→(if c then 2 ^ n else 0)≤2 ^ n:=by intro c _;split <;> omega
  have:=this (if both=true then a / 2 ^ n % 2+b / 2 ^ n % 2=2 else 0 < a / 2 ^ n % 2+b / 2 ^ n % 2)
  omega
theorem bitN_is (both:Bool)(a b:Int)(h0:0≤a)(h1:a < 4294967296)(h2:0≤b)(h3:b < 4294967296):(bitN both a.toNat b.toNat 32:Int)=if both then andI a b else orI a b:=by
 cases both
 ·rw[bitN_or,Nat.mod_eq_of_lt (Nat.or_lt_two_pow (by omega) (by omega))];rfl
 ·rw[bitN_and,Nat.mod_eq_of_lt (Nat.lt_of_le_of_lt Nat.and_le_left (by omega))];rfl
def valA (op a b k self:Int):Option Int:=
 if op=1 then some k
 else if op=2 then some a
 else if op=3 then some ((a+k) % 4294967296)
 else if op=4 then some (andI a k)
 else if op=5 then some (a * 2 ^ k.toNat % 4294967296)
 else if op=6 then some (a / 2 ^ k.toNat)
 else if op=7 then some (orI a b)
 else if op=11 then some self
 else none
def valueO (xs:List Int)(i:Ins)(self:Int):Option Int:=valA i.op (nth xs i.s.toNat) (nth xs i.t.toNat) i.k self
def placeA (op a b pl pc:Int):Int:=if op=10∨(op=8∧a=b)∨(op=9∧a≠b) then pl else if op=13 then pc else pc+1
def placeL (xs:List Int)(pc:Int)(i:Ins):Int:=placeA i.op (nth xs i.s.toNat) (nth xs i.t.toNat) i.pl pc
def regsL (xs:List Int)(i:Ins)(self:Int):List Int:=match valueO xs i self with
 | some v=>xs.set i.d.toNat v
 | none=>xs
def oneR (xs:List Int)(i:Ins)(self:Int):List Int:=if memB i.op then xs else regsL xs i self
def oneP (xs:List Int)(pc:Int)(i:Ins):Int:=if memB i.op then pc else placeL xs pc i
structure OkI (i:Ins):Prop where
 op:(1≤i.op∧i.op≤13)∨(16≤i.op∧i.op≤23)
 d:0≤i.d∧i.d≤7
 s:0≤i.s∧i.s≤7
 t:0≤i.t∧i.t≤7
 k:0≤i.k∧i.k < 4294967296
 sh:(i.op=5∨i.op=6)→i.k≤31
 mark:(i.op=12∨i.op=13)→i.k≤4
theorem ok_of {i:Ins}{p:Int}(h:rightB i p=true)(k0:0≤i.k)(k1:i.k < 4294967296):OkI i:=by
 obtain⟨hd,hs,ht,hu,ha⟩:=right_regs i p h
 obtain⟨op,d,s,t,u,a,k,pl⟩:=i
 simp only at k0 k1 hd hs ht hu ha
 refine⟨?_,hd,hs,ht,⟨k0,k1⟩,?_,?_⟩
 ·rcases op_cases op with rfl | rfl | rfl | rfl | rfl | rfl | rfl | rfl | rfl | rfl | rfl | rfl | rfl | rfl | rfl | rfl | rfl | rfl | rfl | rfl | rfl | hn
  rotate_right
  ·unfold rightB at h
   rw[(hs_none hn).1] at h
   simp at h
  all_goals simp
 ·rintro(e | e)
  ·simp only at e
   subst e
   rw[right_5 d s t u a k pl p hd hs ht hu ha k0 k1] at h
   simp at h
   exact h.2
  ·simp only at e
   subst e
   rw[right_6 d s t u a k pl p hd hs ht hu ha k0 k1] at h
   simp at h
   exact h.2
 ·rintro(e | e)
  ·simp only at e
   subst e
   rw[right_12 d s t u a k pl p hd hs ht hu ha k0 k1] at h
   simp at h
   show k≤4
   omega
  ·simp only at e
   subst e
   rw[right_13 d s t u a k pl p hd hs ht hu ha k0 k1] at h
   simp at h
   show k≤4
   omega
section
variable {xs:List Int}{i:Ins}{self:Int}
theorem pow_u32 {k:Int}(h0:0≤k)(h1:k≤31):(1:Int)≤2 ^ k.toNat∧(2:Int) ^ k.toNat≤2147483648:=by
 have a:=Nat.one_le_two_pow (n:=k.toNat)
 have b:=Nat.pow_le_pow_right (n:=2) (by omega) (show k.toNat≤31 by omega)
 have e:((2 ^ k.toNat:Nat):Int)=(2:Int) ^ k.toNat:=by simp
 omega
theorem valueO_u32 (hx:U32s xs)(h:OkI i)(h0:0≤self)(h1:self < 4294967296){v:Int}(hv:valueO xs i self=some v):0≤v∧v < 4294967296:=by
 have es:=hx.at_ i.s.toNat
 have et:=hx.at_ i.t.toNat
 have hk:=h.k
 unfold valueO valA at hv
 repeat' split at hv
 all_goals first | (injection hv with hv;subst hv) | cases hv
 ·omega
 ·omega
 ·omega
 ·exact andI_range es.1 es.2
 ·omega
 ·rename_i e
  have hp:=pow_u32 hk.1 (h.sh (.inr e))
  have:=Int.ediv_le_self (2 ^ i.k.toNat) es.1
  have:=Int.ediv_nonneg es.1 (by omega:(0:Int)≤2 ^ i.k.toNat)
  omega
 ·exact orI_range es.1 es.2 et.1 et.2
 ·omega
theorem Eight.one (hx:Eight xs)(h:OkI i)(h0:0≤self)(h1:self < 4294967296):Eight (oneR xs i self):=by
 unfold oneR regsL
 split
 ·exact hx
 ·split
  ·rename_i v hv
   exact⟨by rw[List.length_set];exact hx.1,hx.2.set _ _ (valueO_u32 hx.2 h h0 h1 hv)⟩
  ·exact hx
end
structure Out where
 xs:List Int
 pc:Int
 ms:List Int
 done:Int
 e:Int
def runL (self:Int)(l:List Ins):Nat→List Int→Int→List Int→Out
 | n,xs,pc,ms=>
  if pc < 0 then ⟨xs,pc,ms,-1,11⟩
  else match l[pc.toNat]? with
   | none=>⟨xs,pc,ms,-1,11⟩
   | some i=>if memB i.op then ⟨xs,pc,ms,-1,0⟩
    else match n with
     | 0=>⟨xs,pc,ms,-1,11⟩
     | n+1=>if i.op=13 then ⟨xs,pc,ms,i.k,0⟩ else runL self l n (oneR xs i self) (oneP xs pc i) (if i.op=12 then ms++[i.k] else ms)
section
variable {self:Int}{l:List Ins}{n:Nat}{xs:List Int}{pc:Int}{ms:List Int}
theorem runL_out (h:pc < 0∨l.length≤pc):runL self l n xs pc ms=⟨xs,pc,ms,-1,11⟩:=by
 unfold runL
 by_cases h0:pc < 0
 ·rw[if_pos h0]
 ·rw[if_neg h0,List.getElem?_eq_none (by omega)]
theorem runL_mem {i:Ins}{k:Nat}(h:l[k]?=some i)(hm:memB i.op=true):runL self l n xs k ms=⟨xs,k,ms,-1,0⟩:=by
 unfold runL
 rw[if_neg (by omega),Int.toNat_natCast,h]
 simp[hm]
theorem runL_zero {i:Ins}{k:Nat}(h:l[k]?=some i)(hm:memB i.op=false):runL self l 0 xs k ms=⟨xs,k,ms,-1,11⟩:=by
 unfold runL
 rw[if_neg (by omega),Int.toNat_natCast,h]
 simp[hm]
theorem runL_done {i:Ins}{k:Nat}(h:l[k]?=some i)(hm:i.op=13):runL self l (n+1) xs k ms=⟨xs,k,ms,i.k,0⟩:=by
 unfold runL
 rw[if_neg (by omega),Int.toNat_natCast,h]
 simp[hm,memB]
theorem runL_step {i:Ins}{k:Nat}(h:l[k]?=some i)(hm:memB i.op=false)(h13:i.op≠13):runL self l (n+1) xs k ms=runL self l n (oneR xs i self) (oneP xs k i) (if i.op=12 then ms++[i.k] else ms):=by
 conv=>lhs;unfold runL
 rw[if_neg (by omega),Int.toNat_natCast,h]
 simp[hm,h13]
end
theorem runL_eight {self:Int}{l:List Ins}(hl:∀ i∈l,OkI i)(h0:0≤self)(h1:self < 4294967296):∀ (n:Nat) (xs:List Int) (pc:Int) (ms:List Int),Eight xs→Eight (runL self l n xs pc ms).xs
 | n,xs,pc,ms,hx=>by
  by_cases h9:pc < 0∨l.length≤pc
  ·rw[runL_out h9];exact hx
  ·obtain⟨k,rfl⟩:∃ k:Nat,pc=k:=⟨pc.toNat,by omega⟩
   have hk:=List.getElem?_eq_getElem (l:=l) (i:=k) (by omega)
   have hi:=hl _ (List.getElem_mem (l:=l) (n:=k) (by omega))
   generalize l[k]=i at hk hi
   by_cases hm:memB i.op=true
   ·rw[runL_mem hk hm];exact hx
   ·have hm':memB i.op=false:=by simpa using hm
    match n with
    | 0=>rw[runL_zero hk hm'];exact hx
    | n+1=>
     by_cases h13:i.op=13
     ·rw[runL_done hk h13];exact hx
     ·rw[runL_step hk hm' h13];exact runL_eight hl h0 h1 n _ _ _ (hx.one hi h0 h1)
end Go.Proofs.YthdgehcghklflaaGreatDoor
namespace Go.Proofs.YthdgehcghklflaaGreatDoor
def RightZ (zs:List Int):Prop:=zs.length≤8∧∀ k,k < zs.length→0≤nth zs k∧nth zs k≤4096
def sz (zs:List Int)(k:Nat):Nat:=(nth zs k).toNat
def pre (zs:List Int):Nat→Nat
 | 0=>0
 | k+1=>pre zs k+sz zs k
theorem pre_succ (zs:List Int)(k:Nat):pre zs (k+1)=pre zs k+sz zs k:=rfl
def tot (zs:List Int):Nat:=pre zs zs.length
def celTo (zs:List Int):Nat→List (Nat×Nat)
 | 0=>[]
 | k+1=>celTo zs k++(List.range (sz zs k)).map fun i=>(k,i)
def cels (zs:List Int):List (Nat×Nat):=celTo zs zs.length
section
variable {zs:List Int}
theorem sz_le (h:RightZ zs){k:Nat}(hk:k < zs.length):sz zs k≤4096:=by
 have:=(h.2 k hk);unfold sz;omega
theorem pre_mono (zs:List Int){a b:Nat}(h:a≤b):pre zs a≤pre zs b:=by
 induction b with
 | zero=>
  obtain rfl:a=0:=by omega
  exact Nat.le_refl _
 | succ b ih=>
  by_cases e:a=b+1
  ·subst e;exact Nat.le_refl _
  ·exact Nat.le_trans (ih (by omega)) (by simp[pre])
theorem pre_le (h:RightZ zs):∀ k,k≤zs.length→pre zs k≤4096 * k
 | 0,_=>Nat.le_refl _
 | k+1,hk=>by
  have h1:=pre_le h k (by omega)
  have h2:=sz_le h (k:=k) (by omega)
  rw[pre_succ];omega
theorem tot_le (h:RightZ zs):tot zs≤32768:=by
 have h1:=pre_le h zs.length (Nat.le_refl _)
 have h2:=h.1
 unfold tot;omega
theorem pre_tot {k:Nat}(hk:k≤zs.length):pre zs k≤tot zs:=pre_mono zs hk
theorem celTo_len (zs:List Int):∀ k,(celTo zs k).length=pre zs k
 | 0=>rfl
 | k+1=>by simp[celTo,pre,celTo_len zs k]
theorem cels_len (zs:List Int):(cels zs).length=tot zs:=celTo_len zs _
theorem celTo_at (zs:List Int):∀ K a p,a < K→p < sz zs a→(celTo zs K)[pre zs a+p]?=some (a,p)
 | 0,a,p,ha,_=>by omega
 | K+1,a,p,ha,hp=>by
  unfold celTo
  rw[List.getElem?_append,celTo_len]
  by_cases e:a=K
  ·subst e
   rw[if_neg (by omega),Nat.add_sub_cancel_left]
   simp[hp]
  ·have h1:pre zs (a+1)≤pre zs K:=pre_mono zs (by omega)
   rw[pre_succ] at h1
   rw[if_pos (by omega)]
   exact celTo_at zs K a p (by omega) hp
theorem cels_at {a p:Nat}(ha:a < zs.length)(hp:p < sz zs a):(cels zs)[pre zs a+p]?=some (a,p):=celTo_at zs _ a p ha hp
theorem pre_split (zs:List Int):∀ K i,i < pre zs K→∃ a p,a < K∧p < sz zs a∧i=pre zs a+p
 | 0,i,h=>by unfold pre at h;omega
 | K+1,i,h=>by
  by_cases e:i < pre zs K
  ·obtain⟨a,p,h1,h2,h3⟩:=pre_split zs K i e
   exact⟨a,p,by omega,h2,h3⟩
  ·rw[pre_succ] at h
   exact⟨K,i - pre zs K,by omega,by omega,by omega⟩
theorem tot_split {i:Nat}(h:i < tot zs):∃ a p,a < zs.length∧p < sz zs a∧i=pre zs a+p:=pre_split zs _ i h
theorem pre_lt {a p:Nat}(ha:a < zs.length)(hp:p < sz zs a):pre zs a+p < tot zs:=by
 have h1:pre zs (a+1)≤tot zs:=pre_tot (by omega)
 rw[pre_succ] at h1;omega
def celC (c:Nat×Nat):List Value:=[.int .i64 c.1,.int .i64 c.2]
def celsC (l:List (Nat×Nat)):List Value:=l.flatMap celC
theorem celsC_snoc (l:List (Nat×Nat))(c:Nat×Nat):celsC (l++[c])=celsC l++celC c:=by simp[celsC]
theorem celsC_at:∀ (l:List (Nat×Nat)) (k:Nat) (c:Nat×Nat),l[k]?=some c→(celsC l)[k * 2]?=some (.int .i64 c.1)∧(celsC l)[k * 2+1]?=some (.int .i64 c.2)
 | [],k,c,h=>by simp at h
 | x :: l,0,c,h=>by simp at h;subst h;exact⟨rfl,rfl⟩
 | x :: l,k+1,c,h=>by
  have ih:=celsC_at l k c (by simpa using h)
  have e:celsC (x :: l)=.int .i64 x.1 :: .int .i64 x.2 :: celsC l:=by simp[celsC,celC]
  rw[e,show (k+1) * 2=k * 2+1+1 by omega]
  exact ih
def celPart (zs:List Int)(k i:Nat):List (Nat×Nat):=celTo zs k++(List.range i).map fun i=>(k,i)
theorem celPart_0 (zs:List Int)(k:Nat):celPart zs k 0=celTo zs k:=by simp[celPart]
theorem celPart_all (zs:List Int)(k:Nat):celPart zs k (sz zs k)=celTo zs (k+1):=rfl
theorem celPart_next (zs:List Int)(k i:Nat):celPart zs k (i+1)=celPart zs k i++[(k,i)]:=by simp[celPart,List.range_succ]
theorem celPart_len (zs:List Int)(k i:Nat):(celPart zs k i).length=pre zs k+i:=by simp[celPart,celTo_len]
end
structure Lk where
 l:List Ins
 lo:Int
 un:Int
 zs:List Int
 each:Nat
 n:Nat
structure Cor where
 xs:List Int
 pc:Int
structure Pn where
 free:Nat→List Nat
 gen:List Int
 out:List Int
structure Mc where
 ws:List Int
 pn:Pn
 cs:Nat→Cor
structure Ot where
 ms:List Int
 done:Int
 addr:Int
 wrote:Bool
 stay:Bool
 e:Int
def updN {α:Type}(f:Nat→α)(t:Nat)(v:α):Nat→α:=fun i=>if i=t then v else f i
theorem updN_same {α:Type}(f:Nat→α)(t:Nat)(v:α):updN f t v t=v:=by simp[updN]
theorem updN_other {α:Type}{f:Nat→α}{t i:Nat}{v:α}(h:i≠t):updN f t v i=f i:=by simp[updN,h]
def hdlN (gen:List Int)(q:Nat):Int:=nth gen q * 4096+((q:Int)+1)
def isN (gen out:List Int)(h:Int):Bool:=decide (1≤h % 4096∧h % 4096≤(out.length:Int)∧nth out (h % 4096 - 1).toNat=1∧hdlN gen (h % 4096 - 1).toNat=h)
def takeN (p:Pn)(t:Nat):Pn×Int:=match p.free t with
 | []=>(p,0)
 | q :: rest=>(⟨updN p.free t rest,p.gen,p.out.set q 1⟩,hdlN p.gen q)
def backN (each:Nat)(p:Pn)(h:Int):Option Pn:=
 if h=0 then some p
 else if isN p.gen p.out h then
  let q:=(h % 4096 - 1).toNat
  some ⟨updN p.free (q / each) (p.free (q / each)++[q]),p.gen.set q ((h / 4096+1) % 262144),p.out.set q 0⟩
 else none
def newN (n each:Nat):Pn:=⟨fun t=>(List.range each).map fun i=>t * each+i,List.replicate (n * each) 0,List.replicate (n * each) 0⟩
def findM (zs:List Int)(area v:Int):Option Nat:=
 if 0≤area∧area < zs.length∧v % 4096 < sz zs area.toNat then some (pre zs area.toNat+(v % 4096).toNat) else none
def runM (k:Lk)(m:Mc)(t:Nat)(c:Cor)(o:Ot):Mc×Ot:=
 let r:=runL (t:Int) k.l 256 c.xs c.pc []
 ({ m with cs:=updN m.cs t ⟨r.xs,r.pc⟩ },{ o with ms:=r.ms,done:=r.done,e:=r.e })
def beginM (k:Lk)(m:Mc)(t:Nat)(unlock:Bool):Mc×Ot:=
 runM k m t ⟨(m.cs t).xs,if unlock then k.un else k.lo⟩ ⟨[],0,-1,false,false,0⟩
def trapO:Ot:=⟨[],-1,-1,false,false,11⟩
def memI (k:Lk)(pc:Int):Option Ins:=if pc < 0 then none else match k.l[pc.toNat]? with
 | some i=>if memB i.op then some i else none
 | none=>none
def accM (k:Lk)(m:Mc)(t:Nat)(c:Cor)(late:Bool)(i:Ins)(a:Nat):Mc×Ot:=
 let v:=nth c.xs i.t.toNat
 let u:=nth c.xs i.u.toNat
 let was:=nth m.ws a
 let d:=i.d.toNat
 let o:Ot:=⟨[],0,a,false,false,0⟩
 if i.op=16 then runM k m t ⟨c.xs.set d was,c.pc+1⟩ o
 else if i.op=17 then runM k { m with ws:=m.ws.set a v } t ⟨c.xs,c.pc+1⟩ { o with wrote:=true }
 else if i.op=18 then runM k { m with ws:=m.ws.set a v } t ⟨c.xs.set d was,c.pc+1⟩ { o with wrote:=true }
 else if i.op=19 then
  if was=v then runM k { m with ws:=m.ws.set a u } t ⟨c.xs.set d 1,c.pc+1⟩ { o with wrote:=true }
  else runM k m t ⟨c.xs.set d 0,c.pc+1⟩ o
 else if i.op=20 then runM k { m with ws:=m.ws.set a ((was+i.k) % 4294967296) } t ⟨c.xs.set d was,c.pc+1⟩ { o with wrote:=true }
 else
  let holds:=decide (was=v) != decide (i.k=1)
  if holds then runM k m t ⟨c.xs.set d was,c.pc+1⟩ o
  else if late=false∨i.pl < 0 then ({ m with cs:=updN m.cs t ⟨c.xs.set d was,c.pc⟩ },{ o with stay:=true,done:=-1 })
  else runM k m t ⟨c.xs.set d was,i.pl⟩ o
def stepM (k:Lk)(m:Mc)(t:Nat)(late:Bool):Mc×Ot:=
 let c:=m.cs t
 match memI k c.pc with
 | none=>(m,trapO)
 | some i=>
  let s:=nth c.xs i.s.toNat
  if i.op=22 then
   let r:=takeN m.pn t
   runM k { m with pn:=r.1 } t ⟨c.xs.set i.d.toNat r.2,c.pc+1⟩ ⟨[],0,-1,false,false,0⟩
  else if i.op=23 then match backN k.each m.pn s with
   | none=>(m,trapO)
   | some p=>runM k { m with pn:=p } t ⟨c.xs,c.pc+1⟩ ⟨[],0,-1,false,false,0⟩
  else match findM k.zs i.a s with
   | none=>(m,trapO)
   | some a=>accM k m t c late i a
def newM (k:Lk)(init r7:List Int):Mc:=⟨init,newN k.n k.each,fun t=>⟨[0,0,0,0,0,0,0,nth r7 t],0⟩⟩
structure Rn where
 m:Mc
 act:Nat→Int
 l:List En
 bad:Bool
structure Opn3 where
 kind:Int
 t:Int
 late:Bool
def enter (r:Rn)(kind:Int)(t:Nat):Rn:={ r with l:=r.l++[⟨kind,t,0⟩] }
def markK (k:Int):Int:=if k=1 then 2 else if k=2 then 3 else if k=3 then 4 else if k=4 then 9 else 0
def marksR (r:Rn)(t:Nat)(ms:List Int):Rn:={ r with l:=r.l++ms.map fun k=>⟨markK k,(t:Int),0⟩ }
def cameR (r:Rn)(t:Nat)(o:Ot):Rn:=
 let r:=marksR r t o.ms
 if o.e≠0∨(0≤o.done∧¬ ((o.done=2)↔(r.act t=3))) then { r with bad:=true }
 else if o.done=0 then { enter r 6 t with act:=updN r.act t 0 }
 else if o.done=1 then { enter r 5 t with act:=updN r.act t 2 }
 else if o.done=2 then { enter r 10 t with act:=updN r.act t 0 }
 else if o.done=3 then { enter r 7 t with act:=updN r.act t 0 }
 else r
def opR (k:Lk)(r:Rn)(o:Opn3):Rn:=
 if o.t < 0∨(k.n:Int)≤o.t∨r.bad=true then r
 else
  let t:=o.t.toNat
  if o.kind=1 then
   if r.act t=0 then
    let r:=enter { r with act:=updN r.act t 1 } 1 t
    let x:=beginM k r.m t false
    cameR { r with m:=x.1 } t x.2
   else r
  else if o.kind=2 then
   if r.act t=2 then
    let r:=enter { r with act:=updN r.act t 3 } 8 t
    let x:=beginM k r.m t true
    cameR { r with m:=x.1 } t x.2
   else r
  else if r.act t=1∨r.act t=3 then
   let x:=stepM k r.m t o.late
   cameR { r with m:=x.1 } t x.2
  else r
def runR (k:Lk)(r:Rn)(l:List Opn3):Rn:=l.foldl (opR k) r
def rn0 (k:Lk)(init r7:List Int):Rn:=⟨newM k init r7,fun _=>0,[],false⟩
theorem runR_inv {k:Lk}{I:Rn→Prop}(h:∀ r o,I r→I (opR k r o)):∀ (l:List Opn3) (r:Rn),I r→I (runR k r l)
 | [],r,hr=>hr
 | o :: l,r,hr=>runR_inv h l _ (h r o hr)
theorem opR_keep {k:Lk}{I:Rn→Prop}
 (h1:∀ r t,I r→t < k.n→r.bad=false→r.act t=0→I (cameR { m:=(beginM k r.m t false).1,act:=updN r.act t 1,l:=r.l++[⟨1,t,0⟩],bad:=r.bad } t (beginM k r.m t false).2))
 (h2:∀ r t,I r→t < k.n→r.bad=false→r.act t=2→I (cameR { m:=(beginM k r.m t true).1,act:=updN r.act t 3,l:=r.l++[⟨8,t,0⟩],bad:=r.bad } t (beginM k r.m t true).2))
 (h3:∀ r t late,I r→t < k.n→r.bad=false→(r.act t=1∨r.act t=3)→I (cameR { r with m:=(stepM k r.m t late).1 } t (stepM k r.m t late).2))
 (r:Rn) (o:Opn3) (hr:I r):I (opR k r o):=by
 unfold opR
 split
 ·exact hr
 ·rename_i hc
  have ht:o.t.toNat < k.n:=by omega
  have hb:r.bad=false:=by
   cases hbb:r.bad with
   | false=>rfl
   | true=>exact absurd (.inr (.inr hbb)) hc
  simp only
  split
  ·split
   ·exact h1 r _ hr ht hb (by assumption)
   ·exact hr
  ·split
   ·split
    ·exact h2 r _ hr ht hb (by assumption)
    ·exact hr
   ·split
    ·exact h3 r _ o.late hr ht hb (by assumption)
    ·exact hr
section
variable {r:Rn}{t:Nat}{ad:Int}{wr st:Bool}
theorem came_nothing:cameR r t ⟨[],-1,ad,wr,st,0⟩=r:=by
 unfold cameR marksR
 simp
theorem came_mark (j:Int):cameR r t ⟨[j],-1,ad,wr,st,0⟩={ r with l:=r.l++[⟨markK j,t,0⟩] }:=by
 unfold cameR marksR
 simp
theorem came_got (h:r.act t=1):cameR r t ⟨[2],1,ad,wr,st,0⟩={ r with act:=updN r.act t 2,l:=(r.l++[⟨3,t,0⟩])++[⟨5,t,0⟩] }:=by
 unfold cameR marksR enter
 simp[h,markK]
theorem came_over (h:r.act t=3):cameR r t ⟨[4],2,ad,wr,st,0⟩={ r with act:=updN r.act t 0,l:=(r.l++[⟨9,t,0⟩])++[⟨10,t,0⟩] }:=by
 unfold cameR marksR enter
 simp[h,markK]
end
theorem came_act {r:Rn}{t s:Nat}{o:Ot}(h:s≠t):(cameR r t o).act s=r.act s:=by
 unfold cameR marksR enter
 simp only
 repeat' split
 all_goals first | rfl | exact updN_other h
theorem opR_act {k:Lk}{r:Rn}{o:Opn3}{s:Nat}(h:o.t≠s):(opR k r o).act s=r.act s:=by
 unfold opR
 split
 ·rfl
 ·rename_i hc
  have hs:s≠o.t.toNat:=by omega
  simp only
  repeat' split
  all_goals first | rfl | exact came_act hs | exact(came_act hs).trans (updN_other hs)
def tw (x:Int):Int:=x % 4294967296
def ow1 (l:List En):Nat:=if (faRun l).ow=-1 then 0 else 1
structure OkM (i:Ins)(n:Nat):Prop where
 op:16≤i.op∧i.op≤23
 d:0≤i.d∧i.d≤7
 s:0≤i.s∧i.s≤7
 t:0≤i.t∧i.t≤7
 u:0≤i.u∧i.u≤7
 a:0≤i.a∧i.a≤7
 k:0≤i.k∧i.k < 4294967296
 aw:i.op=21→(i.k=0∨i.k=1)∧(i.pl=-1∨(0≤i.pl∧i.pl < n))
theorem okM_of {i:Ins}{n:Nat}(h:rightB i n=true)(k0:0≤i.k)(k1:i.k < 4294967296)(hm:memB i.op=true):OkM i n:=by
 obtain⟨hd,hs,ht,hu,ha⟩:=right_regs i n h
 have ho:=(ok_of h k0 k1).op
 have hop:16≤i.op∧i.op≤23:=by
  unfold memB at hm
  simp only[Bool.and_eq_true,decide_eq_true_eq] at hm
  omega
 refine⟨hop,hd,hs,ht,hu,ha,⟨k0,k1⟩,fun e=>?_⟩
 obtain⟨op,d,s,t,u,a,k,pl⟩:=i
 simp only at e k0 k1 hd hs ht hu ha
 subst e
 rw[right_21 d s t u a k pl n hd hs ht hu ha k0 k1] at h
 simp at h
 simp only
 omega
theorem Eight.put {xs:List Int}(h:Eight xs)(d:Nat){v:Int}(hv:0≤v∧v < 4294967296):Eight (xs.set d v):=⟨by rw[List.length_set];exact h.1,h.2.set _ _ hv⟩
section
variable {k:Lk}{m:Mc}{t:Nat}{late:Bool}{i:Ins}{a:Nat}
theorem step_none (h:memI k (m.cs t).pc=none):stepM k m t late=(m,trapO):=by
 unfold stepM
 simp only[h]
theorem memI_is {pc:Int}(h:memI k pc=some i):0≤pc∧pc < k.l.length∧k.l[pc.toNat]?=some i∧memB i.op=true:=by
 unfold memI at h
 by_cases h0:pc < 0
 ·rw[if_pos h0] at h;cases h
 ·rw[if_neg h0] at h
  cases hk:k.l[pc.toNat]? with
  | none=>rw[hk] at h;cases h
  | some j=>
   rw[hk] at h
   simp only at h
   by_cases hm:memB j.op=true
   ·rw[if_pos hm] at h
    injection h with h
    subst h
    have:=(List.getElem?_eq_some_iff.1 hk).1
    exact⟨by omega,by omega,rfl,hm⟩
   ·rw[if_neg hm] at h;cases h
theorem memI_none {pc:Int}(h:memI k pc=none):pc < 0∨(k.l.length:Int)≤pc∨∃ j,0≤pc∧pc < k.l.length∧k.l[pc.toNat]?=some j∧memB j.op=false:=by
 unfold memI at h
 by_cases h0:pc < 0
 ·exact .inl h0
 ·rw[if_neg h0] at h
  cases hk:k.l[pc.toNat]? with
  | none=>exact .inr (.inl (by have:=List.getElem?_eq_none_iff.1 hk;omega))
  | some j=>
   rw[hk] at h
   simp only at h
   have:=(List.getElem?_eq_some_iff.1 hk).1
   by_cases hm:memB j.op=true
   ·rw[if_pos hm] at h;cases h
   ·exact .inr (.inr ⟨j,by omega,by omega,rfl,by simpa using hm⟩)
structure OkMc (k:Lk)(m:Mc):Prop where
 ws:U32s m.ws
 len:m.ws.length=tot k.zs
 cs:∀ t,t < k.n→Eight (m.cs t).xs
structure OkLk (k:Lk):Prop where
 code:prgB ⟨k.l,k.lo,k.un⟩=true
 k32:∀ i∈k.l,0≤i.k∧i.k < 4294967296
 zs:RightZ k.zs
 few:tot k.zs≤8192
 n1:1≤k.n
 n64:k.n≤64
 each:k.each≤8
theorem OkLk.parts (h:OkLk k):1≤k.l.length∧k.l.length≤64∧0≤k.lo∧k.lo < k.l.length∧0≤k.un∧k.un < k.l.length∧∀ i∈k.l,rightB i k.l.length=true:=by
 have hc:=h.code
 unfold prgB at hc
 simp only[Bool.and_eq_true,decide_eq_true_eq,List.all_eq_true] at hc
 obtain⟨h1,h2,h3,h4,h5,h6,h7⟩:=hc
 exact⟨h1,h2,h3,h5,h4,h6,h7⟩
theorem OkLk.ok (h:OkLk k):∀ i∈k.l,OkI i:=fun i hi=>ok_of (h.parts.2.2.2.2.2.2 i hi) (h.k32 i hi).1 (h.k32 i hi).2
theorem OkLk.okM (h:OkLk k){pc:Int}(hm:memI k pc=some i):OkM i k.l.length:=by
 obtain⟨_,_,h3,h4⟩:=memI_is hm
 have hi:=List.mem_of_getElem? h3
 exact okM_of (h.parts.2.2.2.2.2.2 i hi) (h.k32 i hi).1 (h.k32 i hi).2 h4
theorem updN_eight {cs:Nat→Cor}{c:Cor}{n:Nat}(h:∀ t,t < n→Eight (cs t).xs)(hc:Eight c.xs)(t:Nat):∀ s,s < n→Eight (updN cs t c s).xs:=fun s hs=>by
 unfold updN
 split
 ·exact hc
 ·exact h s hs
end
end Go.Proofs.YthdgehcghklflaaGreatDoor
namespace Go.Proofs.YthdgehcghklflaaGreatDoor
set_option maxRecDepth 100000
open Go.ChangeShapes Go.WideShapes Go.ChangeAt Go.RowKit
section
variable {w w':World}{x n each N:Nat}{R:RM}{free:Nat→List Nat}{gen out:List Int}
theorem far {W W3:World}{o:Obj}{r:Option Nat}{b:Nat}{t:TypeId}{cs:Array Value}(h:(W.drew.alloc o).grownBy W3 r)(hb:Bk W b t cs)(hne:some b≠r):Bk W3 b t cs:=Bk.grown (Bk.alloc (w:=W.drew) hb o) h hne
end
def Sli (w:World)(a:Option Addr)(l:List Ins):Prop:=
 0 < l.length→∃ b off,a=some ⟨b,off,none⟩∧b < w.heap.size∧∀ k i,l[k]?=some i→∀ j,j < 8→w.cell? ⟨b,off+k * 8+j,none⟩=(insC i)[j]?
def Pv (w:World)(v:Value)(c:Prg):Prop:=∃ a cap,v=.agg #[.slice a c.l.length cap,.int .i64 c.lo,.int .i64 c.un]∧c.l.length≤cap∧cap≤maxLen∧(a=none→cap=0)∧Sli w a c.l
section
variable {w w':World}{a:Option Addr}{l:List Ins}{v:Value}{c:Prg}
theorem Sli.below (h:Sli w a l)(hb:Below w.heap.size w w'):Sli w' a l:=by
 intro h0
 obtain⟨b,off,e,hlt,hc⟩:=h h0
 exact⟨b,off,e,Nat.lt_of_lt_of_le hlt hb.size,fun k i hk j hj=>(hb.cell (p:=⟨b,off+k * 8+j,none⟩) hlt).trans (hc k i hk j hj)⟩
theorem Pv.below (h:Pv w v c)(hb:Below w.heap.size w w'):Pv w' v c:=by
 obtain⟨a,cap,e,h1,h2,h4,h3⟩:=h
 exact⟨a,cap,e,h1,h2,h4,h3.below hb⟩
theorem sli_own {t:TypeId}{base cap:Nat}(h:w.ownsRow base t 8 (.slice a l.length cap) l.length (progC l)):Sli w a l:=by
 intro h0
 obtain⟨a2,cap2,e,_,_,hg⟩:=own_is h
 simp only[Value.slice.injEq] at e
 obtain⟨rfl,-,rfl⟩:=e
 obtain⟨g,rfl,_,_,hlt,_,hc⟩:=hg h0
 refine⟨g,0,rfl,hlt,fun k i hk j hj=>?_⟩
 have hkl:=(List.getElem?_eq_some_iff.1 hk).1
 rw[Nat.zero_add,hc _ (by omega),progC_at hk hj]
theorem own_nil {t:TypeId}{base n cap size:Nat}{xs:List Value}(h:w.ownsRow base t size (.slice a n cap) n xs)(e:a=none):cap=0:=by
 subst e
 rcases h.2 with ⟨h,_⟩ | ⟨g,c,cur,h,_⟩
 ·injection h
 ·injection h with h;cases h
theorem Sli.at_ (h:Sli w a l){k:Nat}{i:Ins}(hk:l[k]?=some i):∃ b off,a=some ⟨b,off,none⟩∧b < w.heap.size∧w.cell? ⟨b,off+k * 8,none⟩=some (.int .i64 i.op)∧w.cell? ⟨b,off+k * 8+1,none⟩=some (.int .i64 i.d)∧w.cell? ⟨b,off+k * 8+2,none⟩=some (.int .i64 i.s)∧w.cell? ⟨b,off+k * 8+3,none⟩=some (.int .i64 i.t)∧
 w.cell? ⟨b,off+k * 8+4,none⟩=some (.int .i64 i.u)∧w.cell? ⟨b,off+k * 8+5,none⟩=some (.int .i64 i.a)∧w.cell? ⟨b,off+k * 8+6,none⟩=some (.int .u32 i.k)∧w.cell? ⟨b,off+k * 8+7,none⟩=some (.int .i64 i.pl):=by
 have hkl:=(List.getElem?_eq_some_iff.1 hk).1
 obtain⟨b,off,e,hlt,hc⟩:=h (by omega)
 exact⟨b,off,e,hlt,hc k i hk 0 (by omega),hc k i hk 1 (by omega),hc k i hk 2 (by omega),hc k i hk 3 (by omega),hc k i hk 4 (by omega),hc k i hk 5 (by omega),hc k i hk 6 (by omega),hc k i hk 7 (by omega)⟩
end
end Go.Proofs.YthdgehcghklflaaGreatDoor
namespace Go.Proofs.YthdgehcghklflaaGreatDoor
def tkK (n:Nat):Lk:=⟨tkL,0,5,[1,1],0,n⟩
def tc (a b pc:Int):Cor:=⟨[0,a,b,0,0,0,0,0],pc⟩
section
variable {n t:Nat}{m:Mc}{a b pc x y:Int}{late:Bool}
theorem tk_lock (h:m.cs t=tc a b pc):beginM (tkK n) m t false=({ m with cs:=updN m.cs t (tc a b 0) },⟨[],-1,-1,false,false,0⟩):=by
 unfold beginM;rw[h];rfl
theorem tk_unlock (h:m.cs t=tc a b pc):beginM (tkK n) m t true=({ m with cs:=updN m.cs t (tc (tw (a+1)) b 6) },⟨[],-1,-1,false,false,0⟩):=by
 unfold beginM;rw[h];rfl
theorem tk_0 (h:m.cs t=tc a b 0)(hw:m.ws=[x,y]):stepM (tkK n) m t late=({ m with ws:=[tw (x+1),y],cs:=updN m.cs t (tc x b 2) },⟨[1],-1,0,true,false,0⟩):=by
 obtain⟨ws,pn,cs⟩:=m
 simp only at h hw
 subst hw
 unfold stepM
 simp only[h]
 kernel_rfl
theorem tk_2 (h:m.cs t=tc a b 2)(hw:m.ws=[x,y]):stepM (tkK n) m t late=if y=a then ({ m with cs:=updN m.cs t (tc a y 4) },⟨[2],1,1,false,false,0⟩) else ({ m with cs:=updN m.cs t (tc a y 2) },⟨[],-1,1,false,true,0⟩):=by
 obtain⟨ws,pn,cs⟩:=m
 simp only at h hw
 subst hw
 unfold stepM
 simp only[h]
 have e:∀ (A B C:Mc×Ot),(if (decide (y=a) != decide ((0:Int)=1))=true then A else if late=false∨(-1:Int) < 0 then B else C)=if y=a then A else B:=fun A B C=>by
  by_cases e:y=a <;> simp[e]
 refine Eq.trans ?_ (e _ _ (runM (tkK n) ⟨[x,y],pn,cs⟩ t (tc a y (-1)) ⟨[],0,1,false,false,0⟩))
 kernel_rfl
theorem tk_6 (h:m.cs t=tc a b 6)(hw:m.ws=[x,y]):stepM (tkK n) m t late=({ m with ws:=[x,a],cs:=updN m.cs t (tc a b 8) },⟨[4],2,1,true,false,0⟩):=by
 obtain⟨ws,pn,cs⟩:=m
 simp only at h hw
 subst hw
 unfold stepM
 simp only[h]
 kernel_rfl
end
def TkT (st:Int)(s:Nat)(act la:Int)(c:Cor):Prop:=
 (act=0∧(la=0∨la=10)∧∃ a b pc,c=tc a b pc)∨(act=1∧la=1∧∃ a b,c=tc a b 0)∨(act=1∧la=2)∨
 (act=2∧la=5∧∃ b,c=tc (tw (st+s)) b 4)∨(act=3∧la=8∧∃ b,c=tc (tw (st+s+1)) b 6)
structure TkI (n:Nat)(st:Int)(s:Nat)(r:Rn):Prop where
 bad:r.bad=false
 tr:Trace n r.l
 now:∀ y∈r.l,y.now=0
 ws:r.m.ws=[tw (st+s+ow1 r.l+(faRun r.l).q.length),tw (st+s)]
 qs:∀ j t:Nat,(faRun r.l).q[j]?=some (t:Int)→r.act t=1∧∃ b,r.m.cs t=tc (tw (st+s+ow1 r.l+j)) b 2
 th:∀ t:Nat,t < n→TkT st s (r.act t) (lastD r.l t) (r.m.cs t)
theorem tk_new (n:Nat)(st:Int)(h0:0≤st)(h1:st < 4294967296)(r7:List Int)(h7:∀ t,nth r7 t=0):TkI n st 0 (rn0 (tkK n) [st,st] r7):=by
 have e:tw (st+((0:Nat):Int))=st:=by unfold tw;omega
 refine⟨rfl,trace_nil _,fun y hy=>by simp[rn0] at hy,?_,fun j t hq=>by simp[rn0,faRun,fa0] at hq,fun t ht=>.inl ⟨rfl,.inl rfl,0,0,0,?_⟩⟩
 ·show [st,st]=[tw (st+((0:Nat):Int)+((0:Nat):Int)+((0:Nat):Int)),tw (st+((0:Nat):Int))]
  rw[show st+((0:Nat):Int)+((0:Nat):Int)+((0:Nat):Int)=st+((0:Nat):Int) by omega,e]
 ·show (⟨[0,0,0,0,0,0,0,nth r7 t],0⟩:Cor)=_
  rw[h7];rfl
section
variable {n:Nat}{st:Int}{s:Nat}{r:Rn}{t:Nat}
theorem tk_call (h:TkI n st s r)(ht:t < n)(ha:r.act t=0):TkI n st s (cameR { m:=(beginM (tkK n) r.m t false).1,act:=updN r.act t 1,l:=r.l++[⟨1,t,0⟩],bad:=r.bad } t (beginM (tkK n) r.m t false).2):=by
 obtain⟨_,hla,a,b,pc,hc⟩:r.act t=0∧(lastD r.l t=0∨lastD r.l t=10)∧∃ a b pc,r.m.cs t=tc a b pc:=by
  rcases h.th t ht with h1 | h1 | h1 | h1 | h1
  ·exact h1
  all_goals (exfalso;have:=h1.1;omega)
 rw[tk_lock hc,came_nothing]
 have hown:ownK (lastD r.l t)=false:=by unfold ownK;simp;omega
 have e1:(faRun (r.l++[⟨1,(t:Int),0⟩])).q=(faRun r.l).q:=q_other h.tr (by simp) (by show lastD r.l t≠2;omega)
 have e2:ow1 (r.l++[⟨1,(t:Int),0⟩])=ow1 r.l:=by unfold ow1;rw[ow_other h.tr (by simp) rfl hown]
 have hnq:∀ j,(faRun r.l).q[j]?≠some (t:Int):=fun j hj=>by
  have:=((mem_q _ h.tr).1 t).1 (List.mem_of_getElem? hj)
  omega
 refine⟨h.bad,trace_more h.tr h.now rfl ⟨by simp,by simpa using ht,.inl ⟨rfl,?_⟩⟩,now_more h.now,?_,fun j t' hq=>?_,fun t' ht'=>?_⟩
 ·rw[la_is]
  rcases hla with e | e
  ·exact .inl e
  ·exact .inr (.inr (.inr e))
 ·show r.m.ws=_
  rw[e1,e2];exact h.ws
 ·rw[e1] at hq
  have hne:t'≠t:=fun e=>hnq j (e ▸ hq)
  obtain⟨q1,b',q2⟩:=h.qs j t' hq
  simp only
  rw[updN_other hne,updN_other hne,e2]
  exact⟨q1,b',q2⟩
 ·simp only
  by_cases e:t'=t
  ·subst e
   rw[updN_same,updN_same,last_same]
   exact .inr (.inl ⟨rfl,rfl,a,b,rfl⟩)
  ·rw[updN_other e,updN_other e,last_other _ _ _ _ e]
   exact h.th t' ht'
theorem tk_not_q (h:TkI n st s r)(hl:lastD r.l t≠2){j t':Nat}(hq:(faRun r.l).q[j]?=some (t':Int)):t'≠t:=fun e=>by
 subst e
 exact hl (((mem_q _ h.tr).1 t').1 (List.mem_of_getElem? hq))
theorem tk_free (h:TkI n st s r)(ht:t < n)(ha:r.act t=2):TkI n st s (cameR { m:=(beginM (tkK n) r.m t true).1,act:=updN r.act t 3,l:=r.l++[⟨8,t,0⟩],bad:=r.bad } t (beginM (tkK n) r.m t true).2):=by
 obtain⟨_,hla,b,hc⟩:r.act t=2∧lastD r.l t=5∧∃ b,r.m.cs t=tc (tw (st+s)) b 4:=by
  rcases h.th t ht with h1 | h1 | h1 | h1 | h1
  case inr.inr.inr.inl=>exact h1
  all_goals (exfalso;have:=h1.1;omega)
 rw[tk_unlock hc,came_nothing]
 have hown:ownK (lastD r.l t)=true:=by unfold ownK;simp;omega
 have e1:(faRun (r.l++[⟨8,(t:Int),0⟩])).q=(faRun r.l).q:=q_other h.tr (by simp) (by show lastD r.l t≠2;omega)
 have e2:ow1 (r.l++[⟨8,(t:Int),0⟩])=ow1 r.l:=by unfold ow1;rw[ow_take rfl,ow_is h.tr hown]
 refine⟨h.bad,trace_more h.tr h.now rfl ⟨by simp,by simpa using ht,?_⟩,now_more h.now,?_,fun j t' hq=>?_,fun t' ht'=>?_⟩
 ·rw[la_is]
  exact .inr (.inr (.inr (.inr (.inr (.inr (.inl ⟨rfl,hla⟩))))))
 ·show r.m.ws=_
  rw[e1,e2];exact h.ws
 ·rw[e1] at hq
  have hne:=tk_not_q h (t:=t) (by omega) hq
  obtain⟨q1,b',q2⟩:=h.qs j t' hq
  simp only
  rw[updN_other hne,updN_other hne,e2]
  exact⟨q1,b',q2⟩
 ·simp only
  by_cases e:t'=t
  ·subst e
   rw[updN_same,updN_same,last_same]
   refine .inr (.inr (.inr (.inr ⟨rfl,rfl,b,?_⟩)))
   rw[show tw (tw (st+s)+1)=tw (st+s+1) by unfold tw;omega]
  ·rw[updN_other e,updN_other e,last_other _ _ _ _ e]
   exact h.th t' ht'
theorem tk_s0 (h:TkI n st s r)(ht:t < n)(ha:r.act t=1)(hla:lastD r.l t=1){a b:Int}(hc:r.m.cs t=tc a b 0)(late:Bool):
 TkI n st s (cameR { r with m:=(stepM (tkK n) r.m t late).1 } t (stepM (tkK n) r.m t late).2):=by
 rw[tk_0 hc h.ws,came_mark]
 have hown:ownK (lastD r.l t)=false:=by unfold ownK;simp;omega
 have e1:(faRun (r.l++[⟨markK 1,(t:Int),0⟩])).q=(faRun r.l).q++[(t:Int)]:=q_enq h.tr rfl (by show lastD r.l t≠2;omega)
 have e2:ow1 (r.l++[⟨markK 1,(t:Int),0⟩])=ow1 r.l:=by unfold ow1;rw[ow_other h.tr (by simp) rfl hown]
 refine⟨h.bad,trace_more h.tr h.now rfl ⟨by simp,by simpa using ht,?_⟩,now_more h.now,?_,fun j t' hq=>?_,fun t' ht'=>?_⟩
 ·rw[la_is]
  exact .inr (.inl ⟨.inl rfl,hla⟩)
 ·show [_,_]=[_,_]
  rw[e1,e2,List.length_append,List.length_singleton]
  congr 1
  unfold tw;omega
 ·rw[e1,List.getElem?_append] at hq
  simp only
  split at hq
  ·have hne:=tk_not_q h (t:=t) (by omega) hq
   obtain⟨q1,b',q2⟩:=h.qs j t' hq
   rw[updN_other hne,e2]
   exact⟨q1,b',q2⟩
  ·have hj:j - (faRun r.l).q.length=0:=by
    have:=(List.getElem?_eq_some_iff.1 hq).1
    simp at this;omega
   rw[hj] at hq
   simp at hq
   have e:t'=t:=by omega
   subst e
   have hjj:j=(faRun r.l).q.length:=by omega
   subst hjj
   rw[updN_same,e2]
   exact⟨ha,b,rfl⟩
 ·simp only
  by_cases e:t'=t
  ·subst e
   rw[updN_same,last_same]
   exact .inr (.inr (.inl ⟨ha,rfl⟩))
  ·rw[updN_other e,last_other _ _ _ _ e]
   exact h.th t' ht'
theorem tk_s6 (h:TkI n st s r)(ht:t < n)(ha:r.act t=3)(hla:lastD r.l t=8){b:Int}(hc:r.m.cs t=tc (tw (st+s+1)) b 6)(late:Bool):
 TkI n st (s+1) (cameR { r with m:=(stepM (tkK n) r.m t late).1 } t (stepM (tkK n) r.m t late).2):=by
 rw[tk_6 hc h.ws,came_over (by exact ha)]
 have hown:ownK (lastD r.l t)=true:=by unfold ownK;simp;omega
 have ht1:Trace n (r.l++[⟨9,(t:Int),0⟩]):=trace_more h.tr h.now rfl ⟨by simp,by simpa using ht,by rw[la_is];exact .inr (.inr (.inr (.inr (.inr (.inr (.inr (.inl ⟨rfl,hla⟩)))))))⟩
 have hl1:lastD (r.l++[⟨9,(t:Int),0⟩]) t=9:=last_same _ _ _
 have e0:(faRun r.l).ow=t:=ow_is h.tr hown
 have o1:(faRun (r.l++[⟨9,(t:Int),0⟩])).ow=-1:=ow_none h.tr rfl hown
 have o2:(faRun (r.l++[⟨9,(t:Int),0⟩]++[⟨10,(t:Int),0⟩])).ow=-1:=by rw[ow_other ht1 (by simp) rfl (by show ownK (lastD (r.l++[⟨9,(t:Int),0⟩]) t)=false;rw[hl1];rfl),o1]
 have e1:(faRun (r.l++[⟨9,(t:Int),0⟩]++[⟨10,(t:Int),0⟩])).q=(faRun r.l).q:=by
  rw[q_other ht1 (by simp) (by show lastD (r.l++[⟨9,(t:Int),0⟩]) t≠2;omega),q_other h.tr (by simp) (by show lastD r.l t≠2;omega)]
 have k0:ow1 r.l=1:=by unfold ow1;rw[e0,if_neg (by omega)]
 have k1:ow1 (r.l++[⟨9,(t:Int),0⟩]++[⟨10,(t:Int),0⟩])=0:=by unfold ow1;rw[o2,if_pos rfl]
 refine⟨h.bad,trace_more ht1 (now_more h.now) rfl ⟨by simp,by simpa using ht,?_⟩,now_more (now_more h.now),?_,fun j t' hq=>?_,fun t' ht'=>?_⟩
 ·rw[la_is]
  exact .inr (.inr (.inr (.inr (.inr (.inr (.inr (.inr ⟨rfl,hl1⟩)))))))
 ·show [_,_]=[_,_]
  rw[e1,k1,k0]
  have w1:st+(s:Int)+((1:Nat):Int)+((faRun r.l).q.length:Int)=st+((s+1:Nat):Int)+((0:Nat):Int)+((faRun r.l).q.length:Int):=by omega
  have w2:st+(s:Int)+1=st+((s+1:Nat):Int):=by omega
  rw[w1,w2]
 ·rw[e1] at hq
  have hne:=tk_not_q h (t:=t) (by omega) hq
  obtain⟨q1,b',q2⟩:=h.qs j t' hq
  simp only
  rw[updN_other hne,updN_other hne,k1]
  refine⟨q1,b',q2.trans ?_⟩
  rw[k0,show st+(s:Int)+((1:Nat):Int)+(j:Int)=st+((s+1:Nat):Int)+((0:Nat):Int)+(j:Int) by omega]
 ·simp only
  by_cases e:t'=t
  ·subst e
   rw[updN_same,updN_same,last_same]
   exact .inl ⟨rfl,.inr rfl,_,_,_,rfl⟩
  ·rw[updN_other e,updN_other e,last_other _ _ _ _ e,last_other _ _ _ _ e]
   have hnow:¬ ownK (lastD r.l t')=true:=fun hh=>e (by have:=ow_only h.tr hh hown;omega)
   rcases h.th t' ht' with h1 | h1 | h1 | h1 | h1
   ·exact .inl h1
   ·exact .inr (.inl h1)
   ·exact .inr (.inr (.inl h1))
   ·exact absurd (by rw[h1.2.1];rfl) hnow
   ·exact absurd (by rw[h1.2.1];rfl) hnow
theorem tk_s2 (h:TkI n st s r)(hn:n≤64)(ht:t < n)(ha:r.act t=1)(hla:lastD r.l t=2)(late:Bool):
 TkI n st s (cameR { r with m:=(stepM (tkK n) r.m t late).1 } t (stepM (tkK n) r.m t late).2):=by
 obtain⟨m1,m2,m3⟩:=mem_q _ h.tr
 obtain⟨j,hj⟩:=List.getElem?_of_mem ((m1 t).2 hla)
 obtain⟨_,b,hc⟩:=h.qs j t hj
 have hjl:j < (faRun r.l).q.length:=(List.getElem?_eq_some_iff.1 hj).1
 have hfew:=nodup_few n _ m2 m3
 have hown:ownK (lastD r.l t)=false:=by rw[hla];rfl
 have hne:∀ j' t':Nat,(faRun r.l).q[j']?=some (t':Int)→j'≠j→t'≠t:=fun j' t' hq hjj e=>by
  subst e
  rw[←hj] at hq
  have hlt:=(List.getElem?_eq_some_iff.1 hj).1
  have hlt':j' < (faRun r.l).q.length:=by
   rcases Nat.lt_or_ge j' (faRun r.l).q.length with h | h
   ·exact h
   ·rw[List.getElem?_eq_none h,hj] at hq;cases hq
  rw[List.getElem?_eq_getElem hlt,List.getElem?_eq_getElem hlt'] at hq
  exact hjj ((List.getElem_inj m2).1 (Option.some.inj hq))
 have ho:ow1 r.l≤1:=by unfold ow1;split <;> omega
 rw[tk_2 hc h.ws]
 by_cases e:tw (st+s)=tw (st+s+ow1 r.l+j)
 ·have hz:ow1 r.l=0∧j=0:=by unfold tw at e;omega
  obtain⟨z1,rfl⟩:=hz
  rw[if_pos e,came_got (by exact ha)]
  have o0:(faRun r.l).ow=-1:=by
   unfold ow1 at z1
   by_cases hh:(faRun r.l).ow=-1
   ·exact hh
   ·rw[if_neg hh] at z1;omega
  obtain⟨rest,hq0⟩:∃ rest,(faRun r.l).q=(t:Int) :: rest:=by
   cases hqq:(faRun r.l).q with
   | nil=>rw[hqq] at hj;simp at hj
   | cons y rest=>rw[hqq] at hj;simp at hj;subst hj;exact⟨rest,rfl⟩
  have ht1:Trace n (r.l++[⟨3,(t:Int),0⟩]):=trace_more h.tr h.now rfl ⟨by simp,by simpa using ht,by
   rw[la_is,hq0,o0]
   exact .inr (.inr (.inl ⟨rfl,hla,rfl,rfl⟩))⟩
  have hl1:lastD (r.l++[⟨3,(t:Int),0⟩]) t=3:=last_same _ _ _
  have e1:(faRun (r.l++[⟨3,(t:Int),0⟩]++[⟨5,(t:Int),0⟩])).q=rest:=by
   rw[q_other ht1 (by simp) (by show lastD (r.l++[⟨3,(t:Int),0⟩]) t≠2;omega),q_head h.tr (by simp) hq0]
  have k1:ow1 (r.l++[⟨3,(t:Int),0⟩]++[⟨5,(t:Int),0⟩])=1:=by
   unfold ow1;rw[ow_take rfl,if_neg (by show ¬ (t:Int)=-1;omega)]
  refine⟨h.bad,trace_more ht1 (now_more h.now) rfl ⟨by simp,by simpa using ht,?_⟩,now_more (now_more h.now),?_,fun j t' hq=>?_,fun t' ht'=>?_⟩
  ·rw[la_is]
   exact .inr (.inr (.inr (.inr (.inl ⟨rfl,hl1⟩))))
  ·show r.m.ws=_
   rw[h.ws,e1,k1,z1,hq0,List.length_cons]
   have w1:st+(s:Int)+((0:Nat):Int)+((rest.length+1:Nat):Int)=st+(s:Int)+((1:Nat):Int)+(rest.length:Int):=by omega
   rw[w1]
  ·rw[e1] at hq
   have hq2:(faRun r.l).q[j+1]?=some (t':Int):=by rw[hq0];simpa using hq
   have hnt:=hne (j+1) t' hq2 (by omega)
   obtain⟨q1,b',q2⟩:=h.qs (j+1) t' hq2
   simp only
   rw[updN_other hnt,updN_other hnt,k1]
   refine⟨q1,b',q2.trans ?_⟩
   rw[z1,show st+(s:Int)+((0:Nat):Int)+((j+1:Nat):Int)=st+(s:Int)+((1:Nat):Int)+(j:Int) by omega]
  ·simp only
   by_cases e':t'=t
   ·subst e'
    rw[updN_same,updN_same,last_same]
    refine .inr (.inr (.inr (.inl ⟨rfl,rfl,tw (st+s),?_⟩)))
    rw[←e]
   ·rw[updN_other e',updN_other e',last_other _ _ _ _ e',last_other _ _ _ _ e']
    exact h.th t' ht'
 ·rw[if_neg e,came_nothing]
  refine⟨h.bad,h.tr,h.now,h.ws,fun j' t' hq=>?_,fun t' ht'=>?_⟩
  ·simp only
   by_cases e':t'=t
   ·have hjj:j'=j:=by
     rcases Nat.decEq j' j with hh | hh
     ·exact absurd e' (hne j' t' hq hh)
     ·exact hh
    subst hjj
    subst e'
    rw[updN_same]
    exact⟨ha,_,rfl⟩
   ·rw[updN_other e']
    exact h.qs j' t' hq
  ·simp only
   by_cases e':t'=t
   ·subst e'
    exact .inr (.inr (.inl ⟨ha,hla⟩))
   ·rw[updN_other e']
    exact h.th t' ht'
theorem tk_op (hn:n≤64)(o:Opn3)(h:∃ s,TkI n st s r):∃ s,TkI n st s (opR (tkK n) r o):=by
 refine opR_keep (I:=fun r=>∃ s,TkI n st s r) ?_ ?_ ?_ r o h
 ·rintro r t ⟨s,h⟩ ht _ ha;exact⟨s,tk_call h ht ha⟩
 ·rintro r t ⟨s,h⟩ ht _ ha;exact⟨s,tk_free h ht ha⟩
 ·rintro r t late ⟨s,h⟩ ht _ ha
  rcases h.th t ht with h1 | h1 | h1 | h1 | h1
  ·exfalso;have:=h1.1;omega
  ·obtain⟨h2,h3,a,b,hc⟩:=h1
   exact⟨s,tk_s0 h ht h2 h3 hc late⟩
  ·exact⟨s,tk_s2 h hn ht h1.1 h1.2 late⟩
  ·exfalso;have:=h1.1;omega
  ·obtain⟨h2,h3,b,hc⟩:=h1
   exact⟨s+1,tk_s6 h ht h2 h3 hc late⟩
end
structure Prog (X:Type)(n:Nat)(op:X→Nat→X)(done:X→Prop) where
 I:X→Prop
 mu:X→Nat
 en:X→Nat→Prop
 keep:∀ x t,t < n→I x→I (op x t)
 le:∀ x t,I x→t < n→mu (op x t)≤mu x
 lt:∀ x t,I x→t < n→en x t→mu (op x t) < mu x
 stays:∀ x t t',I x→t < n→t' < n→en x t→t'≠t→en (op x t') t∨mu (op x t') < mu x
 some_:∀ x,I x→¬ done x→∃ t,t < n∧en x t
def turnP {X:Type}(n:Nat)(op:X→Nat→X)(x:X):X:=(List.range n).foldl op x
def turnsP {X:Type}(n:Nat)(op:X→Nat→X):Nat→X→X
 | 0,x=>x
 | j+1,x=>turnsP n op j (turnP n op x)
section
variable {X:Type}{n:Nat}{op:X→Nat→X}{done:X→Prop}
theorem prog_keep (P:Prog X n op done):∀ (l:List Nat) (x:X),P.I x→(∀ t∈l,t < n)→P.I (l.foldl op x)
 | [],x,h,_=>h
 | t :: l,x,h,hl=>prog_keep P l _ (P.keep x t (hl t (by simp)) h) fun t ht=>hl t (by simp[ht])
theorem prog_le (P:Prog X n op done):∀ (l:List Nat) (x:X),P.I x→(∀ t∈l,t < n)→P.mu (l.foldl op x)≤P.mu x
 | [],x,h,_=>Nat.le_refl _
 | t :: l,x,h,hl=>Nat.le_trans (prog_le P l _ (P.keep x t (hl t (by simp)) h) fun t ht=>hl t (by simp[ht])) (P.le x t h (hl t (by simp)))
theorem prog_lt (P:Prog X n op done){t:Nat}(ht:t < n):∀ (l:List Nat) (x:X),P.I x→(∀ t∈l,t < n)→t∈l→P.en x t→P.mu (l.foldl op x) < P.mu x
 | [],x,_,_,hm,_=>by simp at hm
 | y :: l,x,h,hl,hm,he=>by
  have hy:=hl y (by simp)
  have hI:=P.keep x y hy h
  have hle:=prog_le P l (op x y) hI fun t ht=>hl t (by simp[ht])
  by_cases e:y=t
  ·subst e
   exact Nat.lt_of_le_of_lt hle (P.lt x y h ht he)
  ·rcases P.stays x t y h ht hy he e with h1 | h1
   ·have hm2:t∈l:=by
     rcases List.mem_cons.1 hm with hm | hm
     ·exact absurd hm.symm e
     ·exact hm
    exact Nat.lt_of_lt_of_le (prog_lt P ht l _ hI (fun t ht=>hl t (by simp[ht])) hm2 h1) (P.le x y h hy)
   ·exact Nat.lt_of_le_of_lt hle h1
theorem prog_turn (P:Prog X n op done){x:X}(h:P.I x):P.I (turnP n op x):=prog_keep P _ x h fun t ht=>List.mem_range.1 ht
theorem prog_turns (P:Prog X n op done):∀ (j:Nat) (x:X),P.I x→P.I (turnsP n op j x)
 | 0,x,h=>h
 | j+1,x,h=>prog_turns P j _ (prog_turn P h)
theorem prog_less (P:Prog X n op done){x:X}(h:P.I x)(hi:¬ done x):P.mu (turnP n op x) < P.mu x:=by
 obtain⟨t,ht,he⟩:=P.some_ x h hi
 exact prog_lt P ht _ x h (fun t ht=>List.mem_range.1 ht) (List.mem_range.2 ht) he
theorem prog_ends (P:Prog X n op done):∀ (j:Nat) (x:X),P.I x→P.mu x < j→∃ i,i≤P.mu x∧done (turnsP n op i x)∧∀ i',i' < i→¬ done (turnsP n op i' x)
 | 0,x,_,hj=>by omega
 | j+1,x,h,hj=>by
  by_cases hi:done x
  ·exact⟨0,Nat.zero_le _,hi,fun i' h=>by omega⟩
  ·have hlt:=prog_less P h hi
   obtain⟨i,h1,h2,h3⟩:=prog_ends P j (turnP n op x) (prog_turn P h) (by omega)
   refine⟨i+1,by omega,h2,fun i' hi'=>?_⟩
   match i',hi' with
   | 0,_=>exact hi
   | i'+1,hi'=>exact h3 i' (by omega)
end
def turnOp (k:Lk)(r:Rn)(t:Nat):Rn:=opR k r ⟨if r.act t=2 then 2 else 3,t,false⟩
def Idle (n:Nat)(r:Rn):Prop:=∀ t,t < n→r.act t=0
theorem turnOp_idle {k:Lk}{r:Rn}{t:Nat}(h:r.act t=0):turnOp k r t=r:=by
 unfold turnOp opR
 simp only[h]
 split
 ·rfl
 ·simp[h]
abbrev Fin (k:Lk):=Prog Rn k.n (turnOp k) (Idle k.n)
def sumN (f:Nat→Nat):Nat→Nat
 | 0=>0
 | n+1=>sumN f n+f n
theorem sumN_le (f:Nat→Nat)(c:Nat):∀ n,(∀ t,t < n→f t≤c)→sumN f n≤n * c
 | 0,_=>by simp[sumN]
 | n+1,h=>by
  have h1:=sumN_le f c n fun t ht=>h t (by omega)
  have h2:=h n (by omega)
  rw[Nat.add_mul,Nat.one_mul]
  unfold sumN;omega
theorem sumN_congr {f g:Nat→Nat}:∀ n,(∀ t,t < n→f t=g t)→sumN f n=sumN g n
 | 0,_=>rfl
 | n+1,h=>by unfold sumN;rw[sumN_congr n fun t ht=>h t (by omega),h n (by omega)]
section
variable {k:Lk}{r:Rn}{t:Nat}
theorem turn_step (hb:r.bad=false)(ht:t < k.n)(ha:r.act t=1∨r.act t=3):turnOp k r t=cameR { r with m:=(stepM k r.m t false).1 } t (stepM k r.m t false).2:=by
 unfold turnOp opR
 rw[if_neg (show ¬ r.act t=2 by omega)]
 simp only
 rw[if_neg (by rw[hb];simp;omega)]
 simp only[Int.toNat_natCast]
 rw[if_neg (by omega),if_neg (by omega),if_pos ha]
theorem turn_unlock (hb:r.bad=false)(ht:t < k.n)(ha:r.act t=2):turnOp k r t=cameR { m:=(beginM k r.m t true).1,act:=updN r.act t 3,l:=r.l++[⟨8,t,0⟩],bad:=r.bad } t (beginM k r.m t true).2:=by
 unfold turnOp opR
 rw[if_pos ha]
 simp only
 rw[if_neg (by rw[hb];simp;omega)]
 simp only[Int.toNat_natCast]
 rw[if_neg (by omega),if_pos trivial,if_pos ha]
 rfl
theorem turn_call (hb:r.bad=false)(ht:t < k.n)(ha:r.act t=0):opR k r ⟨1,t,false⟩=cameR { m:=(beginM k r.m t false).1,act:=updN r.act t 1,l:=r.l++[⟨1,t,0⟩],bad:=r.bad } t (beginM k r.m t false).2:=by
 unfold opR
 simp only
 rw[if_neg (by rw[hb];simp;omega)]
 simp only[Int.toNat_natCast]
 rw[if_pos trivial,if_pos ha]
 rfl
end
theorem sumN_less {f g:Nat→Nat}{t:Nat}(hl:f t < g t)(hr:∀ t',t'≠t→f t'=g t'):∀ n,t < n→sumN f n < sumN g n
 | 0,h=>by omega
 | n+1,h=>by
  unfold sumN
  by_cases e:n=t
  ·subst e
   have:sumN f n=sumN g n:=sumN_congr n fun s hs=>hr s (by omega)
   omega
  ·have:=sumN_less hl hr n (by omega)
   have:=hr n e
   omega
theorem op3_turn {k:Lk}{r:Rn}{t:Nat}(h:r.act t≠2):opR k r ⟨3,t,false⟩=turnOp k r t:=by unfold turnOp;rw[if_neg h]
theorem op2_turn {k:Lk}{r:Rn}{t:Nat}(h:r.act t=2):opR k r ⟨2,t,false⟩=turnOp k r t:=by unfold turnOp;rw[if_pos h]
structure Turned (W:Rn→Nat→Nat)(En:Rn→Nat→Prop)(r r':Rn)(t:Nat):Prop where
 less:En r t→W r' t < W r t
 rest:∀ t',t'≠t→W r' t'=W r t'
 none_:¬ En r t→W r' t=W r t∧∀ t',t'≠t→En r t'→En r' t'
 a1:r.act t=1→r'.act t=1∨r'.act t=2
 a2:r.act t=2→r'.act t=0∨r'.act t=3
 a3:r.act t=3→r'.act t=0∨r'.act t=3
structure Simple (k:Lk) where
 I:Rn→Prop
 W:Rn→Nat→Nat
 c:Nat
 En:Rn→Nat→Prop
 few:∀ r t,W r t≤c
 zero:∀ r t,r.act t=0→W r t=0
 range:∀ r t,I r→t < k.n→r.act t=0∨r.act t=1∨r.act t=2∨r.act t=3
 keep:∀ r o,I r→I (opR k r o)
 turned:∀ r t,I r→t < k.n→Turned W En r (turnOp k r t) t
 called:∀ r t,I r→t < k.n→r.act t=0→((opR k r ⟨1,t,false⟩).act t=1∨(opR k r ⟨1,t,false⟩).act t=2)∧∀ t',t'≠t→W (opR k r ⟨1,t,false⟩) t'=W r t'
 idle:∀ r t,I r→t < k.n→En r t→r.act t≠0
 some_:∀ r,I r→¬ Idle k.n r→∃ t,t < k.n∧En r t
def Simple.fin {k:Lk}(S:Simple k):Fin k where
 I:=S.I
 mu r:=sumN (S.W r) k.n
 en:=S.En
 keep r t _ h:=S.keep r _ h
 le r t h ht:=by
  have T:=S.turned r t h ht
  by_cases he:S.En r t
  ·exact Nat.le_of_lt (sumN_less (T.less he) T.rest k.n ht)
  ·refine Nat.le_of_eq (sumN_congr k.n fun s _=>?_)
   by_cases e:s=t
   ·subst e;exact(T.none_ he).1
   ·exact T.rest s e
 lt r t h ht he:=by
  have T:=S.turned r t h ht
  exact sumN_less (T.less he) T.rest k.n ht
 stays r t t' h ht ht' he hne:=by
  have T:=S.turned r t' h ht'
  by_cases he':S.En r t'
  ·exact .inr (sumN_less (T.less he') T.rest k.n ht')
  ·exact .inl ((T.none_ he').2 t (fun e=>hne e.symm) he)
 some_:=S.some_
section
variable {k:Lk}(S:Simple k)
theorem simple_ends (r:Rn)(h:S.I r):∃ i,i≤k.n * S.c∧Idle k.n (turnsP k.n (turnOp k) i r)∧(∀ i',i' < i→¬ Idle k.n (turnsP k.n (turnOp k) i' r))∧S.I (turnsP k.n (turnOp k) i r):=by
 have hmu:S.fin.mu r≤k.n * S.c:=sumN_le _ _ _ fun t _=>S.few r t
 obtain⟨i,i1,i2,i3⟩:=prog_ends S.fin (k.n * S.c+1) r h (by omega)
 exact⟨i,by omega,i2,i3,prog_turns S.fin i r h⟩
end
def stepsR (k:Lk)(t:Nat):Nat→Rn→Rn
 | 0,r=>r
 | j+1,r=>stepsR k t j (opR k r ⟨3,t,false⟩)
end Go.Proofs.YthdgehcghklflaaGreatDoor
namespace Go.Proofs.YthdgehcghklflaaGreatDoor
set_option maxRecDepth 100000
open Go.ChangeShapes Go.WideShapes Go.ChangeAt Go.RowKit
theorem Given.here {k:IntKind}{w:World}{a:Option Addr}{xs:List Int}(h:Given k w a xs){i:Nat}(hi:i < xs.length):∃ b off,a=some ⟨b,off,none⟩∧w.cell? ⟨b,off+i,none⟩=some (.int k (nth xs i)):=by
 obtain⟨b,off,e,_,hc⟩:=h (by omega)
 exact⟨b,off,e,hc i hi⟩
theorem Given.grown {k:IntKind}{w w':World}{a:Option Addr}{xs:List Int}(h:Given k w a xs)(hb:w.grownBy w' none):Given k w' a xs:=by
 intro h0
 obtain⟨b,off,e,hlt,hc⟩:=h h0
 exact⟨b,off,e,Nat.lt_of_lt_of_le hlt hb.size,fun i hi=>((below_of_grown hb).cell (p:=⟨b,off+i,none⟩) hlt).trans (hc i hi)⟩
end Go.Proofs.YthdgehcghklflaaGreatDoor
namespace Go.Proofs.YthdgehcghklflaaGreatDoor
def MsOk (c:Nat)(ms:List Int):Prop:=(∀ x∈ms,0≤x∧x < 5)∧ms.length≤c
theorem msOk_nil (c:Nat):MsOk c []:=⟨by simp,by simp⟩
theorem runL_ms {self:Int}{l:List Ins}(hl:∀ i∈l,OkI i):∀ (n:Nat) (xs:List Int) (pc:Int) (ms:List Int),(∀ x∈ms,0≤x∧x < 5)→(∀ x∈(runL self l n xs pc ms).ms,0≤x∧x < 5)∧(runL self l n xs pc ms).ms.length≤ms.length+n
 | n,xs,pc,ms,h=>by
  by_cases h9:pc < 0∨l.length≤pc
  ·rw[runL_out h9];exact⟨h,by simp⟩
  ·obtain⟨k,rfl⟩:∃ k:Nat,pc=k:=⟨pc.toNat,by omega⟩
   have hk:=List.getElem?_eq_getElem (l:=l) (i:=k) (by omega)
   have hi:=hl _ (List.getElem_mem (l:=l) (n:=k) (by omega))
   generalize l[k]=i at hk hi
   by_cases hm:memB i.op=true
   ·rw[runL_mem hk hm];exact⟨h,by simp⟩
   ·have hm':memB i.op=false:=by simpa using hm
    match n with
    | 0=>rw[runL_zero hk hm'];exact⟨h,by simp⟩
    | n+1=>
     by_cases h13:i.op=13
     ·rw[runL_done hk h13];exact⟨h,by simp⟩
     ·rw[runL_step hk hm' h13]
      by_cases h12:i.op=12
      ·rw[if_pos h12]
       have h2:=runL_ms (self:=self) hl n (oneR xs i self) (oneP xs k i) (ms++[i.k]) (fun x hx=>by
        rcases List.mem_append.1 hx with hx | hx
        ·exact h x hx
        ·simp at hx;subst hx
         exact⟨hi.k.1,by have:=hi.mark (.inl h12);omega⟩)
       exact⟨h2.1,by have:=h2.2;simp only[List.length_append,List.length_cons,List.length_nil] at this;omega⟩
      ·rw[if_neg h12]
       have h2:=runL_ms (self:=self) hl n (oneR xs i self) (oneP xs k i) ms h
       exact⟨h2.1,by have:=h2.2;omega⟩
section
variable {k:Lk}{m:Mc}{t:Nat}
theorem runM_ms (h:OkLk k)(c:Cor)(o:Ot):MsOk 256 (runM k m t c o).2.ms:=by
 have h2:=runL_ms (self:=(t:Int)) h.ok 256 c.xs c.pc [] (by simp)
 exact⟨h2.1,by have:=h2.2;simpa [runM] using this⟩
theorem begin_ms (h:OkLk k)(u:Bool):MsOk 256 (beginM k m t u).2.ms:=runM_ms h _ _
theorem step_ms (h:OkLk k)(late:Bool):MsOk 256 (stepM k m t late).2.ms:=by
 unfold stepM
 simp only
 split
 ·exact msOk_nil _
 ·split
  ·exact runM_ms h _ _
  ·split
   ·split
    ·exact msOk_nil _
    ·exact runM_ms h _ _
   ·split
    ·exact msOk_nil _
    ·unfold accM
     simp only
     repeat' split
     all_goals first | exact runM_ms h _ _ | exact msOk_nil _
end
theorem came_len (r:Rn)(t:Nat)(o:Ot):(cameR r t o).l.length≤r.l.length+o.ms.length+1:=by
 unfold cameR marksR enter
 simp only
 repeat' split
 all_goals (simp only[List.length_append,List.length_map,List.length_cons,List.length_nil];omega)
theorem op_len {k:Lk}(h:OkLk k)(r:Rn)(o:Opn3):(opR k r o).l.length≤r.l.length+258:=by
 unfold opR
 split
 ·omega
 ·simp only
  split
  ·split
   ·have h1:=came_len { (enter { r with act:=updN r.act o.t.toNat 1 } 1 o.t.toNat) with m:=(beginM k r.m o.t.toNat false).1 } o.t.toNat (beginM k r.m o.t.toNat false).2
    have h2:=(begin_ms h (m:=r.m) (t:=o.t.toNat) false).2
    simp only[enter,List.length_append,List.length_cons,List.length_nil] at h1 ⊢
    omega
   ·omega
  ·split
   ·split
    ·have h1:=came_len { (enter { r with act:=updN r.act o.t.toNat 3 } 8 o.t.toNat) with m:=(beginM k r.m o.t.toNat true).1 } o.t.toNat (beginM k r.m o.t.toNat true).2
     have h2:=(begin_ms h (m:=r.m) (t:=o.t.toNat) true).2
     simp only[enter,List.length_append,List.length_cons,List.length_nil] at h1 ⊢
     omega
    ·omega
   ·split
    ·have h1:=came_len { r with m:=(stepM k r.m o.t.toNat o.late).1 } o.t.toNat (stepM k r.m o.t.toNat o.late).2
     have h2:=(step_ms h (m:=r.m) (t:=o.t.toNat) o.late).2
     simp only at h1 ⊢
     omega
    ·omega
theorem runR_len {k:Lk}(h:OkLk k):∀ (l:List Opn3) (r:Rn),(runR k r l).l.length≤r.l.length+258 * l.length
 | [],r=>by simp[runR]
 | o :: l,r=>by
  have h1:=runR_len h l (opR k r o)
  have h2:=op_len h r o
  unfold runR at *
  simp only[List.foldl_cons,List.length_cons]
  omega
end Go.Proofs.YthdgehcghklflaaGreatDoor
