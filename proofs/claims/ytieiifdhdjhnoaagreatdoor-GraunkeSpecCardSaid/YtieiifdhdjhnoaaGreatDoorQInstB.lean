import Derived.Test.YtieiifdhdjhnoaaGreatDoorQWdA
import Derived.Test.YtieiifdhdjhnoaaGreatDoorQMem
import Derived.Deep.RegionLaw
import Derived.Lib.AtoiAll
import Derived.Lib.IndexMore
import Derived.Laws.BitsAllLaws
import Derived.Test.YtieiifdhdjhnoaaGreatDoorRows
import Derived.Deep.WholeRow
import Derived.Laws.Tables
import Derived.BigRegionIn
import Derived.Deep.QuietTactic
import Derived.BigQuiet
set_option linter.unusedVariables false
set_option maxHeartbeats 2000000
set_option maxRecDepth 100000
open Go.Value renaming int->N
open Go.IntKind renaming i64->O,u32->Z
open Option renaming none->V,some->T
open Bool renaming false->U,true->H
open Go.Obj renaming cells->G
open Go.Lib renaming hid->D
open Go.RowKit.Below renaming refl->C
open Nat renaming le_refl->L
namespace Go.Proofs.YtieiifdhdjhnoaaGreatDoor
section
open Go.ChangeShapes Go.WideShapes Go.ChangeAt Go.RowKit
theorem Cd (i j:aU)(w:World):(binOp .eql 117 (iv i) (iv j)).run Tryz.prog w=.ok (.bool (dg i j)) w:=by
 unfold iv
 have hu:=Tryz.underlying117
 go_simp
 unfold dg
 repeat' split
 all_goals simp[*]
def Ib (w:World)(g:Nat)(i:aU):Prop:=Bk w g 117 #[N O i.op,N O i.d,N O i.s,N O i.t,N O i.u,N O i.a,N Z i.k,N O i.pl]
theorem Ib.cells {w:World}{g:Nat}{i:aU}(h:Ib w g i):
 w.cell? ⟨g,0,V⟩=T (N O i.op)/\w.cell? ⟨g,1,V⟩=T (N O i.d)/\w.cell? ⟨g,2,V⟩=T (N O i.s)/\w.cell? ⟨g,3,V⟩=T (N O i.t)/\
 w.cell? ⟨g,4,V⟩=T (N O i.u)/\w.cell? ⟨g,5,V⟩=T (N O i.a)/\w.cell? ⟨g,6,V⟩=T (N Z i.k)/\w.cell? ⟨g,7,V⟩=T (N O i.pl):=
 ⟨Bk.cell h 0,Bk.cell h 1,Bk.cell h 2,Bk.cell h 3,Bk.cell h 4,Bk.cell h 5,Bk.cell h 6,Bk.cell h 7⟩
theorem Ib.below {w w':World}{g:Nat}{i:aU}(h:Ib w g i)(hb:Below w.heap.size w w'):Ib w' g i:=(hb.block g (Bk.lt h)).trans h
theorem Ib.zG {w:World}{b:Nat}{i:aU}(h:Ib w b i):
 (∀ g:fL w,g.x.cell? ⟨b,0,V⟩=T (N O i.op))/\(∀ g:fL w,g.x.cell? ⟨b,1,V⟩=T (N O i.d))/\(∀ g:fL w,g.x.cell? ⟨b,2,V⟩=T (N O i.s))/\(∀ g:fL w,g.x.cell? ⟨b,3,V⟩=T (N O i.t))/\
 (∀ g:fL w,g.x.cell? ⟨b,4,V⟩=T (N O i.u))/\(∀ g:fL w,g.x.cell? ⟨b,5,V⟩=T (N O i.a))/\(∀ g:fL w,g.x.cell? ⟨b,6,V⟩=T (N Z i.k))/\(∀ g:fL w,g.x.cell? ⟨b,7,V⟩=T (N O i.pl)):=by
 obtain⟨c0,c1,c2,c3,c4,c5,c6,c7⟩:=h.cells
 exact⟨fun g=>g.cell c0,fun g=>g.cell c1,fun g=>g.cell c2,fun g=>g.cell c3,fun g=>g.cell c4,fun g=>g.cell c5,fun g=>g.cell c6,fun g=>g.cell c7⟩
theorem Ib.made (w:World)(op d s t u a k pl:Int):Ib (w.alloc (G #[N O op,N O d,N O s,N O t,N O u,N O a,N Z k,N O pl] 117)) w.heap.size ⟨op,d,s,t,u,a,k,pl⟩:=Bk.made _ _ _
theorem BL {w x:World}{op d s t u a k pl:Int}(h:Below (w.alloc (G #[N O op,N O d,N O s,N O t,N O u,N O a,N Z k,N O pl] 117)).heap.size (w.alloc (G #[N O op,N O d,N O s,N O t,N O u,N O a,N Z k,N O pl] 117)) x):Ib x w.heap.size ⟨op,d,s,t,u,a,k,pl⟩/\Below w.heap.size w x:=
 ⟨(Ib.made w op d s t u a k pl).below h,((C _ _).alloc (L _) _).trans (h.mono (by simp))⟩
def fN (y:World)(g:Nat)(i:aU):World:=((((((((y.setCell ⟨g,0,V⟩ (N O i.op)).setCell ⟨g,1,V⟩ (N O i.d)).setCell ⟨g,2,V⟩ (N O i.s)).setCell ⟨g,3,V⟩ (N O i.t)).setCell ⟨g,4,V⟩ (N O i.u)).setCell ⟨g,5,V⟩ (N O i.a)).setCell ⟨g,6,V⟩ (N Z i.k)).setCell ⟨g,7,V⟩ (N O i.pl))
theorem em {y:World}{g:Nat}{i j:aU}(h:Ib y g j):Ib (fN y g i) g i:=by
 have h8:=(((((((Bk.put h 0 (N O i.op)).put 1 (N O i.d)).put 2 (N O i.s)).put 3 (N O i.t)).put 4 (N O i.u)).put 5 (N O i.a)).put 6 (N Z i.k)).put 7 (N O i.pl)
 unfold fN Ib
 simpa only[List.setIfInBounds_toArray,List.set_cons_zero,List.set_cons_succ] using h8
theorem kJ {y:World}{g b:Nat}{i:aU}{t:TypeId}{cs:Array Value}(h:Bk y b t cs)(hne:b≠g):Bk (fN y g i) b t cs:=
 (((((((h.off hne _).off hne _).off hne _).off hne _).off hne _).off hne _).off hne _).off hne _
theorem aZ {B:Nat}{w y:World}{g:Nat}{i:aU}(h:Below B w y)(hg:B<=g):Below B w (fN y g i):=
 (((((((h.setCell hg _).setCell hg _).setCell hg _).setCell hg _).setCell hg _).setCell hg _).setCell hg _).setCell hg _
theorem AY (i:aU)(l:List UInt8)(n:Nat)(h:n<l.length):qm i (l.take (n+1))=cO (qm i (l.take n)) (l.getD n 0).toNat 0:=by
 unfold qm
 rw[List.take_succ_eq_append_getElem h,List.foldl_append]
 simp[h]
theorem A7 (f:UInt8->Bool)(l:List UInt8)(n:Nat)(h:n<l.length):(l.take (n+1)).all f=((l.take n).all f && f (l.getD n 0)):=by
 rw[List.take_succ_eq_append_getElem h,List.all_append]
 simp[h]
theorem BC (f:UInt8->Bool)(l:List UInt8)(n:Nat)(h:n<l.length)(hf:f (l.getD n 0)=U):l.all f=U:=by
 rw[Bool.eq_false_iff]
 intro ha
 have:=List.all_eq_true.1 ha (l.getD n 0) (by simp[h])
 rw[hf] at this
 cases this
structure Du (w:World)(i:aU)(hs:List UInt8)(p:Int)(n:Nat)(x:World):Prop where
 below:Below w.heap.size w x
 box:Ib x w.heap.size i
 left:Ib x (w.heap.size+1) (qm i (hs.take n))
 ok:(hs.take n).all (fun c=>ql i p c.toNat)=H
theorem E3 (i:aU)(p:Int)(k0:0<=i.k)(k1:i.k<4294967296)(w:World):
 Calls Tryz.prog 71 #[iv i,N O p] w fun e w'=>e=.returned (.bool (au i p))/\Below w.heap.size w w':=by
 have hL:=vL i.op
 have h6:=vM i.op
 have ER:au i p=(!(cP i.op).isEmpty && ((cP i.op).all (fun c=>ql i p c.toNat) && sF (qm i (cP i.op)))):=rfl
 have H0:=D (zw i.op)
 generalize cP i.op=hs at hL h6 ER H0
 have HL:=D hL
 have HR:=D ER
 clear hL ER
 obtain⟨op,d,s,t,u,a,k,pl⟩:=i
 simp only at k0 k1 H0
 unfold iv
 go_enter Tryz.func71,Tryz.ntmps71
 go_wp2_with fail
 refine(H0.out _).mono ?_
 rintro e w' ⟨rfl,rfl⟩
 unfold bs
 by_cases he:hs=[]
 ·subst he
  go_wp2
  go_ret
  exact⟨bq HR.out.symm,(C _ _).alloc (L _) _⟩
 have hne:hs.isEmpty=U:=by simpa using he
 go_wp2
 go_loopw [24] (fun v x=>∃ n:Nat,n<=hs.length/\v=N O n/\Du w ⟨op,d,s,t,u,a,k,pl⟩ hs p n x) (fun v _=>hs.length-(intOf v).toNat)
 case atStart=>
  refine⟨0,Nat.zero_le _,rfl,?_,?_,?_,rfl⟩
  ·exact(((C _ _).alloc (L _) _).alloc (by simp) _)
  ·exact(Bk.made _ _ _).alloc _
  ·have:=Bk.made (w.alloc (G #[N O op,N O d,N O s,N O t,N O u,N O a,N Z k,N O pl] 117)) 117 #[N O 0,N O d,N O s,N O t,N O u,N O a,N Z k,N O pl]
   rw[show (w.alloc (G #[N O op,N O d,N O s,N O t,N O u,N O a,N Z k,N O pl] 117)).heap.size=w.heap.size+1 by simp] at this
   exact this
 case round=>
  obtain⟨n,hn,rfl,R⟩:=hrel
  obtain⟨hb,hI,hZ,hok⟩:=R
  generalize wr=x at *
  have hlt1:w.heap.size<x.heap.size:=Bk.lt hI
  have hlt2:w.heap.size+1<x.heap.size:=Bk.lt hZ
  by_cases hlt:n<hs.length
  ·have hidx:=eO hs n hlt
   have hc:Dy ((hs.getD n 0).toNat:Int):=HL.out _ (by simp[hlt])
   generalize hcc:((hs.getD n 0).toNat:Int)=c at hidx hc
   obtain⟨g0,-⟩:=hI.zG
   have HC:=D hcc
   clear hcc
   go_wp2_with fail
   refine ap (by kernel_rfl) (by kernel_rfl) ?_
   repeat (go_big_quiet_step ((go_at_call 111;exact AC (Do _ _ _ hc _))))
   refine wpQuiet_nil ?_
   rintro y ⟨⟨_,hy⟩,rfl⟩
   replace hb:=hb.trans (hy.mono (Nat.le_of_lt hlt1))
   replace hI:=hI.below hy
   replace hZ:=hZ.below hy
   replace hlt1:w.heap.size<y.heap.size:=Bk.lt hI
   replace hlt2:w.heap.size+1<y.heap.size:=Bk.lt hZ
   clear g0 hy x
   obtain⟨g0,g1,g2,g3,g4,g5,g6,g7⟩:=hI.zG
   simp only at g0 g1 g2 g3 g4 g5 g6 g7
   go_wp2_with fail
   refine ap (by kernel_rfl) (by kernel_rfl) ?_
   repeat (go_big_quiet_step ((go_at_call 112;exact ao (Gu ⟨op,d,s,t,u,a,k,pl⟩ _ hc k0 k1 _))))
   refine wpQuiet_nil ?_
   rintro x ⟨⟨_,hx⟩,rfl⟩
   replace hb:=hb.trans (hx.mono (Nat.le_of_lt hlt1))
   replace hI:=hI.below hx
   replace hZ:=hZ.below hx
   replace hlt1:w.heap.size<x.heap.size:=Bk.lt hI
   replace hlt2:w.heap.size+1<x.heap.size:=Bk.lt hZ
   clear g0 g1 g2 g3 g4 g5 g6 g7 hx y
   by_cases hlo:aW ⟨op,d,s,t,u,a,k,pl⟩ c<fb op c
   ·go_wp2
    go_ret
    refine⟨bq ?_,hb⟩
    rw[HR.out,BC _ _ n hlt (by rw[HC.out];simp[ql];intro h;omega)];simp
   have hlo':decide (aW ⟨op,d,s,t,u,a,k,pl⟩ c<fb op c)=U:=by simpa using hlo
   by_cases hhi:eC op c p<=aW ⟨op,d,s,t,u,a,k,pl⟩ c
   ·go_wp2
    go_ret
    refine⟨bq ?_,hb⟩
    rw[HR.out,BC _ _ n hlt (by rw[HC.out];simp[ql];intro h;omega)];simp
   have hhi':decide (aW ⟨op,d,s,t,u,a,k,pl⟩ c>=eC op c p)=U:=by simpa using hhi
   generalize hZZ:qm ⟨op,d,s,t,u,a,k,pl⟩ (hs.take n)=z at hZ
   have HZ:=D hZZ
   clear hZZ
   obtain⟨zop,zd,zs,zt,zu,za,zk,zpl⟩:=z
   obtain⟨c0,c1,c2,c3,c4,c5,c6,c7⟩:=hZ.cells
   simp only at c0 c1 c2 c3 c4 c5 c6 c7
   go_wp2_with fail
   go_region_law (first | (go_simp;go_at_call 113;refine(Gt ⟨zop,zd,zs,zt,zu,za,zk,zpl⟩ _ 0 hc _).mono ?_;rintro e y ⟨rfl,hy⟩;replace hy:=ez hy;obtain⟨d0,d1,d2,d3,d4,d5,d6,d7⟩:=(hZ.below hy).cells;have hf:=Bk.free (hZ.below hy);generalize hz2:cO ⟨zop,zd,zs,zt,zu,za,zk,zpl⟩ c 0=z2;have HZ2:=D hz2;clear hz2;obtain⟨yop,yd,ys,yt,yu,ya,yk,ypl⟩:=z2;unfold iv))
   all_goals
    generalize hv:((((((((y.setCell ⟨w.heap.size+1,0,V⟩ (N O yop)).setCell ⟨w.heap.size+1,1,V⟩ (N O yd)).setCell ⟨w.heap.size+1,2,V⟩ (N O ys)).setCell ⟨w.heap.size+1,3,V⟩ (N O yt)).setCell ⟨w.heap.size+1,4,V⟩ (N O yu)).setCell ⟨w.heap.size+1,5,V⟩ (N O ya)).setCell ⟨w.heap.size+1,6,V⟩ (N Z yk)).setCell ⟨w.heap.size+1,7,V⟩ (N O ypl))=v
    have hv2:fN y (w.heap.size+1) ⟨yop,yd,ys,yt,yu,ya,yk,ypl⟩=v:=hv
    clear hv
    have hA:=em (i:=⟨yop,yd,ys,yt,yu,ya,yk,ypl⟩) (hZ.below hy)
    have hB:=kJ (i:=⟨yop,yd,ys,yt,yu,ya,yk,ypl⟩) (hI.below hy) (show w.heap.size≠w.heap.size+1 by omega)
    have hC:=aZ (i:=⟨yop,yd,ys,yt,yu,ya,yk,ypl⟩) (hb.trans (hy.mono (Nat.le_of_lt hlt1))) (show w.heap.size<=w.heap.size+1 by omega)
    rw[hv2] at hA hB hC
    clear hv2 d0 d1 d2 d3 d4 d5 d6 d7 hf c0 c1 c2 c3 c4 c5 c6 c7 hidx
    have hn1:(n:Int)+1<=6:=by omega
    go_wp2
    go_roundw
    case rel=>
     refine⟨n+1,by omega,by go_num,hC,hB,?_,?_⟩
     ·rw[AY _ _ _ hlt,HZ.out,HC.out,HZ2.out];exact hA
     ·rw[A7 _ _ _ hlt,HC.out,hok];simp[ql];omega
    case measure=>simp[intOf];omega
  ·obtain rfl:n=hs.length:=by omega
   generalize hZZ:qm ⟨op,d,s,t,u,a,k,pl⟩ (hs.take hs.length)=z at hZ
   obtain⟨zop,zd,zs,zt,zu,za,zk,zpl⟩:=z
   obtain⟨c0,c1,c2,c3,c4,c5,c6,c7⟩:=hZ.cells
   simp only at c0 c1 c2 c3 c4 c5 c6 c7
   rw[List.take_length] at hZZ hok
   have HZ:=D hZZ
   have HO:=D hok
   clear hZZ hok
   have hq:=Cd ⟨zop,zd,zs,zt,zu,za,zk,zpl⟩ aU.zero
   generalize hB:dg ⟨zop,zd,zs,zt,zu,za,zk,zpl⟩ aU.zero=B at hq
   have HB:=D hB
   clear hB
   unfold iv aU.zero at hq
   simp only at hq
   go_wp2
   go_ret
   refine⟨bq ?_,hb⟩
   rw[HR.out,HO.out,HZ.out,ET,HB.out,hne];rfl
end
section
def Nl (s:List UInt8):Prop:=∀ c∈s,c≠10
theorem Nl.app {a b:List UInt8}(ha:Nl a)(hb:Nl b):Nl (a++b):=fun c hc=>by
 rcases List.mem_append.1 hc with h | h
 ·exact ha c h
 ·exact hb c h
def Bf (l:List UInt8):Prop:=∀ c∈l,c≠32
theorem oC:∀ s:List UInt8,Bf s\/∃ t r,Bf t/\s=t++32 :: r
 | []=>.inl (by intro c h;cases h)
 | c :: s=>by
  by_cases h:c=32
  ·exact .inr ⟨[],s,(by intro c h;cases h),(by rw[h];rfl)⟩
  ·rcases oC s with h1 | ⟨t,r,h1,rfl⟩
   ·exact .inl (by intro d hd;rcases List.mem_cons.1 hd with rfl | hd;exact h;exact h1 d hd)
   ·exact .inr ⟨c :: t,r,(by intro d hd;rcases List.mem_cons.1 hd with rfl | hd;exact h;exact h1 d hd),rfl⟩
theorem tq:∀ t:List UInt8,Bf t->Lib.index t [32]=-1
 | [],_=>by simp[Lib.index]
 | c :: t,h=>by
  have h1:=tq t fun d hd=>h d (List.mem_cons_of_mem _ hd)
  have h2:c≠32:=h c List.mem_cons_self
  unfold Lib.index
  rw[if_neg (by simp[List.isPrefixOf];exact fun e=>h2 e.symm),h1]
  rfl
theorem tu:∀ (t r:List UInt8),Bf t->Lib.index (t++32 :: r) [32]=t.length
 | [],r,_=>by simp[Lib.index,List.isPrefixOf]
 | c :: t,r,h=>by
  have h1:=tu t r fun d hd=>h d (List.mem_cons_of_mem _ hd)
  have h2:c≠32:=h c List.mem_cons_self
  show Lib.index (c :: (t++32 :: r)) [32]=_
  unfold Lib.index
  rw[if_neg (by simp[List.isPrefixOf];exact fun e=>h2 e.symm),h1,if_neg (by simp <;> omega)]
  simp
def bw (w0:List UInt8)(ws:List (List UInt8)):List UInt8:=w0++ws.flatMap fun w=>32 :: w
theorem aP:∀ (ws:List (List UInt8)) (w0:List UInt8),Bf w0->(∀ w∈ws,Bf w)->aq (bw w0 ws)=w0 :: ws
 | [],w0,h,_=>by unfold bw;simp;exact cQ w0 h
 | w :: ws,w0,h,hs=>by
  have ih:=aP ws w (hs w List.mem_cons_self) fun v hv=>hs v (List.mem_cons_of_mem _ hv)
  unfold bw at *
  simp only[List.flatMap_cons,List.cons_append]
  rw[fx w0 _ h,ih]
theorem pY:∀ (n:Nat),∀ c∈Lib.decDigits n,48<=c.toNat/\c.toNat<=57:=by
 intro n
 induction n using Nat.strongRecOn with
 | _ n ih=>
  intro c hc
  rw[Lib.decDigits] at hc
  by_cases h:n<10
  ·rw[dif_pos h] at hc
   obtain rfl:=List.mem_singleton.1 hc
   rw[UInt8.toNat_ofNat',Nat.mod_eq_of_lt (by omega)]
   omega
  ·rw[dif_neg h] at hc
   rcases List.mem_append.1 hc with hc | hc
   ·exact ih (n / 10) (by omega) c hc
   ·obtain rfl:=List.mem_singleton.1 hc
    rw[UInt8.toNat_ofNat',Nat.mod_eq_of_lt (by omega)]
    omega
theorem dG (n:Nat):Bf (Lib.decDigits n):=by
 intro c hc e
 have:=pY n c hc
 rw[e] at this
 exact absurd this (by decide)
theorem jg (n:Nat):∃ c r,Lib.decDigits n=c :: r/\48<=c.toNat/\c.toNat<=57/\(10<=n->49<=c.toNat):=by
 induction n using Nat.strongRecOn with
 | _ n ih=>
  rw[Lib.decDigits]
  by_cases h:n<10
  ·rw[dif_pos h]
   refine⟨_,[],rfl,?_⟩
   rw[UInt8.toNat_ofNat',Nat.mod_eq_of_lt (by omega)]
   omega
  ·rw[dif_neg h]
   obtain⟨c,r,e,h1,h2,h3⟩:=ih (n / 10) (by omega)
   rw[e]
   refine⟨c,_,rfl,h1,h2,fun _=>?_⟩
   by_cases h9:10<=n / 10
   ·exact h3 h9
   ·rw[Lib.decDigits,dif_pos (by omega)] at e
    injection e with e1 _
    rw[<-e1,UInt8.toNat_ofNat',Nat.mod_eq_of_lt (by omega)]
    omega
theorem pF:∀ (a b:List UInt8) (acc u:Nat),Lib.parseUint10 acc a=.ok u->Lib.parseUint10 acc (a++b)=Lib.parseUint10 u b
 | [],b,acc,u,h=>by simp[Lib.parseUint10] at h;subst h;rfl
 | c :: a,b,acc,u,h=>by
  simp only[Lib.parseUint10,List.cons_append] at h ⊢
  split at h
  ·split at h
   ·cases h
   ·split at h
    ·cases h
    ·rename_i h1 h2 h3
     rw[if_pos h1,if_neg h2,if_neg h3]
     exact pF a b _ u h
  ·cases h
theorem xy:∀ (n:Nat),n<18446744073709551616->Lib.parseUint10 0 (Lib.decDigits n)=.ok n:=by
 intro n
 induction n using Nat.strongRecOn with
 | _ n ih=>
  intro hn
  rw[Lib.decDigits]
  by_cases h:n<10
  ·rw[dif_pos h]
   have e:(UInt8.ofNat (48+n)).toNat=48+n:=by rw[UInt8.toNat_ofNat',Nat.mod_eq_of_lt (by omega)]
   simp only[Lib.parseUint10,e]
   rw[if_pos (by omega),if_neg (by omega),if_neg (by omega)]
   congr 1
   omega
  ·rw[dif_neg h,pF _ _ _ _ (ih (n / 10) (by omega) (by omega))]
   have e:(UInt8.ofNat (48+n % 10)).toNat=48+n % 10:=by rw[UInt8.toNat_ofNat',Nat.mod_eq_of_lt (by omega)]
   simp only[Lib.parseUint10,e]
   rw[if_pos (by omega),if_neg (by omega),if_neg (by omega)]
   congr 1
   omega
theorem tQ (n:Nat)(h:n<9223372036854775808):Lib.atoiAll (Lib.decDigits n)=.ok n:=by
 obtain⟨c,r,e,h1,h2,-⟩:=jg n
 have hp:=xy n (by omega)
 rw[e] at hp ⊢
 unfold Lib.atoiAll Lib.parseMag
 simp only
 rw[if_neg (show ¬ (c.toNat=43\/c.toNat=45) by omega),if_neg (by simp),hp]
 simp only
 rw[if_neg (by omega),if_neg (by omega),if_neg (by omega)]
def Gi (k:Int):Int:=if k=1 then 1 else if k=2 then 2 else if k=3 then 3 else if k=4 then 5 else if k=5 then 4 else if k=8 then 6 else if k=9 then 7 else 0
def Fe (s:Int):Bool:=decide (s=3) || (decide (s=4) || decide (s=6))
theorem B9 {k:Int}:Fe (Gi k)=dk k:=by
 unfold Gi Fe dk
 by_cases h1:k=1
 ·subst h1;decide
 by_cases h2:k=2
 ·subst h2;decide
 by_cases h3:k=3
 ·subst h3;decide
 by_cases h4:k=4
 ·subst h4;decide
 by_cases h5:k=5
 ·subst h5;decide
 by_cases h8:k=8
 ·subst h8;decide
 by_cases h9:k=9
 ·subst h9;decide
 simp[*]
def G2 (n:Int)(l:List En)(k:Nat):Bool:=match l[k]? with
 | some x=>!decide (eN n (l.take k) x)
 | none=>U
theorem yO (n:Int)(l:List En):mw n l=((List.range l.length).find? (G2 n l)).getD l.length:=rfl
theorem yP {n:Int}{l:List En}{k:Nat}(hk:k<l.length)(h:dD n (l.take k))(hf:¬ eN n (l.take k) l[k]):mw n l=k:=by
 rw[yO]
 have:(List.range l.length).find? (G2 n l)=T k:=by
  rw[List.find?_eq_some_iff_getElem]
  refine⟨?_,k,by simpa using hk,by simp,fun j hj=>?_⟩
  ·unfold G2
   rw[List.getElem?_eq_getElem hk]
   simp[hf]
  ·have hjl:j<l.length:=by omega
   simp only[List.getElem_range]
   unfold G2
   rw[List.getElem?_eq_getElem hjl]
   have:=h j l[j] (by rw[List.getElem?_take,if_pos hj,List.getElem?_eq_getElem hjl])
   rw[List.take_take,show min j k=j by omega] at this
   simp[this]
 rw[this];rfl
def cj (n:Int)(l:List En):Nat:=if 1<=n/\n<=64 then mw n l else 0
end
section
open Go.ChangeShapes Go.WideShapes Go.ChangeAt Go.RowKit
def lP (P:Program)(ops:Array Oper)(F:Nat->Nat->Value->World->Prop)(Wp:Nat->World->Prop)(Step:Nat->World->World->Prop)(lit:(Nat->Value)->Act)(st:List Nat):List Oper->Nat->Prop
 | [],_=>True
 | o :: l,i=>(match st.contains i with
  | true=>∀ (vs:Nat->Value) W,Wp (st.idxOf i) W->(∀ j∈bd ops i,F j (st.idxOf i) (vs j) W)->dq P ops (fun v W'=>F i (st.idxOf i+1) v W'/\Wp (st.idxOf i+1) W'/\Step (st.idxOf i) W W') o (lit vs) W
  | false=>∀ (vs:Nat->Value) W k,vK ops st i<=k->k<=vN ops st i->Wp k W->(∀ j∈bd ops i,F j k (vs j) W)->bU P ops (F i k) o (lit vs) W)/\lP P ops F Wp Step lit st l (i+1)
theorem ko {P:Program}{ops:Array Oper}{F:Nat->Nat->Value->World->Prop}{Wp:Nat->World->Prop}{Step:Nat->World->World->Prop}{lit:(Nat->Value)->Act}{st:List Nat}:∀ (l:List Oper) (b i:Nat) (o:Oper),lP P ops F Wp Step lit st l b->l[i]?=T o->
 (st.contains (b+i)=H->∀ (vs:Nat->Value) W,Wp (st.idxOf (b+i)) W->(∀ j∈bd ops (b+i),F j (st.idxOf (b+i)) (vs j) W)->dq P ops (fun v W'=>F (b+i) (st.idxOf (b+i)+1) v W'/\Wp (st.idxOf (b+i)+1) W'/\Step (st.idxOf (b+i)) W W') o (lit vs) W)/\
 (st.contains (b+i)=U->∀ (vs:Nat->Value) W k,vK ops st (b+i)<=k->k<=vN ops st (b+i)->Wp k W->(∀ j∈bd ops (b+i),F j k (vs j) W)->bU P ops (F (b+i) k) o (lit vs) W)
 | [],b,i,o,_,hi=>by simp at hi
 | x :: l,b,0,o,h,hi=>by
  simp only[List.getElem?_cons_zero,Option.some.injEq] at hi
  subst hi
  have h1:=h.1
  simp only[Nat.add_zero]
  constructor
  ·intro e;rw[e] at h1;exact h1
  ·intro e;rw[e] at h1;exact h1
 | x :: l,b,i+1,o,h,hi=>by
  have:=ko l (b+1) i o h.2 (by simpa using hi)
  rw[show b+1+i=b+(i+1) by omega] at this
  exact this
theorem dH {P:Program}{l:List Oper}{Q:Exit->Act->World->Prop}{id:Nat}{a:Act}{w:World}(st:List Nat)(Wp:Nat->World->Prop)(Step:Nat->World->World->Prop)(lit:(Nat->Value)->Act)(F:Nat->Nat->Value->World->Prop)
 (hm:P.follows .mixedOrders=H) (hr:mC l.toArray=H) (hc:iM l.toArray st=H) (hnd:st.Nodup) (hlit:∀ vs,aC l.toArray a (fun _=>H) vs=lit vs)
 (h0:Wp 0 w)
 (hW:∀ k W W',Wp k W->Below W.heap.size W W'->Wp k W')
 (hF:∀ i k v W W',F i k v W->Below W.heap.size W W'->F i k v W')
 (hS:∀ k W W',Wp k W->Step k W W'->∀ i v,F i k v W->F i (k+1) v W')
 (hop:lP P l.toArray F Wp Step lit st l 0)
 (hend:∀ (vs:Nat->Value) W,Wp st.length W->(∀ i,i<l.length->F i st.length (vs i) W)->Q .normal (lit vs) W):(Code.region id l.toArray H).wp P Q a w:=by
 refine eA hm hr (fun d vs W=>∃ k,k<=st.length/\(∀ j s,st[j]?=T s->(d s=H↔j<k))/\(∀ i,d i=H->∀ j∈bd l.toArray i,d j=H)/\Wp k W/\∀ i,d i=H->F i k (vs i) W) ?_ ?_ ?_
 ·exact⟨0,Nat.zero_le _,fun j s _=>by simp,(fun i h=>by cases h),hW 0 _ _ h0 (C _ _).drew,(fun i h=>by cases h)⟩
 ·rintro i o ho d vs W ⟨k,hk,hst,hcl,hWk,hFd⟩ hdi hdep
  have ho':l[i]?=T o:=by simpa using ho
  rw[hlit]
  obtain⟨e1,e2⟩:=ko l 0 i o hop ho'
  rw[Nat.zero_add] at e1 e2
  have hFdep:∀ j∈bd l.toArray i,F j k (vs j) W:=fun j hj=>hFd j (hdep j hj)
  cases hci:st.contains i with
  | true=>
   have hmem:i∈st:=by simpa using hci
   have hidx:st.idxOf i<st.length:=List.idxOf_lt_length_iff.2 hmem
   have hat:st[st.idxOf i]?=T i:=by rw[List.getElem?_eq_getElem hidx,List.getElem_idxOf hidx]
   have hki:st.idxOf i=k:=by
    have h1:¬ st.idxOf i<k:=fun h=>by
     have:=(hst _ i hat).2 h
     rw[hdi] at this;cases this
    rcases Nat.lt_or_eq_of_le (Nat.le_of_not_lt h1) with h2 | h2
    ·exfalso
     have hp:st.idxOf i-1+1=st.idxOf i:=by omega
     have hpl:st.idxOf i-1<st.length:=by omega
     have hs:=lT st hc (st.idxOf i-1) st[st.idxOf i-1] i (List.getElem?_eq_getElem hpl) (by rw[hp];exact hat)
     have hd:=hdep _ hs
     have:=(hst _ _ (List.getElem?_eq_getElem hpl)).1 hd
     omega
    ·exact h2.symm
   have h3:=e1 hci vs W (by rw[hki];exact hWk) (by rw[hki];exact hFdep)
   refine gP h3 ?_
   rintro v W' ⟨hv,hW2,hstep⟩
   rw[hki] at hv hW2 hstep
   refine⟨k+1,by omega,fun j s hs=>?_,fun x hx j hj=>by
    by_cases e:x=i
    ·subst e;have h4:=hdep j hj;by_cases e2:j=x <;> simp[e2,h4]
    ·simp only[if_neg e] at hx;have h4:=hcl x hx j hj;by_cases e2:j=i <;> simp[e2,h4],hW2,fun j hj=>?_⟩
   ·by_cases e:s=i
    ·subst e
     have hj:j=k:=by
      rw[<-hki]
      have hjl:=(List.getElem?_eq_some_iff.1 hs).1
      have hsj:=(List.getElem?_eq_some_iff.1 hs).2
      have:=hnd.idxOf_getElem j hjl
      rw[hsj] at this
      exact this.symm
     simp;omega
    ·simp only[if_neg e]
     rw[hst j s hs]
     constructor
     ·omega
     ·intro h
      by_cases hj:j=k
      ·exfalso
       subst hj
       rw[<-hki,hat] at hs
       injection hs with hs
       exact e hs.symm
      ·omega
   ·by_cases e:j=i
    ·subst e;simp only[if_true];exact hv
    ·simp only[if_neg e] at hj ⊢
     exact hS k W W' hWk hstep j _ (hFd j hj)
  | false=>
   have hnm:i ∉ st:=by simpa using hci
   have hlo:vK l.toArray st i<=k:=by
    unfold vK
    have hsub:∀ (s:List Nat) (b:Nat),(∀ j x,s[j]?=T x->st[b+j]?=T x)->(s.filter fun x=>(bd l.toArray i).contains x).length<=k-b:=by
     intro s
     induction s with
     | nil=>intro b _;simp
     | cons x s ih=>
      intro b hb
      have hx:=hb 0 x (by simp)
      rw[Nat.add_zero] at hx
      have ih2:=ih (b+1) (fun j y hy=>by rw[show b+1+j=b+(j+1) by omega];exact hb (j+1) y (by simpa using hy))
      rw[List.filter_cons]
      split
      ·rename_i hcx
       have hd:=hdep x (by simpa using hcx)
       have:=(hst b x hx).1 hd
       simp only[List.length_cons]
       omega
      ·omega
    have:=hsub st 0 (fun j x h=>by rw[Nat.zero_add];exact h)
    omega
   have hhi:k<=vN l.toArray st i:=by
    unfold vN
    rcases Nat.lt_or_ge (st.findIdx fun s=>(bd l.toArray s).contains i) st.length with h | h
    ·refine Nat.le_of_not_lt fun hlt=>?_
     have hp:=List.findIdx_getElem (w:=h)
     have hd:=(hst _ _ (List.getElem?_eq_getElem h)).2 hlt
     have:=hcl _ hd i (by simpa using hp)
     rw[hdi] at this
     cases this
    ·omega
   exact fz (e2 hci vs W k hlo hhi hWk hFdep) (fun v W' hv hb=>⟨k,hk,fun j s hs=>by
    have hne:s≠i:=fun e=>hnm (e ▸ List.mem_of_getElem? hs)
    simp only[if_neg hne]
    exact hst j s hs,fun x hx j hj=>by
    by_cases e:x=i
    ·subst e;have h4:=hdep j hj;by_cases e2:j=x <;> simp[e2,h4]
    ·simp only[if_neg e] at hx;have h4:=hcl x hx j hj;by_cases e2:j=i <;> simp[e2,h4],hW k W W' hWk hb,fun j hj=>by
    by_cases e:j=i
    ·subst e;simp only[if_true];exact hv
    ·simp only[if_neg e] at hj ⊢
     exact hF j _ _ W W' (hFd j hj) hb⟩)
 ·rintro d vs W ⟨k,hk,hst,hcl,hWk,hFd⟩ hall
  rw[hlit]
  have hks:k=st.length:=by
   rcases Nat.lt_or_eq_of_le hk with h | h
   ·exfalso
    have h1:=(hst k _ (List.getElem?_eq_getElem h))
    have h2:=hall st[k] (lS st hc _ (List.getElem_mem h))
    have:=h1.1 h2
    omega
   ·exact h
  subst hks
  exact hend vs W hWk (fun i hi=>hFd i (hall i (by simpa using hi)))
def DM (F:Nat->Value->World->Prop)(a b:Nat)(P2:Value->Value->World->Prop)(i:Nat)(W:World)(v:Value)(W':World):Prop:=F i v W'/\(i=a->∀ y,F b y W->P2 v y W')/\(i=b->∀ x,F a x W->P2 x v W')
def oy (P:Program)(ops:Array Oper)(F:Nat->Value->World->Prop)(Wp:World->Prop)(lit:(Nat->Value)->Act)(a b:Nat)(P2:Value->Value->World->Prop):List Oper->Nat->Prop
 | [],_=>True
 | o :: l,i=>(∀ (vs:Nat->Value) W,Wp W->(∀ j∈bd ops i,F j (vs j) W)->(a∈bd ops i->b∈bd ops i->P2 (vs a) (vs b) W)->bU P ops (DM F a b P2 i W) o (lit vs) W)/\oy P ops F Wp lit a b P2 l (i+1)
theorem mf {P:Program}{ops:Array Oper}{F:Nat->Value->World->Prop}{Wp:World->Prop}{lit:(Nat->Value)->Act}{a b:Nat}{P2:Value->Value->World->Prop}:∀ (l:List Oper) (c i:Nat) (o:Oper),oy P ops F Wp lit a b P2 l c->l[i]?=T o->
 ∀ (vs:Nat->Value) W,Wp W->(∀ j∈bd ops (c+i),F j (vs j) W)->(a∈bd ops (c+i)->b∈bd ops (c+i)->P2 (vs a) (vs b) W)->bU P ops (DM F a b P2 (c+i) W) o (lit vs) W
 | [],c,i,o,_,hi=>by simp at hi
 | x :: l,c,0,o,h,hi=>by
  simp only[List.getElem?_cons_zero,Option.some.injEq] at hi
  subst hi
  exact h.1
 | x :: l,c,i+1,o,h,hi=>by
  have:=mf l (c+1) i o h.2 (by simpa using hi)
  rw[show c+1+i=c+(i+1) by omega] at this
  exact this
theorem mH {P:Program}{l:List Oper}{Q:Exit->Act->World->Prop}{id:Nat}{a0:Act}{w:World}(Wp:World->Prop)(lit:(Nat->Value)->Act)(F:Nat->Value->World->Prop)(a b:Nat)(P2:Value->Value->World->Prop)
 (hm:P.follows .mixedOrders=H) (hr:mC l.toArray=H) (hab:a≠b) (hal:a<l.length) (hbl:b<l.length) (hlit:∀ vs,aC l.toArray a0 (fun _=>H) vs=lit vs)
 (h0:Wp w)
 (hW:∀ W W',Wp W->Below W.heap.size W W'->Wp W')
 (hF:∀ i v W W',F i v W->Below W.heap.size W W'->F i v W')
 (hP:∀ x y W W',P2 x y W->Below W.heap.size W W'->P2 x y W')
 (hop:oy P l.toArray F Wp lit a b P2 l 0)
 (hend:∀ (vs:Nat->Value) W,Wp W->(∀ i,i<l.length->F i (vs i) W)->P2 (vs a) (vs b) W->Q .normal (lit vs) W):(Code.region id l.toArray H).wp P Q a0 w:=by
 refine eA hm hr (fun d vs W=>Wp W/\(∀ i,d i=H->F i (vs i) W)/\(d a=H->d b=H->P2 (vs a) (vs b) W)) ?_ ?_ ?_
 ·exact⟨hW _ _ h0 (C _ _).drew,(fun i h=>by cases h),(fun h=>by cases h)⟩
 ·rintro i o ho d vs W ⟨hWk,hFd,hPd⟩ hdi hdep
  have ho':l[i]?=T o:=by simpa using ho
  rw[hlit]
  have e2:=mf l 0 i o hop ho' vs W hWk (by rw[Nat.zero_add];exact fun j hj=>hFd j (hdep j hj)) (by rw[Nat.zero_add];exact fun h1 h2=>hPd (hdep a h1) (hdep b h2))
  rw[Nat.zero_add] at e2
  refine fz e2 (fun v W' hv hb=>⟨hW _ _ hWk hb,fun j hj=>?_,fun ha hb'=>?_⟩)
  ·by_cases e:j=i
   ·subst e;simp only[if_true];exact hv.1
   ·simp only[if_neg e] at hj ⊢
    exact hF j _ W W' (hFd j hj) hb
  ·by_cases e:a=i
   ·have e3:¬ b=i:=fun h=>hab (e.trans h.symm)
    simp only[if_neg e3] at hb'
    simp only[if_pos e,if_neg e3]
    exact hv.2.1 e.symm _ (hFd b hb')
   ·simp only[if_neg e] at ha
    by_cases e3:b=i
    ·simp only[if_neg e,if_pos e3]
     exact hv.2.2 e3.symm _ (hFd a ha)
    ·simp only[if_neg e3] at hb'
     simp only[if_neg e,if_neg e3]
     exact hP _ _ W W' (hPd ha hb') hb
 ·rintro d vs W ⟨hWk,hFd,hPd⟩ hall
  rw[hlit]
  exact hend vs W hWk (fun i hi=>hFd i (hall i (by simpa using hi))) (hPd (hall a (by simpa using hal)) (hall b (by simpa using hbl)))
end
section
open Go.RowKit
def cX (xs:List Int):Prop:=xs.length=8/\gF xs
theorem cG {xs:List Int}(h:xs.length=8):∃ a b c d e f g i,xs=[a,b,c,d,e,f,g,i]:=by
 match xs,h with
 | [a,b,c,d,e,f,g,i],_=>exact⟨a,b,c,d,e,f,g,i,rfl⟩
def nF (a b:Int):Int:=((a.toNat &&& b.toNat:Nat):Int)
def Dw (a b:Int):Int:=((a.toNat ||| b.toNat:Nat):Int)
theorem vy {a b:Int}(h0:0<=a)(h1:a<4294967296):0<=nF a b/\nF a b<4294967296:=by
 unfold nF
 have:=Nat.and_le_left (n:=a.toNat) (m:=b.toNat)
 omega
theorem xz {a b:Int}(h0:0<=a)(h1:a<4294967296)(h2:0<=b)(h3:b<4294967296):0<=Dw a b/\Dw a b<4294967296:=by
 unfold Dw
 have:=Nat.or_lt_two_pow (x:=a.toNat) (y:=b.toNat) (n:=32) (by omega) (by omega)
 omega
def lu (both:Bool)(a b:Nat):Nat->Nat
 | 0=>0
 | n+1=>lu both a b n+(if (if both then a / 2 ^ n % 2+b / 2 ^ n % 2=2 else 0<a / 2 ^ n % 2+b / 2 ^ n % 2) then 2 ^ n else 0)
theorem tO (x n:Nat):x % 2 ^ (n+1)=x % 2 ^ n+(if x / 2 ^ n % 2=1 then 2 ^ n else 0):=by
 rw[Nat.mod_pow_succ]
 have:x / 2 ^ n % 2=0\/x / 2 ^ n % 2=1:=by omega
 rcases this with h | h <;> simp[h]
theorem Ds (a b n:Nat):(a &&& b) / 2 ^ n % 2=1↔a / 2 ^ n % 2=1/\b / 2 ^ n % 2=1:=by
 have h:=Nat.testBit_and a b n
 simp only[Nat.testBit_eq_decide_div_mod_eq,decide_eq_decide,<-Bool.decide_and] at h
 exact h
theorem E9 (a b n:Nat):(a ||| b) / 2 ^ n % 2=1↔a / 2 ^ n % 2=1\/b / 2 ^ n % 2=1:=by
 have h:=Nat.testBit_or a b n
 simp only[Nat.testBit_eq_decide_div_mod_eq,decide_eq_decide,<-Bool.decide_or] at h
 exact h
theorem tP (a b:Nat):∀ n,lu H a b n=(a &&& b) % 2 ^ n
 | 0=>by simp[lu,Nat.mod_one]
 | n+1=>by
  rw[tO,lu,tP a b n]
  congr 1
  have h1:a / 2 ^ n % 2=0\/a / 2 ^ n % 2=1:=by omega
  have h2:b / 2 ^ n % 2=0\/b / 2 ^ n % 2=1:=by omega
  have h3:=Ds a b n
  rcases h1 with h1 | h1 <;> rcases h2 with h2 | h2 <;> simp[h1,h2] at h3 ⊢ <;> simp[h3]
theorem wL (a b:Nat):∀ n,lu U a b n=(a ||| b) % 2 ^ n
 | 0=>by simp[lu,Nat.mod_one]
 | n+1=>by
  rw[tO,lu,wL a b n]
  congr 1
  have h1:a / 2 ^ n % 2=0\/a / 2 ^ n % 2=1:=by omega
  have h2:b / 2 ^ n % 2=0\/b / 2 ^ n % 2=1:=by omega
  have h3:=E9 a b n
  rcases h1 with h1 | h1 <;> rcases h2 with h2 | h2 <;> simp[h1,h2] at h3 ⊢ <;> simp[h3]
theorem wM (both:Bool)(a b:Nat):∀ n,lu both a b n<2 ^ n
 | 0=>by simp[lu]
 | n+1=>by
  have:=wM both a b n
  rw[lu,Nat.pow_succ]
  have:∀ c:Prop,[Decidable c]->(if c then 2 ^ n else 0)<=2 ^ n:=by intro c _;split <;> omega
  have:=this (if both=H then a / 2 ^ n % 2+b / 2 ^ n % 2=2 else 0<a / 2 ^ n % 2+b / 2 ^ n % 2)
  omega
theorem Dt (both:Bool)(a b:Int)(h0:0<=a)(h1:a<4294967296)(h2:0<=b)(h3:b<4294967296):(lu both a.toNat b.toNat 32:Int)=if both then nF a b else Dw a b:=by
 cases both
 ·rw[wL,Nat.mod_eq_of_lt (Nat.or_lt_two_pow (by omega) (by omega))];rfl
 ·rw[tP,Nat.mod_eq_of_lt (Nat.lt_of_le_of_lt Nat.and_le_left (by omega))];rfl
def Gg (op a b k self:Int):Option Int:=
 if op=1 then T k
 else if op=2 then T a
 else if op=3 then T ((a+k) % 4294967296)
 else if op=4 then T (nF a k)
 else if op=5 then T (a*2 ^ k.toNat % 4294967296)
 else if op=6 then T (a / 2 ^ k.toNat)
 else if op=7 then T (Dw a b)
 else if op=11 then T self
 else V
def oE (xs:List Int)(i:aU)(self:Int):Option Int:=Gg i.op (aD xs i.s.toNat) (aD xs i.t.toNat) i.k self
def oH (op a b pl pc:Int):Int:=if op=10\/(op=8/\a=b)\/(op=9/\a≠b) then pl else if op=13 then pc else pc+1
def vH (xs:List Int)(pc:Int)(i:aU):Int:=oH i.op (aD xs i.s.toNat) (aD xs i.t.toNat) i.pl pc
def DJ (xs:List Int)(i:aU)(self:Int):List Int:=match oE xs i self with
 | some v=>xs.set i.d.toNat v
 | none=>xs
def oV (xs:List Int)(i:aU)(self:Int):List Int:=if fp i.op then xs else DJ xs i self
def tT (xs:List Int)(pc:Int)(i:aU):Int:=if fp i.op then pc else vH xs pc i
structure Fr (i:aU):Prop where
 op:(1<=i.op/\i.op<=13)\/(16<=i.op/\i.op<=23)
 d:0<=i.d/\i.d<=7
 s:0<=i.s/\i.s<=7
 t:0<=i.t/\i.t<=7
 k:0<=i.k/\i.k<4294967296
 sh:(i.op=5\/i.op=6)->i.k<=31
 mark:(i.op=12\/i.op=13)->i.k<=4
theorem DO {i:aU}{p:Int}(h:au i p=H)(k0:0<=i.k)(k1:i.k<4294967296):Fr i:=by
 obtain⟨hd,hs,ht,hu,ha⟩:=eJ i p h
 obtain⟨op,d,s,t,u,a,k,pl⟩:=i
 simp only at k0 k1 hd hs ht hu ha
 refine⟨?_,hd,hs,ht,⟨k0,k1⟩,?_,?_⟩
 ·rcases cw op with rfl|rfl|rfl|rfl|rfl|rfl|rfl|rfl|rfl|rfl|rfl|rfl|rfl|rfl|rfl|rfl|rfl|rfl|rfl|rfl|rfl | hn
  rotate_right
  ·unfold au at h
   rw[(dB hn).1] at h
   simp at h
  all_goals simp
 ·rintro(e | e)
  ·simp only at e
   subst e
   rw[kV d s t u a k pl p hd hs ht hu ha k0 k1] at h
   simp at h
   exact h.2
  ·simp only at e
   subst e
   rw[kU d s t u a k pl p hd hs ht hu ha k0 k1] at h
   simp at h
   exact h.2
 ·rintro(e | e)
  ·simp only at e
   subst e
   rw[jd d s t u a k pl p hd hs ht hu ha k0 k1] at h
   simp at h
   show k<=4
   omega
  ·simp only at e
   subst e
   rw[jc d s t u a k pl p hd hs ht hu ha k0 k1] at h
   simp at h
   show k<=4
   omega
section
variable {xs:List Int}{i:aU}{self:Int}
theorem qR {k:Int}(h0:0<=k)(h1:k<=31):(1:Int)<=2 ^ k.toNat/\(2:Int) ^ k.toNat<=2147483648:=by
 have a:=Nat.one_le_two_pow (n:=k.toNat)
 have b:=Nat.pow_le_pow_right (n:=2) (by omega) (show k.toNat<=31 by omega)
 have e:((2 ^ k.toNat:Nat):Int)=(2:Int) ^ k.toNat:=by simp
 omega
theorem uf (hx:gF xs)(h:Fr i)(h0:0<=self)(h1:self<4294967296){v:Int}(hv:oE xs i self=T v):0<=v/\v<4294967296:=by
 have es:=hx.at_ i.s.toNat
 have et:=hx.at_ i.t.toNat
 have hk:=h.k
 unfold oE Gg at hv
 repeat' split at hv
 all_goals first | (injection hv with hv;subst hv) | cases hv
 ·omega
 ·omega
 ·omega
 ·exact vy es.1 es.2
 ·omega
 ·rename_i e
  have hp:=qR hk.1 (h.sh (.inr e))
  have:=Int.ediv_le_self (2 ^ i.k.toNat) es.1
  have:=Int.ediv_nonneg es.1 (by omega:(0:Int)<=2 ^ i.k.toNat)
  omega
 ·exact xz es.1 es.2 et.1 et.2
 ·omega
theorem cX.one (hx:cX xs)(h:Fr i)(h0:0<=self)(h1:self<4294967296):cX (oV xs i self):=by
 unfold oV DJ
 split
 ·exact hx
 ·split
  ·rename_i v hv
   exact⟨by rw[List.length_set];exact hx.1,hx.2.set _ _ (uf hx.2 h h0 h1 hv)⟩
  ·exact hx
end
structure G6 where
 xs:List Int
 pc:Int
 ms:List Int
 done:Int
 e:Int
def iN (self:Int)(l:List aU):Nat->List Int->Int->List Int->G6
 | n,xs,pc,ms=>
  if pc<0 then ⟨xs,pc,ms,-1,11⟩
  else match l[pc.toNat]? with
   | none=>⟨xs,pc,ms,-1,11⟩
   | some i=>if fp i.op then ⟨xs,pc,ms,-1,0⟩
    else match n with
     | 0=>⟨xs,pc,ms,-1,11⟩
     | n+1=>if i.op=13 then ⟨xs,pc,ms,i.k,0⟩ else iN self l n (oV xs i self) (tT xs pc i) (if i.op=12 then ms++[i.k] else ms)
section
variable {self:Int}{l:List aU}{n:Nat}{xs:List Int}{pc:Int}{ms:List Int}
theorem nW (h:pc<0\/l.length<=pc):iN self l n xs pc ms=⟨xs,pc,ms,-1,11⟩:=by
 unfold iN
 by_cases h0:pc<0
 ·rw[if_pos h0]
 ·rw[if_neg h0,List.getElem?_eq_none (by omega)]
theorem nX {i:aU}{k:Nat}(h:l[k]?=T i)(hm:fp i.op=H):iN self l n xs k ms=⟨xs,k,ms,-1,0⟩:=by
 unfold iN
 rw[if_neg (by omega),Int.toNat_natCast,h]
 simp[hm]
theorem lE {i:aU}{k:Nat}(h:l[k]?=T i)(hm:fp i.op=U):iN self l 0 xs k ms=⟨xs,k,ms,-1,11⟩:=by
 unfold iN
 rw[if_neg (by omega),Int.toNat_natCast,h]
 simp[hm]
theorem lG {i:aU}{k:Nat}(h:l[k]?=T i)(hm:i.op=13):iN self l (n+1) xs k ms=⟨xs,k,ms,i.k,0⟩:=by
 unfold iN
 rw[if_neg (by omega),Int.toNat_natCast,h]
 simp[hm,fp]
theorem lF {i:aU}{k:Nat}(h:l[k]?=T i)(hm:fp i.op=U)(h13:i.op≠13):iN self l (n+1) xs k ms=iN self l n (oV xs i self) (tT xs k i) (if i.op=12 then ms++[i.k] else ms):=by
 conv=>lhs;unfold iN
 rw[if_neg (by omega),Int.toNat_natCast,h]
 simp[hm,h13]
end
theorem nj {self:Int}{l:List aU}(hl:∀ i∈l,Fr i)(h0:0<=self)(h1:self<4294967296):∀ (n:Nat) (xs:List Int) (pc:Int) (ms:List Int),cX xs->cX (iN self l n xs pc ms).xs
 | n,xs,pc,ms,hx=>by
  by_cases h9:pc<0\/l.length<=pc
  ·rw[nW h9];exact hx
  ·obtain⟨k,rfl⟩:∃ k:Nat,pc=k:=⟨pc.toNat,by omega⟩
   have hk:=List.getElem?_eq_getElem (l:=l) (i:=k) (by omega)
   have hi:=hl _ (List.getElem_mem (l:=l) (n:=k) (by omega))
   generalize l[k]=i at hk hi
   by_cases hm:fp i.op=H
   ·rw[nX hk hm];exact hx
   ·have hm':fp i.op=U:=by simpa using hm
    match n with
    | 0=>rw[lE hk hm'];exact hx
    | n+1=>
     by_cases h13:i.op=13
     ·rw[lG hk h13];exact hx
     ·rw[lF hk hm' h13];exact nj hl h0 h1 n _ _ _ (hx.one hi h0 h1)
end
section
def fT (zs:List Int):Prop:=zs.length<=8/\∀ k,k<zs.length->0<=aD zs k/\aD zs k<=4096
def sz (zs:List Int)(k:Nat):Nat:=(aD zs k).toNat
def pre (zs:List Int):Nat->Nat
 | 0=>0
 | k+1=>pre zs k+sz zs k
theorem je (zs:List Int)(k:Nat):pre zs (k+1)=pre zs k+sz zs k:=rfl
def jP (zs:List Int):Nat:=pre zs zs.length
def jO (zs:List Int):Nat->List (Nat×Nat)
 | 0=>[]
 | k+1=>jO zs k++(List.range (sz zs k)).map fun i=>(k,i)
def oX (zs:List Int):List (Nat×Nat):=jO zs zs.length
section
variable {zs:List Int}
theorem FJ (h:fT zs){k:Nat}(hk:k<zs.length):sz zs k<=4096:=by
 have:=(h.2 k hk);unfold sz;omega
theorem sT (zs:List Int){a b:Nat}(h:a<=b):pre zs a<=pre zs b:=by
 induction b with
 | zero=>
  obtain rfl:a=0:=by omega
  exact L _
 | succ b ih=>
  by_cases e:a=b+1
  ·subst e;exact L _
  ·exact Nat.le_trans (ih (by omega)) (by simp[pre])
theorem Bj (h:fT zs):∀ k,k<=zs.length->pre zs k<=4096*k
 | 0,_=>L _
 | k+1,hk=>by
  have h1:=Bj h k (by omega)
  have h2:=FJ h (k:=k) (by omega)
  rw[je];omega
theorem vC (h:fT zs):jP zs<=32768:=by
 have h1:=Bj h zs.length (L _)
 have h2:=h.1
 unfold jP;omega
theorem CA {k:Nat}(hk:k<=zs.length):pre zs k<=jP zs:=sT zs hk
theorem jx (zs:List Int):∀ k,(jO zs k).length=pre zs k
 | 0=>rfl
 | k+1=>by simp[jO,pre,jx zs k]
theorem jh (zs:List Int):(oX zs).length=jP zs:=jx zs _
theorem tL (zs:List Int):∀ K a p,a<K->p<sz zs a->(jO zs K)[pre zs a+p]?=T (a,p)
 | 0,a,p,ha,_=>by omega
 | K+1,a,p,ha,hp=>by
  unfold jO
  rw[List.getElem?_append,jx]
  by_cases e:a=K
  ·subst e
   rw[if_neg (by omega),Nat.add_sub_cancel_left]
   simp[hp]
  ·have h1:pre zs (a+1)<=pre zs K:=sT zs (by omega)
   rw[je] at h1
   rw[if_pos (by omega)]
   exact tL zs K a p (by omega) hp
theorem mY {a p:Nat}(ha:a<zs.length)(hp:p<sz zs a):(oX zs)[pre zs a+p]?=T (a,p):=tL zs _ a p ha hp
theorem pD (zs:List Int):∀ K i,i<pre zs K->∃ a p,a<K/\p<sz zs a/\i=pre zs a+p
 | 0,i,h=>by unfold pre at h;omega
 | K+1,i,h=>by
  by_cases e:i<pre zs K
  ·obtain⟨a,p,h1,h2,h3⟩:=pD zs K i e
   exact⟨a,p,by omega,h2,h3⟩
  ·rw[je] at h
   exact⟨K,i-pre zs K,by omega,by omega,by omega⟩
theorem pm {i:Nat}(h:i<jP zs):∃ a p,a<zs.length/\p<sz zs a/\i=pre zs a+p:=pD zs _ i h
theorem Bi {a p:Nat}(ha:a<zs.length)(hp:p<sz zs a):pre zs a+p<jP zs:=by
 have h1:pre zs (a+1)<=jP zs:=CA (by omega)
 rw[je] at h1;omega
def vQ (c:Nat×Nat):List Value:=[N O c.1,N O c.2]
def kt (l:List (Nat×Nat)):List Value:=l.flatMap vQ
theorem vt (l:List (Nat×Nat))(c:Nat×Nat):kt (l++[c])=kt l++vQ c:=by simp[kt]
theorem tK:∀ (l:List (Nat×Nat)) (k:Nat) (c:Nat×Nat),l[k]?=T c->(kt l)[k*2]?=T (N O c.1)/\(kt l)[k*2+1]?=T (N O c.2)
 | [],k,c,h=>by simp at h
 | x :: l,0,c,h=>by simp at h;subst h;exact⟨rfl,rfl⟩
 | x :: l,k+1,c,h=>by
  have ih:=tK l k c (by simpa using h)
  have e:kt (x :: l)=N O x.1 :: N O x.2 :: kt l:=by simp[kt,vQ]
  rw[e,show (k+1)*2=k*2+1+1 by omega]
  exact ih
def dV (zs:List Int)(k i:Nat):List (Nat×Nat):=jO zs k++(List.range i).map fun i=>(k,i)
theorem yQ (zs:List Int)(k:Nat):dV zs k 0=jO zs k:=by simp[dV]
theorem sD (zs:List Int)(k:Nat):dV zs k (sz zs k)=jO zs (k+1):=rfl
theorem qC (zs:List Int)(k i:Nat):dV zs k (i+1)=dV zs k i++[(k,i)]:=by simp[dV,List.range_succ]
theorem sC (zs:List Int)(k i:Nat):(dV zs k i).length=pre zs k+i:=by simp[dV,jx]
end
structure Lk where
 l:List aU
 lo:Int
 un:Int
 zs:List Int
 each:Nat
 n:Nat
structure zE where
 xs:List Int
 pc:Int
structure Pn where
 free:Nat->List Nat
 gen:List Int
 out:List Int
structure Mc where
 ws:List Int
 pn:Pn
 cs:Nat->zE
structure Ot where
 ms:List Int
 done:Int
 addr:Int
 wrote:Bool
 stay:Bool
 e:Int
def bp {α:Type}(f:Nat->α)(t:Nat)(v:α):Nat->α:=fun i=>if i=t then v else f i
theorem aK {α:Type}(f:Nat->α)(t:Nat)(v:α):bp f t v t=v:=by simp[bp]
theorem ax {α:Type}{f:Nat->α}{t i:Nat}{v:α}(h:i≠t):bp f t v i=f i:=by simp[bp,h]
def Gn (gen:List Int)(q:Nat):Int:=aD gen q*4096+((q:Int)+1)
def Hj (gen out:List Int)(h:Int):Bool:=decide (1<=h % 4096/\h % 4096<=(out.length:Int)/\aD out (h % 4096-1).toNat=1/\Gn gen (h % 4096-1).toNat=h)
def FH (p:Pn)(t:Nat):Pn×Int:=match p.free t with
 | []=>(p,0)
 | q :: rest=>(⟨bp p.free t rest,p.gen,p.out.set q 1⟩,Gn p.gen q)
def Gc (each:Nat)(p:Pn)(h:Int):Option Pn:=
 if h=0 then T p
 else if Hj p.gen p.out h then
  let q:=(h % 4096-1).toNat
  T ⟨bp p.free (q / each) (p.free (q / each)++[q]),p.gen.set q ((h / 4096+1) % 262144),p.out.set q 0⟩
 else V
def rG (n each:Nat):Pn:=⟨fun t=>(List.range each).map fun i=>t*each+i,List.replicate (n*each) 0,List.replicate (n*each) 0⟩
def gC (zs:List Int)(area v:Int):Option Nat:=
 if 0<=area/\area<zs.length/\v % 4096<sz zs area.toNat then T (pre zs area.toNat+(v % 4096).toNat) else V
def iD (k:Lk)(m:Mc)(t:Nat)(c:zE)(o:Ot):Mc×Ot:=
 let r:=iN (t:Int) k.l 256 c.xs c.pc []
 ({ m with cs:=bp m.cs t ⟨r.xs,r.pc⟩ },{ o with ms:=r.ms,done:=r.done,e:=r.e })
def bn (k:Lk)(m:Mc)(t:Nat)(unlock:Bool):Mc×Ot:=
 iD k m t ⟨(m.cs t).xs,if unlock then k.un else k.lo⟩ ⟨[],0,-1,U,U,0⟩
def jK:Ot:=⟨[],-1,-1,U,U,11⟩
def ke (k:Lk)(pc:Int):Option aU:=if pc<0 then V else match k.l[pc.toNat]? with
 | some i=>if fp i.op then T i else V
 | none=>V
def oY (k:Lk)(m:Mc)(t:Nat)(c:zE)(late:Bool)(i:aU)(a:Nat):Mc×Ot:=
 let v:=aD c.xs i.t.toNat
 let u:=aD c.xs i.u.toNat
 let was:=aD m.ws a
 let d:=i.d.toNat
 let o:Ot:=⟨[],0,a,U,U,0⟩
 if i.op=16 then iD k m t ⟨c.xs.set d was,c.pc+1⟩ o
 else if i.op=17 then iD k { m with ws:=m.ws.set a v } t ⟨c.xs,c.pc+1⟩ { o with wrote:=H }
 else if i.op=18 then iD k { m with ws:=m.ws.set a v } t ⟨c.xs.set d was,c.pc+1⟩ { o with wrote:=H }
 else if i.op=19 then
  if was=v then iD k { m with ws:=m.ws.set a u } t ⟨c.xs.set d 1,c.pc+1⟩ { o with wrote:=H }
  else iD k m t ⟨c.xs.set d 0,c.pc+1⟩ o
 else if i.op=20 then iD k { m with ws:=m.ws.set a ((was+i.k) % 4294967296) } t ⟨c.xs.set d was,c.pc+1⟩ { o with wrote:=H }
 else
  let holds:=decide (was=v) != decide (i.k=1)
  if holds then iD k m t ⟨c.xs.set d was,c.pc+1⟩ o
  else if late=U\/i.pl<0 then ({ m with cs:=bp m.cs t ⟨c.xs.set d was,c.pc⟩ },{ o with stay:=H,done:=-1 })
  else iD k m t ⟨c.xs.set d was,i.pl⟩ o
def bC (k:Lk)(m:Mc)(t:Nat)(late:Bool):Mc×Ot:=
 let c:=m.cs t
 match ke k c.pc with
 | none=>(m,jK)
 | some i=>
  let s:=aD c.xs i.s.toNat
  if i.op=22 then
   let r:=FH m.pn t
   iD k { m with pn:=r.1 } t ⟨c.xs.set i.d.toNat r.2,c.pc+1⟩ ⟨[],0,-1,U,U,0⟩
  else if i.op=23 then match Gc k.each m.pn s with
   | none=>(m,jK)
   | some p=>iD k { m with pn:=p } t ⟨c.xs,c.pc+1⟩ ⟨[],0,-1,U,U,0⟩
  else match gC k.zs i.a s with
   | none=>(m,jK)
   | some a=>oY k m t c late i a
def zA (k:Lk)(init r7:List Int):Mc:=⟨init,rG k.n k.each,fun t=>⟨[0,0,0,0,0,0,0,aD r7 t],0⟩⟩
structure Rn where
 m:Mc
 act:Nat->Int
 l:List En
 bad:Bool
structure ki where
 kind:Int
 t:Int
 late:Bool
def enter (r:Rn)(kind:Int)(t:Nat):Rn:={ r with l:=r.l++[⟨kind,t,0⟩] }
def iX (k:Int):Int:=if k=1 then 2 else if k=2 then 3 else if k=3 then 4 else if k=4 then 9 else 0
def eU (r:Rn)(t:Nat)(ms:List Int):Rn:={ r with l:=r.l++ms.map fun k=>⟨iX k,(t:Int),0⟩ }
def bA (r:Rn)(t:Nat)(o:Ot):Rn:=
 let r:=eU r t o.ms
 if o.e≠0\/(0<=o.done/\¬ ((o.done=2)↔(r.act t=3))) then { r with bad:=H }
 else if o.done=0 then { enter r 6 t with act:=bp r.act t 0 }
 else if o.done=1 then { enter r 5 t with act:=bp r.act t 2 }
 else if o.done=2 then { enter r 10 t with act:=bp r.act t 0 }
 else if o.done=3 then { enter r 7 t with act:=bp r.act t 0 }
 else r
def dN (k:Lk)(r:Rn)(o:ki):Rn:=
 if o.t<0\/(k.n:Int)<=o.t\/r.bad=H then r
 else
  let t:=o.t.toNat
  if o.kind=1 then
   if r.act t=0 then
    let r:=enter { r with act:=bp r.act t 1 } 1 t
    let x:=bn k r.m t U
    bA { r with m:=x.1 } t x.2
   else r
  else if o.kind=2 then
   if r.act t=2 then
    let r:=enter { r with act:=bp r.act t 3 } 8 t
    let x:=bn k r.m t H
    bA { r with m:=x.1 } t x.2
   else r
  else if r.act t=1\/r.act t=3 then
   let x:=bC k r.m t o.late
   bA { r with m:=x.1 } t x.2
  else r
def fo (k:Lk)(r:Rn)(l:List ki):Rn:=l.foldl (dN k) r
def jM (k:Lk)(init r7:List Int):Rn:=⟨zA k init r7,fun _=>0,[],U⟩
theorem sN {k:Lk}{I:Rn->Prop}(h:∀ r o,I r->I (dN k r o)):∀ (l:List ki) (r:Rn),I r->I (fo k r l)
 | [],r,hr=>hr
 | o :: l,r,hr=>sN h l _ (h r o hr)
theorem An {k:Lk}{I:Rn->Prop}
 (h1:∀ r t,I r->t<k.n->r.bad=U->r.act t=0->I (bA { m:=(bn k r.m t U).1,act:=bp r.act t 1,l:=r.l++[⟨1,t,0⟩],bad:=r.bad } t (bn k r.m t U).2))
 (h2:∀ r t,I r->t<k.n->r.bad=U->r.act t=2->I (bA { m:=(bn k r.m t H).1,act:=bp r.act t 3,l:=r.l++[⟨8,t,0⟩],bad:=r.bad } t (bn k r.m t H).2))
 (h3:∀ r t late,I r->t<k.n->r.bad=U->(r.act t=1\/r.act t=3)->I (bA { r with m:=(bC k r.m t late).1 } t (bC k r.m t late).2))
 (r:Rn) (o:ki) (hr:I r):I (dN k r o):=by
 unfold dN
 split
 ·exact hr
 ·rename_i hc
  have ht:o.t.toNat<k.n:=by omega
  have hb:r.bad=U:=by
   cases hbb:r.bad with
   | false=>rfl
   | true=>exact absurd (.inr (.inr hbb)) hc
  simp only
  split
  ·split
   ·exact h1 r _ hr ht hb (by assumption)
   ·exact hr
  ·split
   ·split
    ·exact h2 r _ hr ht hb (by assumption)
    ·exact hr
   ·split
    ·exact h3 r _ o.late hr ht hb (by assumption)
    ·exact hr
section
variable {r:Rn}{t:Nat}{ad:Int}{wr st:Bool}
theorem df:bA r t ⟨[],-1,ad,wr,st,0⟩=r:=by
 unfold bA eU
 simp
theorem p8 (j:Int):bA r t ⟨[j],-1,ad,wr,st,0⟩={ r with l:=r.l++[⟨iX j,t,0⟩] }:=by
 unfold bA eU
 simp
theorem tM (h:r.act t=1):bA r t ⟨[2],1,ad,wr,st,0⟩={ r with act:=bp r.act t 2,l:=(r.l++[⟨3,t,0⟩])++[⟨5,t,0⟩] }:=by
 unfold bA eU enter
 simp[h,iX]
theorem pZ (h:r.act t=3):bA r t ⟨[4],2,ad,wr,st,0⟩={ r with act:=bp r.act t 0,l:=(r.l++[⟨9,t,0⟩])++[⟨10,t,0⟩] }:=by
 unfold bA eU enter
 simp[h,iX]
end
theorem tN {r:Rn}{t s:Nat}{o:Ot}(h:s≠t):(bA r t o).act s=r.act s:=by
 unfold bA eU enter
 simp only
 repeat' split
 all_goals first | rfl | exact ax h
theorem jG {k:Lk}{r:Rn}{o:ki}{s:Nat}(h:o.t≠s):(dN k r o).act s=r.act s:=by
 unfold dN
 split
 ·rfl
 ·rename_i hc
  have hs:s≠o.t.toNat:=by omega
  simp only
  repeat' split
  all_goals first | rfl | exact tN hs | exact(tN hs).trans (ax hs)
theorem kw {k:Lk}{m:Mc}{t:Nat}{late:Bool}{i:aU}{a:Nat}(h:ke k (m.cs t).pc=T i)(h22:i.op≠22)(h23:i.op≠23)(hf:gC k.zs i.a (aD (m.cs t).xs i.s.toNat)=T a):
 bC k m t late=oY k m t (m.cs t) late i a:=by
 unfold bC
 simp only[h]
 rw[if_neg h22,if_neg h23,hf]
structure G7 (i:aU)(n:Nat):Prop where
 op:16<=i.op/\i.op<=23
 d:0<=i.d/\i.d<=7
 s:0<=i.s/\i.s<=7
 t:0<=i.t/\i.t<=7
 u:0<=i.u/\i.u<=7
 a:0<=i.a/\i.a<=7
 k:0<=i.k/\i.k<4294967296
 aw:i.op=21->(i.k=0\/i.k=1)/\(i.pl=-1\/(0<=i.pl/\i.pl<n))
theorem Ex {i:aU}{n:Nat}(h:au i n=H)(k0:0<=i.k)(k1:i.k<4294967296)(hm:fp i.op=H):G7 i n:=by
 obtain⟨hd,hs,ht,hu,ha⟩:=eJ i n h
 have ho:=(DO h k0 k1).op
 have hop:16<=i.op/\i.op<=23:=by
  unfold fp at hm
  simp only[Bool.and_eq_true,decide_eq_true_eq] at hm
  omega
 refine⟨hop,hd,hs,ht,hu,ha,⟨k0,k1⟩,fun e=>?_⟩
 obtain⟨op,d,s,t,u,a,k,pl⟩:=i
 simp only at e k0 k1 hd hs ht hu ha
 subst e
 rw[ic d s t u a k pl n hd hs ht hu ha k0 k1] at h
 simp at h
 simp only
 omega
theorem cX.put {xs:List Int}(h:cX xs)(d:Nat){v:Int}(hv:0<=v/\v<4294967296):cX (xs.set d v):=⟨by rw[List.length_set];exact h.1,h.2.set _ _ hv⟩
section
variable {k:Lk}{m:Mc}{t:Nat}{late:Bool}{i:aU}{a:Nat}
theorem xc (h:ke k (m.cs t).pc=V):bC k m t late=(m,jK):=by
 unfold bC
 simp only[h]
theorem gR {pc:Int}(h:ke k pc=T i):0<=pc/\pc<k.l.length/\k.l[pc.toNat]?=T i/\fp i.op=H:=by
 unfold ke at h
 by_cases h0:pc<0
 ·rw[if_pos h0] at h;cases h
 ·rw[if_neg h0] at h
  cases hk:k.l[pc.toNat]? with
  | none=>rw[hk] at h;cases h
  | some j=>
   rw[hk] at h
   simp only at h
   by_cases hm:fp j.op=H
   ·rw[if_pos hm] at h
    injection h with h
    subst h
    have:=(List.getElem?_eq_some_iff.1 hk).1
    exact⟨by omega,by omega,rfl,hm⟩
   ·rw[if_neg hm] at h;cases h
theorem xK {pc:Int}(h:ke k pc=V):pc<0\/(k.l.length:Int)<=pc\/∃ j,0<=pc/\pc<k.l.length/\k.l[pc.toNat]?=T j/\fp j.op=U:=by
 unfold ke at h
 by_cases h0:pc<0
 ·exact .inl h0
 ·rw[if_neg h0] at h
  cases hk:k.l[pc.toNat]? with
  | none=>exact .inr (.inl (by have:=List.getElem?_eq_none_iff.1 hk;omega))
  | some j=>
   rw[hk] at h
   simp only at h
   have:=(List.getElem?_eq_some_iff.1 hk).1
   by_cases hm:fp j.op=H
   ·rw[if_pos hm] at h;cases h
   ·exact .inr (.inr ⟨j,by omega,by omega,rfl,by simpa using hm⟩)
structure GY (k:Lk)(m:Mc):Prop where
 ws:gF m.ws
 len:m.ws.length=jP k.zs
 cs:∀ t,t<k.n->cX (m.cs t).xs
structure gH (k:Lk):Prop where
 code:nC ⟨k.l,k.lo,k.un⟩=H
 k32:∀ i∈k.l,0<=i.k/\i.k<4294967296
 zs:fT k.zs
 few:jP k.zs<=8192
 n1:1<=k.n
 n64:k.n<=64
 each:k.each<=8
theorem gH.parts (h:gH k):1<=k.l.length/\k.l.length<=64/\0<=k.lo/\k.lo<k.l.length/\0<=k.un/\k.un<k.l.length/\∀ i∈k.l,au i k.l.length=H:=by
 have hc:=h.code
 unfold nC at hc
 simp only[Bool.and_eq_true,decide_eq_true_eq,List.all_eq_true] at hc
 obtain⟨h1,h2,h3,h4,h5,h6,h7⟩:=hc
 exact⟨h1,h2,h3,h5,h4,h6,h7⟩
theorem gH.ok (h:gH k):∀ i∈k.l,Fr i:=fun i hi=>DO (h.parts.2.2.2.2.2.2 i hi) (h.k32 i hi).1 (h.k32 i hi).2
theorem gH.Gl (h:gH k){pc:Int}(hm:ke k pc=T i):G7 i k.l.length:=by
 obtain⟨_,_,h3,h4⟩:=gR hm
 have hi:=List.mem_of_getElem? h3
 exact Ex (h.parts.2.2.2.2.2.2 i hi) (h.k32 i hi).1 (h.k32 i hi).2 h4
theorem m9 {cs:Nat->zE}{c:zE}{n:Nat}(h:∀ t,t<n->cX (cs t).xs)(hc:cX c.xs)(t:Nat):∀ s,s<n->cX (bp cs t c s).xs:=fun s hs=>by
 unfold bp
 split
 ·exact hc
 ·exact h s hs
end
end
section
open Go.ChangeShapes Go.WideShapes Go.ChangeAt Go.RowKit
theorem cq (i j:aU)(w:World):(binOp .eql 123 (iv i) (iv j)).run Tryz.prog w=.ok (.bool (dg i j)) w:=by
 unfold iv
 have hu:=Tryz.underlying123
 go_simp
 unfold dg
 repeat' split
 all_goals simp[*]
def Jb (w:World)(g:Nat)(i:aU):Prop:=Bk w g 123 #[N O i.op,N O i.d,N O i.s,N O i.t,N O i.u,N O i.a,N Z i.k,N O i.pl]
theorem Jb.cells {w:World}{g:Nat}{i:aU}(h:Jb w g i):
 w.cell? ⟨g,0,V⟩=T (N O i.op)/\w.cell? ⟨g,1,V⟩=T (N O i.d)/\w.cell? ⟨g,2,V⟩=T (N O i.s)/\w.cell? ⟨g,3,V⟩=T (N O i.t)/\
 w.cell? ⟨g,4,V⟩=T (N O i.u)/\w.cell? ⟨g,5,V⟩=T (N O i.a)/\w.cell? ⟨g,6,V⟩=T (N Z i.k)/\w.cell? ⟨g,7,V⟩=T (N O i.pl):=
 ⟨Bk.cell h 0,Bk.cell h 1,Bk.cell h 2,Bk.cell h 3,Bk.cell h 4,Bk.cell h 5,Bk.cell h 6,Bk.cell h 7⟩
theorem Jb.below {w w':World}{g:Nat}{i:aU}(h:Jb w g i)(hb:Below w.heap.size w w'):Jb w' g i:=(hb.block g (Bk.lt h)).trans h
theorem Jb.zG {w:World}{b:Nat}{i:aU}(h:Jb w b i):
 (∀ g:fL w,g.x.cell? ⟨b,0,V⟩=T (N O i.op))/\(∀ g:fL w,g.x.cell? ⟨b,1,V⟩=T (N O i.d))/\(∀ g:fL w,g.x.cell? ⟨b,2,V⟩=T (N O i.s))/\(∀ g:fL w,g.x.cell? ⟨b,3,V⟩=T (N O i.t))/\
 (∀ g:fL w,g.x.cell? ⟨b,4,V⟩=T (N O i.u))/\(∀ g:fL w,g.x.cell? ⟨b,5,V⟩=T (N O i.a))/\(∀ g:fL w,g.x.cell? ⟨b,6,V⟩=T (N Z i.k))/\(∀ g:fL w,g.x.cell? ⟨b,7,V⟩=T (N O i.pl)):=by
 obtain⟨c0,c1,c2,c3,c4,c5,c6,c7⟩:=h.cells
 exact⟨fun g=>g.cell c0,fun g=>g.cell c1,fun g=>g.cell c2,fun g=>g.cell c3,fun g=>g.cell c4,fun g=>g.cell c5,fun g=>g.cell c6,fun g=>g.cell c7⟩
theorem Jb.made (w:World)(op d s t u a k pl:Int):Jb (w.alloc (G #[N O op,N O d,N O s,N O t,N O u,N O a,N Z k,N O pl] 123)) w.heap.size ⟨op,d,s,t,u,a,k,pl⟩:=Bk.made _ _ _
theorem fS {w x:World}{op d s t u a k pl:Int}(h:Below (w.alloc (G #[N O op,N O d,N O s,N O t,N O u,N O a,N Z k,N O pl] 123)).heap.size (w.alloc (G #[N O op,N O d,N O s,N O t,N O u,N O a,N Z k,N O pl] 123)) x):Jb x w.heap.size ⟨op,d,s,t,u,a,k,pl⟩/\Below w.heap.size w x:=
 ⟨(Jb.made w op d s t u a k pl).below h,((C _ _).alloc (L _) _).trans (h.mono (by simp))⟩
theorem fA {y:World}{g:Nat}{i j:aU}(h:Jb y g j):Jb (fN y g i) g i:=by
 have h8:=(((((((Bk.put h 0 (N O i.op)).put 1 (N O i.d)).put 2 (N O i.s)).put 3 (N O i.t)).put 4 (N O i.u)).put 5 (N O i.a)).put 6 (N Z i.k)).put 7 (N O i.pl)
 unfold fN Jb
 simpa only[List.setIfInBounds_toArray,List.set_cons_zero,List.set_cons_succ] using h8
theorem GP (i:aU)(w:World):
 Calls Tryz.prog 66 #[iv i] w fun e w'=>e=.returned (iv i)/\Below w.heap.size w w':=by
 obtain⟨op,d,s,t,u,a,k,pl⟩:=i
 unfold iv
 go_enter Tryz.func66,Tryz.ntmps66
 go_wp2
 refine bodyPost_ret (v:=.agg #[N O op,N O d,N O s,N O t,N O u,N O a,N Z k,N O pl]) (by simp[results,Tryz.results66,go_sem]) rfl ⟨rfl,?_⟩
 exact((C _ _).alloc (L _) _).alloc (by simp) _
theorem dz (n:Int)(h0:0<=n)(h1:n<=7)(w:World):Calls Tryz.prog 106 #[N O n] w fun e w'=>e=.returned (.bool H)/\w=w':=by
 go_enter Tryz.func106,Tryz.ntmps106
 go_wp2
 go_ret
 exact⟨rfl,rfl⟩
theorem oG (n:Int)(h:n<0\/7<n)(w:World):Calls Tryz.prog 106 #[N O n] w fun e w'=>e=.returned (.bool U)/\w=w':=by
 rcases h with h | h
 ·have h2:decide (n>=0)=U:=by simp;omega
  go_enter Tryz.func106,Tryz.ntmps106
  go_wp2
  go_ret
  exact⟨rfl,rfl⟩
 ·have h2:decide (n<=7)=U:=by simp;omega
  have h3:0<=n:=by omega
  go_enter Tryz.func106,Tryz.ntmps106
  go_wp2
  go_ret
  exact⟨rfl,rfl⟩
def jA:Array Value:=#[.string ⟨#[]⟩,.string ⟨#[99,111,110,115,116]⟩,.string ⟨#[109,111,118,101]⟩,.string ⟨#[97,100,100,107]⟩,.string ⟨#[97,110,100,107]⟩,.string ⟨#[115,104,108]⟩,.string ⟨#[115,104,114]⟩,.string ⟨#[111,114]⟩,.string ⟨#[98,101,113]⟩,.string ⟨#[98,110,101]⟩,.string ⟨#[106,117,109,112]⟩,.string ⟨#[115,101,108,102]⟩,.string ⟨#[109,97,114,107]⟩,.string ⟨#[100,111,110,101]⟩,.string ⟨#[]⟩,.string ⟨#[]⟩,.string ⟨#[108,111,97,100]⟩,.string ⟨#[115,116,111,114,101]⟩,.string ⟨#[115,119,97,112]⟩,.string ⟨#[99,97,115]⟩,.string ⟨#[102,97,100,100]⟩,.string ⟨#[97,119,97,105,116]⟩,.string ⟨#[116,97,107,101]⟩,.string ⟨#[102,114,101,101]⟩]
theorem xH:∀ n:Nat,1<=n->n<=23->jA[n]?=T (.string ⟨(bE n).toArray⟩):=by
 intro n h1 h2
 have hn:n=1\/n=2\/n=3\/n=4\/n=5\/n=6\/n=7\/n=8\/n=9\/n=10\/n=11\/n=12\/n=13\/n=14\/n=15\/n=16\/n=17\/n=18\/n=19\/n=20\/n=21\/n=22\/n=23:=by omega
 rcases hn with rfl|rfl|rfl|rfl|rfl|rfl|rfl|rfl|rfl|rfl|rfl|rfl|rfl|rfl|rfl|rfl|rfl|rfl|rfl|rfl|rfl|rfl|rfl <;> rfl
theorem fq (op:Int)(w:World):Calls Tryz.prog 105 #[N O op] w fun e w'=>e=.returned (bs (bE op))/\Below w.heap.size w w':=by
 by_cases h:op<1\/23<op
 ·have E:=D (show bE op=[] from(dB (by omega)).2)
  generalize bE op=nm at *
  rcases h with h | h
  ·go_enter Tryz.func105,Tryz.ntmps105
   go_wp2_with (first | (refine fD rfl 247 _ rfl jA (by kernel_rfl) ?_) | (refine fc rfl 247 _ _ rfl _ jA rfl rfl (by kernel_rfl) (by kernel_rfl) (by kernel_rfl) ?_))
   go_ret
   exact⟨by rw[E.out];rfl,(C _ _).alloc (L _) _⟩
  ·have h2:decide (op<1)=U:=by simp;omega
   go_enter Tryz.func105,Tryz.ntmps105
   go_wp2_with (first | (refine fD rfl 247 _ rfl jA (by kernel_rfl) ?_) | (refine fc rfl 247 _ _ rfl _ jA rfl rfl (by kernel_rfl) (by kernel_rfl) (by kernel_rfl) ?_))
   go_ret
   exact⟨by rw[E.out];rfl,(C _ _).alloc (L _) _⟩
 ·obtain⟨n,hn⟩:∃ n:Nat,op=n:=⟨op.toNat,by omega⟩
  subst hn
  have h1:1<=n:=by omega
  have h23:n<=23:=by omega
  have hc:(w.alloc (.cells jA 247)).cell? ⟨w.heap.size,n,V⟩=T (.string ⟨(bE n).toArray⟩):=by
   rw[cell_of_row _ _ _ _ _ _ (heap_alloc_new w _)]
   exact xH n h1 h23
  generalize bE n=nm at *
  have d1:decide ((n:Int)<1)=U:=by simp;omega
  have d2:decide ((n:Int) > 23)=U:=by simp;omega
  have d3:(n:Int)<24:=by omega
  clear h
  go_enter Tryz.func105,Tryz.ntmps105
  go_wp2_with (first | (refine fD rfl 247 _ rfl jA (by kernel_rfl) ?_) | (refine fc rfl 247 _ _ rfl _ jA rfl rfl (by kernel_rfl) (by kernel_rfl) (by kernel_rfl) ?_))
  go_ret
  exact⟨rfl,(C _ _).alloc (L _) _⟩
structure zL (i:aU):Prop where
 d:0<=i.d/\i.d<=7
 s:0<=i.s/\i.s<=7
 t:0<=i.t/\i.t<=7
 u:0<=i.u/\i.u<=7
 a:0<=i.a/\i.a<=7
end
section
open Go.ChangeShapes Go.WideShapes Go.ChangeAt Go.RowKit Go.Shelf
attribute [local go_sem] Oper.semAt_some
def Dz (c:UInt8):List (List UInt8)->List (List UInt8)
 | []=>[[c]]
 | x :: xs=>(c :: x) :: xs
def bG:List UInt8->List (List UInt8)
 | []=>[]
 | c :: r=>if c=10 then [10] :: bG r else Dz c (bG r)
def eG (text:List UInt8)(k:Nat):List UInt8:=(bG text).getD k []
theorem eK:∀ (s r:List UInt8),Nl s->bG (s++10 :: r)=(s++[10]) :: bG r
 | [],r,_=>by simp[bG]
 | c :: s,r,h=>by
  have ih:=eK s r fun d hd=>h d (List.mem_cons_of_mem _ hd)
  show bG (c :: (s++10 :: r))=_
  rw[bG,if_neg (h c List.mem_cons_self),ih]
  rfl
theorem fh:∀ s:List UInt8,Nl s->s≠[]->bG s=[s]
 | [],_,h=>absurd rfl h
 | [c],h,_=>by simp[bG,h c List.mem_cons_self,Dz]
 | c :: d :: s,h,_=>by
  have ih:=fh (d :: s) (fun x hx=>h x (List.mem_cons_of_mem _ hx)) (by simp)
  rw[bG,if_neg (h c List.mem_cons_self),ih]
  rfl
theorem lL:∀ t:List UInt8,(bG t).length<=t.length
 | []=>L _
 | c :: t=>by
  have ih:=lL t
  rw[bG]
  split
  ·simp;omega
  ·cases h:bG t with
   | nil=>simp[Dz]
   | cons x y=>rw[h] at ih;simp[Dz] at ih ⊢;omega
theorem kP:∀ t:List UInt8,Nl t\/∃ s r,Nl s/\t=s++10 :: r
 | []=>.inl (by unfold Nl;simp)
 | c :: t=>by
  by_cases hc:c=10
  ·exact .inr ⟨[],t,by unfold Nl;simp,by rw[hc];rfl⟩
  rcases kP t with h | ⟨s,r,hs,rfl⟩
  ·exact .inl fun d hd=>by
    rcases List.mem_cons.1 hd with rfl | hd
    ·exact hc
    ·exact h d hd
  ·exact .inr ⟨c :: s,r,fun d hd=>by
    rcases List.mem_cons.1 hd with rfl | hd
    ·exact hc
    ·exact hs d hd,rfl⟩
theorem tm:∀ t:List UInt8,Nl t->Lib.indexByte t 10=-1
 | [],_=>rfl
 | c :: t,h=>by
  have ih:=tm t fun d hd=>h d (List.mem_cons_of_mem _ hd)
  have hc:(c==10)=U:=by simpa using h c List.mem_cons_self
  rw[Lib.indexByte,hc,ih]
  simp
theorem pP:∀ s r:List UInt8,Nl s->Lib.indexByte (s++10 :: r) 10=s.length
 | [],r,_=>by simp[Lib.indexByte]
 | c :: s,r,h=>by
  have ih:=pP s r fun d hd=>h d (List.mem_cons_of_mem _ hd)
  have hc:(c==10)=U:=by simpa using h c List.mem_cons_self
  show Lib.indexByte (c :: (s++10 :: r)) 10=_
  rw[Lib.indexByte,hc,ih]
  have:((s.length:Int)==-1)=U:=by simp
  simp[this]
theorem EI (s:List UInt8)(w:World):
 Calls Tryz.prog 138 #[bs s,N .u8 10] w fun e w'=>e=.returned (N O (Lib.indexByte s 10))/\w=w':=
 (Any.strings_IndexByte Tryz.lays137 ⟨s.toArray⟩ 10 w).mono fun _ _ ⟨he,hw⟩=>⟨he,hw.symm⟩
theorem El (s r:List UInt8)(w:World):(Instr.slice 9 (.string ⟨(s++10 :: r).toArray⟩) V (T (N O ((s.length:Int)+1))) V).run Tryz.prog w=.ok (.string ⟨(s++[10]).toArray⟩) w:=by
 have hu:=Tryz.underlying9
 go_simp
 rw[if_pos ⟨by omega,by omega⟩]
 refine congrArg (fun x=>Result.ok (Value.string x) w) (ByteArray.ext ?_)
 rw[ByteArray.data_extract]
 apply Array.ext'
 simp
 rw[show s++10 :: r=(s++[10])++r by simp,show s.length+1=(s++[10]).length by simp,List.take_left]
theorem Em (s r:List UInt8)(w:World):(Instr.slice 9 (.string ⟨(s++10 :: r).toArray⟩) (T (N O ((s.length:Int)+1))) V V).run Tryz.prog w=.ok (.string ⟨r.toArray⟩) w:=by
 have hu:=Tryz.underlying9
 go_simp
 rw[if_pos ⟨by omega,by omega⟩]
 refine congrArg (fun x=>Result.ok (Value.string x) w) (ByteArray.ext ?_)
 rw[ByteArray.data_extract]
 apply Array.ext'
 simp
 exact List.take_of_length_le (by omega)
def vR (w:World)(b:Nat):Nat:=match w.cell? ⟨b,0,V⟩ with
 | some (.string s)=>s.size
 | _=>0
theorem lU {w:World}{b:Nat}{t:TypeId}{s:List UInt8}(h:Bk w b t #[bs s]):vR w b=s.length:=by
 unfold vR
 rw[h.cell 0]
 show s.toArray.size=_
 simp
theorem AA (text:List UInt8)(b l:Nat)(W1:World)(hb:Bk W1 b 9 #[bs text])(hlen:text.length<1000000000):
 Fk Tryz.prog 137 #[.pointer (T ⟨b,0,V⟩)] (fun k=>#[bs (eG text k)]) (bG text).length l W1 (fun x=>x=b):=by
 intro J Jx hJ hJx hY h0
 refine callsIn_of_wp Tryz.func137 rfl trivial ?_ rfl
 simp only[Tryz.ntmps137,List.size_toArray,List.length_cons,List.length_nil,Nat.reduceAdd,Nat.reduceSub,Array.replicate_succ,Array.replicate_zero,List.push_toArray,List.append_toArray,List.nil_append,List.cons_append]
 gi_wp2
 gi_loopw [3] (fun p wr=>∃ (k:Nat) (t:List UInt8),k<=(bG text).length/\(bG text).drop k=bG t/\t.length<=text.length/\Bk wr b 9 #[bs t]/\J k wr) (fun p wr=>vR wr b)
 case atStart=>exact⟨0,text,Nat.zero_le _,rfl,L _,hb,h0⟩
 case round=>
  obtain⟨k,t,hkl,hdr,hle,hbk,hj⟩:=hrel
  have hbl:=lU hbk
  have hc0:wr.cell? ⟨b,0,V⟩=T (.string ⟨t.toArray⟩):=hbk.cell 0
  have hfr:=hbk.free 0
  by_cases ht:t=[]
  ·subst ht
   have hk:k=(bG text).length:=by
    have:=congrArg List.length hdr
    simp[bG] at this
    omega
   subst hk
   gi_wp2
   go_end0
   exact⟨⟨_,rfl⟩,.inl hj⟩
  ·have hpos:(0:Int)<t.length:=by
    have:=List.length_pos_iff.2 ht
    omega
   have HI:=D (fun W=>callsIn_wide (n:=0) |>.2 (EI t W))
   rcases kP t with hn | ⟨s,r,hn,rfl⟩
   ·have hk1:k<(bG text).length:=by
     have:=congrArg List.length hdr
     rw[fh t hn ht] at this
     simp at this
     omega
    have hk2:(bG text).length=k+1:=by
     have:=congrArg List.length hdr
     rw[fh t hn ht] at this
     simp at this
     omega
    have hline:eG text k=t:=by
     unfold eG
     have:=congrArg List.head? hdr
     rw[fh t hn ht] at this
     simp[List.head?_drop] at this
     simp[List.getD_eq_getElem?_getD,this]
    have hi:=tm t hn
    have w1:ag wr (wr.setCell ⟨b,0,V⟩ (.string ⟨#[]⟩)) (fun x=>x=b):=(ag.refl _ _).put b 0 _ (.inl rfl)
    have b1:Bk (wr.setCell ⟨b,0,V⟩ (.string ⟨#[]⟩)) b 9 #[bs []]:=hbk.put 0 _
    have hj1:=hJ k _ _ hj w1
    obtain⟨fn,tmps,assign,body,hy,hR⟩:=hY k _ hk1 hj1 (by rintro x rfl;exact b1.lt)
    rw[hline] at hy
    unfold bs at hy
    gi_wp2
    refine⟨trivial,rfl,?_⟩
    refine(HI.out _).mono ?_
    rintro e w' ⟨rfl,rfl⟩
    rw[hi]
    gi_wp2
    refine⟨rfl,hR.mono ?_⟩
    rintro e W3 ⟨hh,(⟨rfl,hJ3⟩ | ⟨rfl,hJx3⟩)⟩
    ·gi_wp2
     have b3:Bk W3 b 9 #[bs []]:=(hh.2 b rfl).trans b1
     go_roundw
     case rel=>exact⟨k+1,[],by omega,by rw[List.drop_of_length_le (by omega)];rfl,by simp,b3,hJ3⟩
     case measure=>rw[lU b3,hbl];simp;omega
    ·gi_wp2
     refine bodyPost_ret (results_none rfl _ _ _) rfl ?_
     exact⟨⟨_,rfl⟩,.inr hJx3⟩
   ·have hk1:k<(bG text).length:=by
     have:=congrArg List.length hdr
     rw[eK s r hn] at this
     simp at this
     omega
    have hdr2:(bG text).drop (k+1)=bG r:=by
     have:=congrArg List.tail hdr
     rw[eK s r hn] at this
     simpa [List.tail_drop] using this
    have hline:eG text k=s++[10]:=by
     unfold eG
     have:=congrArg List.head? hdr
     rw[eK s r hn] at this
     simp[List.head?_drop] at this
     simp[List.getD_eq_getElem?_getD,this]
    have hi:=pP s r hn
    have hi0:(0:Int)<=s.length:=by omega
    have hwr:wrap64 ((s.length:Int)+1)=(s.length:Int)+1:=by
     simp at hle
     unfold wrap64
     omega
    have hcut1:∀ w,(Instr.slice 9 (.string ⟨(s++10 :: r).toArray⟩) V (T (N O ((s.length:Int)+1))) V).run Tryz.prog w=.ok (.string ⟨(s++[10]).toArray⟩) w:=fun w=>El s r w
    have hcut2:∀ w,(Instr.slice 9 (.string ⟨(s++10 :: r).toArray⟩) (T (N O ((s.length:Int)+1))) V V).run Tryz.prog w=.ok (.string ⟨r.toArray⟩) w:=fun w=>Em s r w
    gi_wp2
    refine⟨trivial,rfl,?_⟩
    refine(HI.out _).mono ?_
    rintro e w' ⟨rfl,rfl⟩
    rw[hi]
    gi_wp2
    gi_region
    have w0:ag wr (wr.setCell ⟨b,0,V⟩ (.string ⟨r.toArray⟩)) (fun x=>x=b):=(ag.refl _ _).put b 0 _ (.inl rfl)
    have w1:ag wr (wr.setCell ⟨b,0,V⟩ (.string ⟨r.toArray⟩)).drew (fun x=>x=b):=⟨w0.os,w0.tape,w0.output,w0.size,w0.block⟩
    clear w0
    have b1:Bk (wr.setCell ⟨b,0,V⟩ (.string ⟨r.toArray⟩)).drew b 9 #[bs r]:=hbk.put 0 (.string ⟨r.toArray⟩)
    generalize (wr.setCell ⟨b,0,V⟩ (.string ⟨r.toArray⟩)).drew=W2 at *
    have hj1:=hJ k _ _ hj w1
    obtain⟨fn,tmps,assign,body,hy,hR⟩:=hY k _ hk1 hj1 (by rintro x rfl;exact b1.lt)
    rw[hline] at hy
    unfold bs at hy
    gi_wp2
    refine⟨rfl,hR.mono ?_⟩
    rintro e W3 ⟨hh,(⟨rfl,hJ3⟩ | ⟨rfl,hJx3⟩)⟩
    ·gi_wp2
     have b3:Bk W3 b 9 #[bs r]:=(hh.2 b rfl).trans b1
     go_roundw
     case rel=>exact⟨k+1,r,by omega,hdr2,by simp at hle;omega,b3,hJ3⟩
     case measure=>rw[lU b3,hbl];simp;omega
    ·gi_wp2
     refine bodyPost_ret (results_none rfl _ _ _) rfl ?_
     exact⟨⟨_,rfl⟩,.inr hJx3⟩
theorem EH (s:List UInt8)(w:World):
 Calls Tryz.prog 95 #[bs s] w fun e w'=>e=.returned (.func (.func 137) #[] #[.pointer (T ⟨w.heap.size,0,V⟩)])/\w'=w.alloc (G #[bs s] 9):=by
 unfold bs
 go_enter Tryz.func95,Tryz.ntmps95
 go_wp2
 go_ret
 exact⟨rfl,rfl⟩
theorem Fg (s p:List UInt8)(hl:s.length<1000000)(w:World):
 Calls Tryz.prog 96 #[bs s,bs p] w fun e w'=>e=.returned (.tuple #[bs (Lib.trimSuffix s p),.bool (Lib.hasSuffix s p)])/\w=w':=
 (Any.strings_CutSuffix Tryz.lays104 ⟨s.toArray⟩ ⟨p.toArray⟩ w (by show s.toArray.size<=_;simp;omega)).mono fun _ _ ⟨he,hw⟩=>⟨he,hw.symm⟩
theorem mO (s:List UInt8)(c:UInt8):Lib.hasSuffix (s++[c]) [c]=H/\Lib.trimSuffix (s++[c]) [c]=s:=by
 have h:Lib.hasSuffix (s++[c]) [c]=H:=by
  unfold Lib.hasSuffix
  rw[List.isSuffixOf_iff_suffix]
  exact⟨s,rfl⟩
 refine⟨h,?_⟩
 unfold Lib.trimSuffix
 rw[if_pos h]
 simp
theorem rA {s:List UInt8}{c:UInt8}(h:∀ t,s≠t++[c]):Lib.hasSuffix s [c]=U/\Lib.trimSuffix s [c]=s:=by
 have h:Lib.hasSuffix s [c]=U:=by
  rw[Bool.eq_false_iff]
  intro e
  unfold Lib.hasSuffix at e
  rw[List.isSuffixOf_iff_suffix] at e
  obtain⟨t,ht⟩:=e
  exact h t ht.symm
 refine⟨h,?_⟩
 unfold Lib.trimSuffix
 rw[if_neg (by rw[h];simp)]
theorem Ei (s:List UInt8)(c:UInt8):(∃ t,s=t++[c])\/∀ t,s≠t++[c]:=by
 by_cases h:∃ t,s=t++[c]
 ·exact .inl h
 ·exact .inr fun t e=>h ⟨t,e⟩
end
section
open Go.ChangeShapes Go.WideShapes Go.ChangeAt Go.RowKit
theorem xR (l:List En)(t:Int)(k:Nat)(h:k<l.length):aF (l.take (k+1)) t=if l[k].th=t then l[k].kind else aF (l.take k) t:=by
 rw[kS l k h,cU]
theorem zm (l:List En)(a:Option Addr)(cap:Nat)(t:Int)(w:World)(S:rq w a l)(hlen:l.length<=1000000000):
 Calls Tryz.prog 107 #[.slice a l.length cap,N O t] w fun e w'=>e=.returned (N O (aF l t))/\Below w.heap.size w w':=by
 have HS:=D (fun W (hW:Below w.heap.size w W)=>S.below hW)
 have HT:=D (fun k h=>xR l t k h)
 have HE:Hid (aF (l.take l.length) t=aF l t):=D (by rw[List.take_length])
 clear S
 go_enter Tryz.func107,Tryz.ntmps107
 go_wp2
 go_loopw [5,10] (fun n q wr=>∃ k:Nat,q=N O k/\n=N O (aF (l.take k) t)/\k<=l.length/\Below w.heap.size w wr) (fun _ q _=>l.length-(intOf q).toNat)
 case atStart=>exact⟨0,rfl,by simp[aF],Nat.zero_le _,C _ _⟩
 case round=>
  obtain⟨k,rfl,rfl,hk,hb⟩:=hrel
  by_cases hlt:k<l.length
  ·have hki:(k:Int)<l.length:=by omega
   obtain⟨b,off,rfl,hbl,c0,c1,c2⟩:=(HS.out wr hb).at_ (List.getElem?_eq_getElem hlt)
   have hHT:=HT.out k hlt
   have hb2:=hb.alloc (o:=G #[N O l[k].kind,N O l[k].th,N O l[k].now] 93) hb.size
   generalize l[k]=x at *
   obtain⟨xk,xt,xn⟩:=x
   simp only at c0 c1 c2 hb2 hHT
   by_cases hq:xt=t
   ·rw[if_pos hq] at hHT
    have HE2:=D hHT
    have q1:(xt==t)=H:=by simpa using hq
    clear hHT hq
    generalize aF (l.take k) t=m at *
    go_wp2
    go_roundw
    case rel=>exact⟨k+1,by go_num,by rw[HE2.out],by omega,hb2⟩
    case measure=>simp[intOf];omega
   ·rw[if_neg hq] at hHT
    have HE2:=D hHT
    have q1:(xt==t)=U:=by simpa using hq
    clear hHT hq
    generalize aF (l.take k) t=m at *
    go_wp2
    go_roundw
    case rel=>exact⟨k+1,by go_num,by rw[HE2.out],by omega,hb2⟩
    case measure=>simp[intOf];omega
  ·obtain rfl:k=l.length:=by omega
   rw[HE.out]
   go_wp2
   go_ret
   exact⟨rfl,hb⟩
theorem Ep (l:List En)(a:Option Addr)(cap:Nat)(t:Int)(w:World)(S:rq w a l)(hlen:l.length<=1000000000):
 Calls Tryz.prog 146 #[.slice a l.length cap,N O t] w fun e w'=>e=.returned (N O (Gi (aF l t)))/\Below w.heap.size w w':=by
 have HL:=D (zm l a cap t w S hlen)
 generalize aF l t=k at *
 clear S
 by_cases h:k=1\/k=2\/k=3\/k=4\/k=5\/k=8\/k=9
 ·rcases h with rfl|rfl|rfl|rfl|rfl|rfl|rfl <;> (
   go_enter Tryz.func146,Tryz.ntmps146
   go_wp2_with fail
   refine HL.out.mono ?_
   rintro e y ⟨rfl,hy⟩
   go_wp2
   go_ret
   exact⟨rfl,hy⟩)
 ·have HE:Hid (Gi k=0):=D (by
   unfold Gi;repeat' split
   all_goals first | rfl | omega)
  have e1:(k==1)=U:=beq_eq_false_iff_ne.2 (by omega)
  have e2:(k==2)=U:=beq_eq_false_iff_ne.2 (by omega)
  have e3:(k==3)=U:=beq_eq_false_iff_ne.2 (by omega)
  have e4:(k==4)=U:=beq_eq_false_iff_ne.2 (by omega)
  have e5:(k==5)=U:=beq_eq_false_iff_ne.2 (by omega)
  have e8:(k==8)=U:=beq_eq_false_iff_ne.2 (by omega)
  have e9:(k==9)=U:=beq_eq_false_iff_ne.2 (by omega)
  clear h
  generalize Gi k=r at *
  go_enter Tryz.func146,Tryz.ntmps146
  go_wp2_with fail
  refine HL.out.mono ?_
  rintro e y ⟨rfl,hy⟩
  go_wp2
  go_ret
  exact⟨by rw[HE.out];rfl,hy⟩
theorem rq.behind {w:World}{b off:Nat}{l:List En}(h:rq w (T ⟨b,off,V⟩) l)(k:Nat):rq w (T ⟨b,off+k*3,V⟩) (l.drop k):=by
 intro h0
 rw[List.length_drop] at h0
 obtain⟨b2,off2,e,hlt,hc⟩:=h (by omega)
 simp only[Option.some.injEq,Addr.mk.injEq,and_true] at e
 obtain⟨rfl,rfl⟩:=e
 refine⟨b,off+k*3,rfl,hlt,fun i x hi j hj=>?_⟩
 rw[List.getElem?_drop] at hi
 rw[<-hc _ x hi j hj]
 congr 2
 omega
theorem rq.from_ {w:World}{b off cap:Nat}{l:List En}(h:rq w (T ⟨b,off,V⟩) l)(k:Nat)(hp:l.length<=cap):rq w (if cap=k then T ⟨b,off,V⟩ else T ⟨b,off+k*3,V⟩) (l.drop k):=by
 split
 ·rw[List.drop_of_length_le (by omega)]
  exact rq.nil _ _
 ·exact h.behind k
theorem uB (l:List En)(k:Nat):(List.range (k+1)).filterMap (tY l)=(List.range k).filterMap (tY l)++(match tY l k with
 | some t=>[t]
 | none=>[]):=by
 rw[List.range_succ,List.filterMap_append]
 congr 1
 cases h:tY l k <;> simp[h]
theorem xo (l:List En)(k:Nat):((List.range k).filterMap (tY l)).length<=k:=Nat.le_trans (List.length_filterMap_le _ _) (by simp)
theorem Es (l:List En)(a:Option Addr)(cap:Nat)(w:World)(S:rq w a l)(hp:l.length<=cap)(hcm:cap<=maxLen)(hlen:l.length<=1000000000):
 Calls Tryz.prog 108 #[.slice a l.length cap] w fun e w'=>∃ v,e=.returned v/\ef .i64 3 w' v (gD l)/\(∀ g,v.ownBlock=T g->w.heap.size<=g)/\Below w.heap.size w w':=by
 have HS:=D (fun W (hW:Below w.heap.size w W)=>S.below hW)
 have HQ:=D (uB l)
 have HL:=D (fun k=>xo l k)
 have HE:Hid ((List.range l.length).filterMap (tY l)=gD l):=D rfl
 have HLa:=D (fun t W (hW:Below w.heap.size w W)=>zm l a cap t W (S.below hW) hlen)
 simp only[maxLen] at hcm
 clear S
 go_enter Tryz.func108,Tryz.ntmps108
 go_wp2
 go_loopw [3,8] (fun o q wr=>∃ k:Nat,q=N O k/\ef .i64 3 wr o ((List.range k).filterMap (tY l))/\Hid (∀ g,o.ownBlock=T g->w.heap.size<=g)/\k<=l.length/\Below w.heap.size w wr) (fun _ q _=>l.length-(intOf q).toNat)
 case atStart=>exact⟨0,rfl,ef.nil _ _ _,D (fun g e=>by cases e),Nat.zero_le _,C _ _⟩
 case round=>
  obtain⟨k,rfl,hO,HB,hk,hb⟩:=hrel
  by_cases hlt:k<l.length
  ·have hki:(k:Int)<l.length:=by omega
   have hS:=HS.out wr hb
   obtain⟨b,off,rfl,hbl,c0,c1,c2⟩:=hS.at_ (List.getElem?_eq_getElem hlt)
   have hNb:=Nb.made 93 wr l[k].kind l[k].th l[k].now
   have hb2:=hb.alloc (o:=G #[N O l[k].kind,N O l[k].th,N O l[k].now] 93) hb.size
   have HQk:Hid (tY l k=if l[k].kind=2/\aF l l[k].th=2/\aF (l.drop (k+1)) l[k].th=0 then T l[k].th else V):=D (by unfold tY;rw[List.getElem?_eq_getElem hlt])
   generalize l[k]=x at *
   obtain⟨xk,xt,xn⟩:=x
   simp only at c0 c1 c2 hb2 hNb HQk
   go_upto_region 5 with fail
   have HLk:Hid (((List.range k).filterMap (tY l)).length<=1000000000):=D (by have:=HL.out k;omega)
   have HQ2:=D (HQ.out k)
   have hO2:=hO.alloc (G #[N O xk,N O xt,N O xn] 93)
   have HL1:Hid (∀ g:fL (wr.alloc (G #[N O xk,N O xt,N O xn] 93)),Calls Tryz.prog 107 #[.slice (T ⟨b,off,V⟩) l.length cap,N O xt] g.x fun e y=>e=.returned (N O (aF l xt))/\Below g.x.heap.size g.x y):=D (fun g=>HLa.out xt g.x (hb2.trans (g.ok.mono hb2.size)))
   have HL2:Hid (∀ g:fL (wr.alloc (G #[N O xk,N O xt,N O xn] 93)),Calls Tryz.prog 107 #[.slice (if cap=k+1 then T ⟨b,off,V⟩ else T ⟨b,off+(k+1)*3,V⟩) (l.length-(k+1)) (cap-(k+1)),N O xt] g.x fun e y=>e=.returned (N O (aF (l.drop (k+1)) xt))/\Below g.x.heap.size g.x y):=D (fun g=>by
    have:=zm (l.drop (k+1)) (if cap=k+1 then T ⟨b,off,V⟩ else T ⟨b,off+(k+1)*3,V⟩) (cap-(k+1)) xt g.x (((HS.out _ hb2).from_ (k+1) hp).below ((g.ok))) (by rw[List.length_drop];omega)
    rwa [List.length_drop] at this)
   generalize aF l xt=la at *
   generalize aF (l.drop (k+1)) xt=lb at *
   generalize hz:wr.alloc (G #[N O xk,N O xt,N O xn] 93)=z at *
   generalize wr.heap.size=p at *
   obtain⟨e0,e1,e2⟩:=hNb.cells
   simp only at e0 e1 e2
   have g0:∀ g:fL z,g.x.cell? ⟨p,0,V⟩=T (N O xk):=fun g=>g.cell e0
   have g1:∀ g:fL z,g.x.cell? ⟨p,1,V⟩=T (N O xt):=fun g=>g.cell e1
   have hkc:((k:Int)+1)<=(cap:Int):=by omega
   have hkl2:k+1<=l.length:=by omega
   clear hO hb hS c0 c1 c2 hNb e0 e1 e2 hz
   by_cases h2:xk=2
   ·have q2:(xk==2)=H:=by simpa using h2
    by_cases hla:la=2
    ·have q3:(la==2)=H:=by simpa using hla
     by_cases hlb:lb=0
     ·have q4:(lb==0)=H:=by simpa using hlb
      have HSk:Hid ((List.range (k+1)).filterMap (tY l)=(List.range k).filterMap (tY l)++[xt]):=D (by rw[HQ2.out,HQk.out,if_pos (by omega)])
      clear HQ HQ2 HQk h2 hla hlb HL
      refine ap (by kernel_rfl) (by kernel_rfl) ?_
      repeat (go_big_quiet_step (first | (go_at_call 107;with_reducible exact ao (HL1.out _)) | (go_at_call 107;with_reducible exact ao (HL2.out _))))
      refine wpQuiet_nil ?_
      rintro y ⟨⟨_,hy⟩,rfl⟩
      have HY:=D (hb2.trans (hy.mono hb2.size))
      have hO3:=hO2.within (af hy) (by simp)
      have e1y:y.cell? ⟨p,1,V⟩=T (N O xt):=g1 ⟨y,hy⟩
      have HO:=D hO3
      clear HL1 HL2 g0 g1 hb2 hO2 hO3
      generalize (List.range k).filterMap (tY l)=qs at *
      go_wp2_with (at_builtin;refine wR rfl _ _ 25 rfl 8 Tryz.underlying25 lh (by omega) HO.out rfl xt rfl (by have:=HLk.out;omega) ?_;intro v' w' hown hgr hloc)
      have hfin:Below w.heap.size w w':=HY.out.grown hgr HY.out.size HB.out
      have HB2:Hid (∀ g,v'.ownBlock=T g->w.heap.size<=g):=D (fun g e=>by
       rcases hloc with e2 | e2
       ·exact HB.out g (by rw[<-e2];exact e)
       ·rw[e2] at e;injection e with e;have:=HY.out.size;omega)
      rw[<-HSk.out] at hown
      clear hgr hloc HB HO HSk
      go_roundw
      case rel=>exact⟨k+1,by go_num,hown,HB2,by omega,hfin⟩
      case measure=>simp[intOf];omega
     ·have q4:(lb==0)=U:=by simpa using hlb
      have HSk:Hid ((List.range (k+1)).filterMap (tY l)=(List.range k).filterMap (tY l)):=D (by rw[HQ2.out,HQk.out,if_neg (by omega)];simp)
      clear HQ HQ2 HQk h2 hla hlb HL
      refine ap (by kernel_rfl) (by kernel_rfl) ?_
      repeat (go_big_quiet_step (first | (go_at_call 107;with_reducible exact ao (HL1.out _)) | (go_at_call 107;with_reducible exact ao (HL2.out _))))
      refine wpQuiet_nil ?_
      rintro y ⟨⟨_,hy⟩,rfl⟩
      have HY:=D (hb2.trans (hy.mono hb2.size))
      have hO3:=hO2.within (af hy) (by simp)
      rw[<-HSk.out] at hO3
      clear HL1 HL2 g0 g1 hb2 hO2 hy
      go_wp2
      go_roundw
      case rel=>exact⟨k+1,by go_num,hO3,HB,by omega,HY.out⟩
      case measure=>simp[intOf];omega
    ·have q3:(la==2)=U:=by simpa using hla
     have HSk:Hid ((List.range (k+1)).filterMap (tY l)=(List.range k).filterMap (tY l)):=D (by rw[HQ2.out,HQk.out,if_neg (by omega)];simp)
     clear HQ HQ2 HQk h2 hla HL
     refine ap (by kernel_rfl) (by kernel_rfl) ?_
     repeat (go_big_quiet_step (first | (go_at_call 107;with_reducible exact ao (HL1.out _)) | (go_at_call 107;with_reducible exact ao (HL2.out _))))
     refine wpQuiet_nil ?_
     rintro y ⟨⟨_,hy⟩,rfl⟩
     have HY:=D (hb2.trans (hy.mono hb2.size))
     have hO3:=hO2.within (af hy) (by simp)
     rw[<-HSk.out] at hO3
     clear HL1 HL2 g0 g1 hb2 hO2 hy
     go_wp2
     go_roundw
     case rel=>exact⟨k+1,by go_num,hO3,HB,by omega,HY.out⟩
     case measure=>simp[intOf];omega
   ·have q2:(xk==2)=U:=by simpa using h2
    have HSk:Hid ((List.range (k+1)).filterMap (tY l)=(List.range k).filterMap (tY l)):=D (by rw[HQ2.out,HQk.out,if_neg (by omega)];simp)
    clear HQ HQ2 HQk h2 HL
    refine ap (by kernel_rfl) (by kernel_rfl) ?_
    repeat (go_big_quiet_step (first | (go_at_call 107;with_reducible exact ao (HL1.out _)) | (go_at_call 107;with_reducible exact ao (HL2.out _))))
    refine wpQuiet_nil ?_
    rintro y ⟨⟨_,hy⟩,rfl⟩
    have HY:=D (hb2.trans (hy.mono hb2.size))
    have hO3:=hO2.within (af hy) (by simp)
    rw[<-HSk.out] at hO3
    clear HL1 HL2 g0 g1 hb2 hO2 hy
    go_wp2
    go_roundw
    case rel=>exact⟨k+1,by go_num,hO3,HB,by omega,HY.out⟩
    case measure=>simp[intOf];omega
  ·obtain rfl:k=l.length:=by omega
   rw[HE.out] at hO
   go_wp2
   go_ret
   exact⟨_,rfl,hO,HB.out,hb⟩
theorem uH {l:List En}{j:Nat}(hj:j<l.length)(h:dk (aF l l[j].th)=H)(hn:∀ m (hm:m<l.length),j<m->dk (aF l l[m].th)=U):fe l=l[j].th:=by
 unfold fe
 have:l.reverse.find? (fun x=>dk (aF l x.th))=T l[j]:=by
  rw[List.find?_eq_some_iff_getElem]
  refine⟨h,l.length-1-j,by simp;omega,?_,fun i hi=>?_⟩
  ·rw[List.getElem_reverse];congr 1;omega
  ·rw[List.getElem_reverse]
   have:=hn (l.length-1-i) (by omega) (by omega)
   rw[this];rfl
 rw[this]
theorem uG {l:List En}(hn:∀ m (hm:m<l.length),dk (aF l l[m].th)=U):fe l=-1:=by
 unfold fe
 have:l.reverse.find? (fun x=>dk (aF l x.th))=V:=by
  rw[List.find?_eq_none]
  intro x hx
  rw[List.mem_reverse] at hx
  obtain⟨m,hm,rfl⟩:=List.getElem_of_mem hx
  rw[hn m hm];simp
 rw[this]
theorem Et (l:List En)(a:Option Addr)(cap:Nat)(w:World)(S:rq w a l)(hlen:l.length<=1000000000):
 Calls Tryz.prog 109 #[.slice a l.length cap] w fun e w'=>e=.returned (N O (fe l))/\Below w.heap.size w w':=by
 have HS:=D (fun W (hW:Below w.heap.size w W)=>S.below hW)
 have HSt:=D (fun t W (hW:Below w.heap.size w W)=>Ep l a cap t W (S.below hW) hlen)
 have HN:Hid ((∀ m (hm:m<l.length),dk (aF l l[m].th)=U)->fe l=-1):=D uG
 have HH:Hid (∀ j (hj:j<l.length),dk (aF l l[j].th)=H->(∀ m (hm:m<l.length),j<m->dk (aF l l[m].th)=U)->fe l=l[j].th):=D (fun j hj h1 h2=>uH hj h1 h2)
 generalize fe l=res at *
 clear S
 go_enter Tryz.func109,Tryz.ntmps109
 go_wp2
 go_loopw [3] (fun q wr=>∃ k:Nat,q=N O ((k:Int)-1)/\k<=l.length/\Below w.heap.size w wr/\Hid (∀ m (hm:m<l.length),k<=m->dk (aF l l[m].th)=U)) (fun q _=>(intOf q+1).toNat)
 case atStart=>exact⟨l.length,rfl,L _,C _ _,D (fun m hm h=>by omega)⟩
 case round=>
  obtain⟨k,rfl,hk,hb,HB⟩:=hrel
  cases k with
  | zero=>
   have HR:=D (HN.out (fun m hm=>HB.out m hm (Nat.zero_le _)))
   clear HB HN HH HS HSt
   go_wp2
   go_ret
   exact⟨by rw[HR.out];rfl,hb⟩
  | succ j=>
   have hj:j<l.length:=by omega
   have ej:(((j+1:Nat):Int)-1)=(j:Int):=by omega
   rw[ej]
   have hge:((j:Int)>=0):=by omega
   have hji:(j:Int)<l.length:=by omega
   have hS:=HS.out wr hb
   obtain⟨b,off,rfl,hbl,c0,c1,c2⟩:=hS.at_ (List.getElem?_eq_getElem hj)
   have HSj:=D (HSt.out l[j].th wr hb)
   have HHj:=D (HH.out j hj)
   have HBj:Hid (dk (aF l l[j].th)=U->∀ m (hm:m<l.length),j<=m->dk (aF l l[m].th)=U):=D (fun e m hm h=>by
    by_cases e2:m=j
    ·subst e2;exact e
    ·exact HB.out m hm (by omega))
   rw[<-B9] at HHj HBj
   generalize aF l l[j].th=la at *
   generalize Gi la=s at *
   have hS2:Hid (∀ y,Below wr.heap.size wr y->y.cell? ⟨b,off+j*3+1,V⟩=T (N O l[j].th)):=D (fun y hy=>(hy.cell (p:=⟨b,off+j*3+1,V⟩) hbl).trans c1)
   generalize l[j]=x at *
   obtain⟨xk,xt,xn⟩:=x
   simp only at c0 c1 c2 HSj HHj hS2
   clear HH HN HS HSt hS c0 c2 ej hge
   by_cases hs:s=3\/s=4\/s=6
   ·have HR:=D (HHj.out (by rcases hs with rfl|rfl|rfl <;> decide) (fun m hm h=>HB.out m hm (by omega)))
    clear HHj HBj HB
    rcases hs with rfl|rfl|rfl <;> (
     go_wp2_with fail
     refine HSj.out.mono ?_
     rintro e y ⟨rfl,hy⟩
     have hfin:=hb.trans (hy.mono hb.size)
     have c1y:=hS2.out y hy
     clear HSj hS2 hb hy
     go_wp2
     go_ret
     exact⟨by rw[HR.out];rfl,hfin⟩)
   ·have e3:(s==3)=U:=beq_eq_false_iff_ne.2 (by omega)
    have e4:(s==4)=U:=beq_eq_false_iff_ne.2 (by omega)
    have e6:(s==6)=U:=beq_eq_false_iff_ne.2 (by omega)
    have HB2:=D (HBj.out (by unfold Fe;simp;omega))
    clear HHj HBj HB hs
    go_wp2_with fail
    refine HSj.out.mono ?_
    rintro e y ⟨rfl,hy⟩
    have hfin:=hb.trans (hy.mono hb.size)
    clear HSj hS2 hb hy
    go_wp2
    go_roundw
    case rel=>exact⟨j,by go_num,by omega,hfin,HB2⟩
    case measure=>simp[intOf]
end
