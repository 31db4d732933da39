import Derived.Test.YtieiifdhdjhnoaaGreatDoorQWdA
import Derived.Test.YtieiifdhdjhnoaaGreatDoorQInstB
import Derived.Test.YtieiifdhdjhnoaaGreatDoorQAsmB
import Derived.Test.YtieiifdhdjhnoaaGreatDoorQAsmC
import Derived.Test.YtieiifdhdjhnoaaGreatDoorQCoreU
import Derived.Test.YtieiifdhdjhnoaaGreatDoorQCoreV
import Derived.Test.YtieiifdhdjhnoaaGreatDoorQMem
import Derived.Test.YtieiifdhdjhnoaaGreatDoorQRunM
import Derived.Test.YtieiifdhdjhnoaaGreatDoorQPool
import Derived.Test.YtieiifdhdjhnoaaGreatDoorQArR
import Derived.Test.YtieiifdhdjhnoaaGreatDoorQInstP
import Derived.ProofKit
import Derived.OpenShut
import Derived.Deep.Fields
import Derived.Lib.SmallJoins
import Derived.Deep.Slices
import Derived.ChangeSame
import Derived.ChangeArms
import Derived.DataReads
import Derived.ArgAppend
import Derived.Laws.CopyOwn
import Derived.Deep.DeepCutAuto
import Derived.Deep.CutBlock
import Derived.RegionTactic
import Derived.Deep.RegionLawGrows
import Derived.Deep.RegionHeld3
import Derived.Deep.Onto
import Derived.Laws.Cover3
set_option linter.unusedVariables false
set_option maxHeartbeats 4000000
set_option maxRecDepth 100000
open Go.Value renaming int->I,slice->V
open Go.IntKind renaming i64->Q
open Option renaming none->O,some->Z
open Go.Lib renaming hid->P
namespace Go.Proofs.YtieiifdhdjhnoaaGreatDoor
section
open Go.ChangeShapes Go.WideShapes Go.ChangeAt Go.RowKit Go.Shelf
theorem CJ (t:List UInt8):rO (t++[58])=cE t:=by
 unfold rO
 simp
theorem EF {s:List UInt8}(h:∀ t,s≠t++[58]):rO s=false:=by
 rw[Bool.eq_false_iff]
 intro e
 unfold rO at e
 simp only[Bool.and_eq_true,decide_eq_true_eq,Bool.not_eq_true',List.isEmpty_eq_false_iff] at e
 obtain⟨h1,h2,_⟩:=e
 refine h s.dropLast ?_
 have:=List.dropLast_concat_getLast h1
 have h3:(s.dropLast++[s.getLast h1]).getLastD 0=58:=by rw[this];exact h2
 simp at h3
 rw[h3] at this
 exact this.symm
def iE (s:List UInt8)(n:Int)(ls:List (List UInt8×Int))(rs:List Rw):Int×List (List UInt8×Int)×List Rw:=
 if rO s=true then (if fK ls s.dropLast=true then (2,ls,rs) else (0,ls++[(s.dropLast,(rs.length:Int))],rs))
 else match ee s with
  | none=>(8,ls,rs)
  | some (i,nm)=>if 64<=rs.length then (9,ls,rs) else (0,ls,rs++[(i,nm,n)])
section
variable {w:World}{p m lo:Nat}{ls:List (List UInt8×Int)}{rs:List Rw}
theorem Dq (h:Dr w p m lo ls rs)(s:List UInt8)(hs:∀ t,s≠t++[10])(hl:s.length<100000)(n:Int):
 Calls Tryz.prog 61 #[.pointer (Z ⟨p,0,O⟩),I Q n,bs s] w fun e w'=>e=.returned (I Q 8)/\w=w':=by
 have HC:=P (fun W=>Fg s [10] (by omega) W)
 rw[(rA hs).1,(rA hs).2] at HC
 unfold bs
 go_enter Tryz.func61,Tryz.ntmps61
 go_wp2_with fail
 refine(HC.out _).mono ?_
 rintro e w' ⟨rfl,rfl⟩
 unfold bs
 go_wp2
 go_ret
 exact⟨rfl,rfl⟩
def rk (w:World)(p m lo:Nat)(q:Int×List (List UInt8×Int)×List Rw)(e:Ending)(w':World):Prop:=e=.returned (I Q q.1)/\Dr w' p m lo q.2.1 q.2.2/\ag w w' (zM p m lo)
theorem Gb (h:Dr w p m lo ls rs)(hlo:lo<=w.heap.size)(L:Lb w)(s:List UInt8)(hl:s.length<90000)(n:Int)(hls:ls.length<1000000)(hrs:rs.length<=64):
 Calls Tryz.prog 61 #[.pointer (Z ⟨p,0,O⟩),I Q n,bs (s++[10])] w (rk w p m lo (iE s n ls rs)):=by
 have HC:=P (fun W=>Fg (s++[10]) [10] (by simp;omega) W)
 rw[(mO s 10).1,(mO s 10).2] at HC
 have HK:=P (fun W=>Fg s [58] (by omega) W)
 have HI:=P (fun W LW=>Dn s (by omega) W LW)
 have HB:Hid (∀ W,Below w.heap.size w W->Dr W p m lo ls rs/\ag w W (zM p m lo)):=P fun W hW=>⟨h.within (af hW) (by simp) (by simp) (by simp),(af hW).wide (by simp)⟩
 have HLB:=P (fun W (hW:Below w.heap.size w W)=>L.below hW)
 rcases Ei s 58 with ⟨nm,hnm⟩ | hno
 case' inl=>
  have e1:=(mO nm 58).1
  have e2:=(mO nm 58).2
  rw[<-hnm] at e1 e2
  rw[e1,e2] at HK
  have HN:=P (fun W=>wK nm W)
  have hlb:rO s=cE nm:=by rw[hnm];exact CJ nm
  have oD:s.dropLast=nm:=by rw[hnm];simp
  have HD:=P oD
  have hnl:nm.length<=1000000:=by rw[hnm] at hl;simp at hl;omega
  clear e1 e2 oD
  clear hnm
  unfold bs
  go_enter Tryz.func61,Tryz.ntmps61
  go_wp2_with fail
  refine(HC.out _).mono ?_
  rintro e w' ⟨rfl,rfl⟩
  unfold bs
  go_wp2_with fail
  refine(HK.out _).mono ?_
  rintro e w' ⟨rfl,rfl⟩
  unfold bs
  go_wp2_with fail
  refine(HN.out _).mono ?_
  rintro e x ⟨rfl,bb⟩
  rcases hq:cE nm
  case' true=>
   rw[hq] at hlb
   have HLBL:=P hlb
   clear HI HC HK HN hq hlb
   obtain⟨hD,hW⟩:=HB.out x bb
   rcases hk:fK ls nm
   ·have HA:=P (yV hD nm hnl hls hrs hk)
    go_wp2_with fail
    refine HA.out.mono ?_
    rintro e y ⟨rfl,hD2,hW2⟩
    go_wp2
    go_ret
    have:iE s n ls rs=(0,ls++[(nm,(rs.length:Int))],rs):=by
     unfold iE
     rw[if_pos HLBL.out,HD.out,if_neg (by rw[hk];simp)]
    unfold rk
    rw[this]
    exact⟨rfl,hD2,hW.aJ hW2 fun i hi=>.inl hi⟩
   ·have HA:=P (sE hD nm hnl hk)
    go_wp2_with fail
    refine HA.out.mono ?_
    rintro e y ⟨rfl,rfl⟩
    go_wp2
    go_ret
    have:iE s n ls rs=(2,ls,rs):=by
     unfold iE
     rw[if_pos HLBL.out,HD.out,if_pos hk]
    unfold rk
    rw[this]
    exact⟨rfl,hD,hW⟩
  case' false=>
   rw[hq] at hlb
   have HLBL:=P hlb
   clear HC HK HN hq hlb HD
   go_wp2_with fail
 case' inr=>
  rw[(rA hno).1,(rA hno).2] at HK
  have HLBL:=P (EF hno)
  clear hno
  unfold bs
  go_enter Tryz.func61,Tryz.ntmps61
  go_wp2_with fail
  refine(HC.out _).mono ?_
  rintro e w' ⟨rfl,rfl⟩
  unfold bs
  go_wp2_with fail
  refine(HK.out _).mono ?_
  rintro e w' ⟨rfl,rfl⟩
  unfold bs
  have bb:=Below.refl w.heap.size w
  clear HC HK
  go_wp2_with fail
 all_goals (
  refine(HI.out _ (HLB.out _ bb)).mono ?_
  rintro e y ⟨rfl,hby⟩
  replace bb:=bb.trans (hby.mono bb.size)
  clear hby HI
  rcases hq:ee s with _ | ⟨⟨op,d,s',t,u,a,k,pl⟩,nm2⟩
  ·have e:gT s=.tuple #[.agg #[I Q 0,I Q 0,I Q 0,I Q 0,I Q 0,I Q 0,I .u32 0,I Q 0],.string ⟨#[]⟩,.bool false]:=by unfold gT;rw[hq];rfl
   have ea:iE s n ls rs=(8,ls,rs):=by unfold iE;rw[if_neg (by rw[HLBL.out];simp),hq]
   have EA:=P ea
   rw[e]
   clear e hq HLBL ea
   go_wp2
   go_ret
   unfold rk
   rw[EA.out]
   exact⟨rfl,HB.out _ (bb.alloc bb.size _)⟩
  ·have e:gT s=.tuple #[.agg #[I Q op,I Q d,I Q s',I Q t,I Q u,I Q a,I .u32 k,I Q pl],.string ⟨nm2.toArray⟩,.bool true]:=by unfold gT;rw[hq];rfl
   have ea:iE s n ls rs=if 64<=rs.length then (9,ls,rs) else (0,ls,rs++[(⟨op,d,s',t,u,a,k,pl⟩,nm2,n)]):=by unfold iE;rw[if_neg (by rw[HLBL.out];simp),hq]
   have EA:=P ea
   rw[e]
   clear e hq HLBL ea
   go_upto_region 8 with fail
   have m2:=Ib.made y op d s' t u a k pl
   replace bb:=bb.alloc (o:=.cells #[I Q op,I Q d,I Q s',I Q t,I Q u,I Q a,I .u32 k,I Q pl] 117) bb.size
   generalize y.heap.size=g at *
   generalize y.alloc (.cells #[I Q op,I Q d,I Q s',I Q t,I Q u,I Q a,I .u32 k,I Q pl] 117)=x3 at *
   obtain⟨c0,c1,c2,c3,c4,c5,c6,c7⟩:=m2.cells
   simp only at c0 c1 c2 c3 c4 c5 c6 c7
   obtain⟨hD,hW⟩:=HB.out x3 bb
   go_wp2_with fail
   by_cases h64:rs.length<64
   ·refine(Dp hD h64 (Nat.le_trans hlo bb.size) (⟨op,d,s',t,u,a,k,pl⟩,nm2,n)).mono ?_
    rintro e z ⟨rfl,hD2,hW2⟩
    go_wp2
    go_ret
    unfold rk
    rw[EA.out,if_neg (by omega)]
    exact⟨rfl,hD2,hW.aJ hW2 fun i hi=>.inl hi⟩
   ·refine(yU hD (by omega) (⟨op,d,s',t,u,a,k,pl⟩,nm2,n)).mono ?_
    rintro e z ⟨rfl,hz⟩
    go_wp2
    go_ret
    unfold rk
    rw[EA.out,if_pos (by omega)]
    exact⟨rfl,HB.out _ (bb.trans (hz.mono bb.size))⟩)
end
end
section
open Go.Joins Go.ChangeShapes Go.WideShapes Go.ChangeAt Go.RowKit Go.Deep
theorem own:ownKnob Tryz.prog.godebug=O:=by kernel_rfl
theorem iJ:laidOutB Tryz.prog=true:=by kernel_rfl
theorem kN {W:World}{m:Value}{ms:List Int}{g:Nat}{ty:TypeId}{cs:Array Value}(hl:ef .i64 3 W m ms)(hk:Bk W g ty cs)(ht:ty≠3)(a b c d e f h i j:Value):ef .i64 3 (gu W g a b c d e f h i j) m ms:=by
 have hW:ag W (gu W g a b c d e f h i j) (fun x=>x=g):=by
  unfold gu
  exact(((((((((ag.refl W (fun b=>b=g)).put _ 0 _ (.inl rfl)).put _ 1 _ (.inl rfl)).put _ 2 _ (.inl rfl)).put _ 3 _ (.inl rfl)).put _ 4 _ (.inl rfl)).put _ 5 _ (.inl rfl)).put _ 6 _ (.inl rfl)).put _ 7 _ (.inl rfl)).put _ 8 _ (.inl rfl)
 refine hl.within hW fun x ex e2=>?_
 obtain⟨D2,hcs⟩:=hl.bk ex
 exact Bk.av hcs hk (fun e=>ht e.symm) e2
def mA (v0:Value)(ms:List Int)(D E:Int)(v:Value)(W:World):Prop:=∃ m,v=.tuple #[v0,m,I Q D,I Q E]/\ef .i64 3 W m ms
theorem mA.below {v0:Value}{ms:List Int}{D E:Int}{v:Value}{W W':World}(h:mA v0 ms D E v W)(hb:Below W.heap.size W W'):mA v0 ms D E v W':=by
 obtain⟨m,e,h⟩:=h
 exact⟨m,e,ju h hb⟩
end
section
open Go.ChangeShapes Go.WideShapes Go.ChangeAt Go.RowKit
structure RM where
 fv:Value
 gv:Value
 ov:Value
 vs:Nat->Value
def RM.Has (R:RM)(n i:Nat):Prop:=R.fv.ownBlock=Z i\/R.gv.ownBlock=Z i\/R.ov.ownBlock=Z i\/∃ t,t<n/\(R.vs t).ownBlock=Z i
def qh (l:List Nat):List Int:=l.map fun(q:Nat)=>((q:Nat):Int)+1
structure Rf (w:World)(x n each:Nat)(R:RM)(free:Nat->List Nat)(gen out:List Int):Prop where
 ptr:Bk w x 158 #[I Q each,R.fv,R.gv,R.ov]
 row:rp 25 w R.fv ((List.range n).map R.vs)
 gens:ef .i64 3 w R.gv gen
 outs:ef .i64 3 w R.ov out
 frees:∀ t,t<n->Fs w (R.vs t) (qh (free t))
 go:∀ g,R.gv.ownBlock=Z g->R.ov.ownBlock≠Z g
 vg:∀ t g,t<n->(R.vs t).ownBlock=Z g->R.gv.ownBlock≠Z g
 vo:∀ t g,t<n->(R.vs t).ownBlock=Z g->R.ov.ownBlock≠Z g
 vv:∀ s t g,s<n->t<n->s≠t->(R.vs s).ownBlock=Z g->(R.vs t).ownBlock≠Z g
section
variable {w w':World}{x n each:Nat}{R:RM}{free:Nat->List Nat}{gen out:List Int}
theorem Rf.lt (h:Rf w x n each R free gen out){i:Nat}(k:R.Has n i):i<w.heap.size:=by
 rcases k with e | e | e | ⟨t,ht,e⟩
 ·exact h.row.lt e
 ·exact h.gens.lt e
 ·exact h.outs.lt e
 ·exact(h.frees t ht).lt e
theorem Rf.kept {S:Nat->Prop}(h:Rf w x n each R free gen out)(k:ag w w' S)(h1:¬ S x)(h2:∀ i,R.Has n i->¬ S i):Rf w' x n each R free gen out:=
 ⟨h.ptr.within k h1,h.row.within k (fun g e=>h2 g (.inl e)),h.gens.within k (fun g e=>h2 g (.inr (.inl e))),h.outs.within k (fun g e=>h2 g (.inr (.inr (.inl e)))),
  fun t ht=>(h.frees t ht).within k (fun g e=>h2 g (.inr (.inr (.inr ⟨t,ht,e⟩)))),h.go,h.vg,h.vo,h.vv⟩
theorem Rf.grown (h:Rf w x n each R free gen out)(k:w.grownBy w' O):Rf w' x n each R free gen out:=h.kept (S:=fun _=>False) (.aT k (by simp)) (by simp) (by simp)
theorem Rf.drewN (h:Rf w x n each R free gen out)(m:Nat):Rf (w.drewN m) x n each R free gen out:=h.kept (S:=fun _=>False) ((ag.refl _ _).kr m) (by simp) (by simp)
theorem Rf.c0 (h:Rf w x n each R free gen out):w.cell? ⟨x,0,O⟩=Z (I Q each):=by rw[h.ptr.cell];rfl
theorem Rf.c1 (h:Rf w x n each R free gen out):w.cell? ⟨x,1,O⟩=Z R.fv:=by rw[h.ptr.cell];rfl
theorem Rf.c2 (h:Rf w x n each R free gen out):w.cell? ⟨x,2,O⟩=Z R.gv:=by rw[h.ptr.cell];rfl
theorem Rf.c3 (h:Rf w x n each R free gen out):w.cell? ⟨x,3,O⟩=Z R.ov:=by rw[h.ptr.cell];rfl
end
def putL:List Value->Nat->List Value->List Value
 | xs,_,[]=>xs
 | xs,o,v :: vs=>putL (xs.set o v) (o+1) vs
def rF (y:World)(g:Nat):Nat->List Value->World
 | _,[]=>y
 | o,v :: vs=>rF (y.setCell ⟨g,o,O⟩ v) g (o+1) vs
theorem v8:∀ (vs xs:List Value) (o i:Nat),o+vs.length<=xs.length->(putL xs o vs)[i]?=if o<=i/\i<o+vs.length then vs[i-o]? else xs[i]?
 | [],xs,o,i,_=>by rw[putL,if_neg (by simp)]
 | v :: vs,xs,o,i,h=>by
  simp only[List.length_cons] at h
  rw[putL,v8 vs _ _ _ (by rw[List.length_set];omega),List.length_cons]
  by_cases e:i=o
  ·subst e
   rw[if_neg (by omega),if_pos (by omega),List.getElem?_set_self (by omega),Nat.sub_self]
   rfl
  ·rw[List.getElem?_set_ne (fun e'=>e e'.symm)]
   by_cases hi:o<=i/\i<o+(vs.length+1)
   ·rw[if_pos (by omega),if_pos hi,show i-o=(i-(o+1))+1 by omega]
    rfl
   ·rw[if_neg (by omega),if_neg hi]
theorem lH {g:Nat}:∀ (vs:List Value) (o:Nat) (y:World),zC y (rF y g o vs) g
 | [],o,y=>gj y _
 | v :: vs,o,y=>cF (ig y g o v) (lH vs (o+1) _) (.inl rfl)
theorem tE {α:Type}(f:α->List Value)(n:Nat):∀ (l:List α),(∀ x∈l,(f x).length=n)->(l.flatMap f).length=l.length*n
 | [],_=>by simp
 | x :: l,h=>by
  rw[List.flatMap_cons,List.length_append,h x (by simp),tE f n l (fun y hy=>h y (by simp[hy])),List.length_cons,Nat.add_mul]
  omega
theorem tF {α:Type}(f:α->List Value)(n:Nat):∀ (l:List α),(∀ x∈l,(f x).length=n)->∀ (k j:Nat) (x:α),l[k]?=Z x->j<n->(l.flatMap f)[k*n+j]?=(f x)[j]?
 | [],_,k,j,x,h,_=>by simp at h
 | y :: l,hf,0,j,x,h,hj=>by
  simp at h
  subst h
  simp[List.getElem?_append,hf,hj]
 | y :: l,hf,k+1,j,x,h,hj=>by
  have ih:=tF f n l (fun z hz=>hf z (by simp[hz])) k j x (by simpa using h) hj
  rw[<-ih,List.flatMap_cons,show (k+1)*n+j=n+(k*n+j) by rw[Nat.add_mul];omega,List.getElem?_append_right (by rw[hf y (by simp)];omega),hf y (by simp)]
  congr 1
  omega
section
variable {w w':World}{x n each N:Nat}{R:RM}{free:Nat->List Nat}{gen out:List Int}
def fU (w:World)(n:Nat)(R:RM)(w':World)(R':RM):Prop:=ag w w' (R.Has n)/\∀ i,R'.Has n i->R.Has n i\/w.heap.size<=i
theorem fU.refl (w:World)(n:Nat)(R:RM):fU w n R w R:=⟨ag.refl _ _,fun _ h=>.inl h⟩
theorem fU.kr {R':RM}(h:fU w n R w' R')(m:Nat):fU w n R (w'.drewN m) R':=⟨h.1.kr m,h.2⟩
theorem fU.aJ {w'':World}{R' R'':RM}(h:fU w n R w' R')(k:fU w' n R' w'' R''):fU w n R w'' R'':=
 ⟨h.1.aJ k.1 h.2,fun i hi=>by
  rcases k.2 i hi with e | e
  ·exact h.2 i e
  ·exact .inr (Nat.le_trans h.1.size e)⟩
theorem fU.put {g i:Nat}{u:Value}(h:R.Has n g):fU w n R (w.setCell ⟨g,i,O⟩ u) R:=⟨(ag.refl w _).put g _ _ (.inl h),fun _ h=>.inl h⟩
end
section
variable {w w':World}{x n each N:Nat}{R:RM}{free:Nat->List Nat}{gen out:List Int}
theorem mZ {W W3:World}{o:Obj}{r:Option Nat}{b:Nat}{t:TypeId}{cs:Array Value}(h:(W.drew.alloc o).grownBy W3 r)(hb:Bk W b t cs)(hne:Z b≠r):Bk W3 b t cs:=Bk.grown (Bk.alloc (w:=W.drew) hb o) h hne
end
def eH (y:World)(g:Nat)(a b c d e f:Value):World:=((((((y.setCell ⟨g,0,O⟩ a).setCell ⟨g,1,O⟩ b).setCell ⟨g,2,O⟩ c).setCell ⟨g,3,O⟩ d).setCell ⟨g,4,O⟩ e).setCell ⟨g,5,O⟩ f)
theorem ep {y:World}{g:Nat}{t:TypeId}{x0 x1 x2 x3 x4 x5:Value}(h:Bk y g t #[x0,x1,x2,x3,x4,x5])(a b c d e f:Value):Bk (eH y g a b c d e f) g t #[a,b,c,d,e,f]:=by
 have h8:=(((((h.put 0 a).put 1 b).put 2 c).put 3 d).put 4 e).put 5 f
 unfold eH
 simpa only[List.setIfInBounds_toArray,List.set_cons_zero,List.set_cons_succ] using h8
theorem bK {y:World}{g:Nat}(a b c d e f:Value):ag y (eH y g a b c d e f) (fun i=>i=g):=
 ((((((ag.refl y (fun i=>i=g)).put g 0 a (.inl rfl)).put g 1 b (.inl rfl)).put g 2 c (.inl rfl)).put g 3 d (.inl rfl)).put g 4 e (.inl rfl)).put g 5 f (.inl rfl)
theorem iw {W W':World}{m:Value}{ms:List Int}{S:Nat->Prop}(hl:ef .i64 3 W m ms)(hW:ag W W' S)(hS:∀ b,S b->∃ t cs,Bk W b t cs/\t≠3):ef .i64 3 W' m ms:=
 hl.within hW fun g e hg=>by
  obtain⟨cs,hcs⟩:=hl.bk e
  obtain⟨t,cs',h1,h2⟩:=hS g hg
  exact Bk.av hcs h1 (fun e=>h2 e.symm) rfl
structure GB (c:gp)(zs init r7:List Int)(each threads:Int):Prop where
 rz:fT zs
 few:jP zs<=8192
 len:init.length=jP zs
 n1:1<=threads
 n64:threads<=64
 e0:0<=each
 e8:each<=8
 rl:(r7.length:Int)=threads
 code:nC c=true
theorem sB {w w1:World}{zs:List Int}{e:Ending}(h:qf w zs e w1)(hz:fT zs)(hf:jP zs<=8192):w.grownBy w1 O/\∃ va vc,e=.returned (.tuple #[V va (jP zs) vc,.bool true]):=by
 obtain⟨hg,⟨_,v,rfl,hc⟩ | ⟨hn,rfl⟩⟩:=h
 ·refine⟨hg,?_⟩
  obtain⟨va,vc,rfl,_⟩:=hc.is
  refine⟨va,vc,?_⟩
  rw[jh,show decide ((jP zs:Int)<=8192)=true by simp;omega]
 ·exact absurd hz hn
theorem qP {base:Nat}{w:World}{v:Value}{c:gp}{zs init r7:List Int}{each t:Int}(hv:Rv base w v c zs init r7 each)(hw:∀ i∈c.l,i.Wf)(hk:GB c zs init r7 each t):
 Calls Tryz.prog 15 #[v,I Q t] w fun e w'=>e=.returned (.bool true)/\Below w.heap.size w w':=by
 obtain⟨sl,aS,cS,aI,cI,aR,cR,rfl,ho,hgS,hgI,hgR,hm1,hm2,hm3⟩:=hv
 obtain⟨aL,cL,rfl,_⟩:=aX ho
 have q0:=Bk.made w 36 #[V aL c.l.length cL,I Q c.lo,I Q c.un,V aS zs.length cS,V aI init.length cI,I Q each,V aR r7.length cR]
 have b0:Below w.heap.size w (w.alloc (.cells #[V aL c.l.length cL,I Q c.lo,I Q c.un,V aS zs.length cS,V aI init.length cI,I Q each,V aR r7.length cR] 36)):=(Below.refl _ _).alloc (Nat.le_refl _) _
 have HKK:=P hk
 go_enter Tryz.func15,Tryz.ntmps15
 go_upto_region 1 with fail
 have hpv:=fun W (hW:Below w.heap.size w W)=>rC (dw ho hW)
 have HPV:=P hpv
 clear hpv ho hk
 generalize w.alloc (.cells #[V aL c.l.length cL,I Q c.lo,I Q c.un,V aS zs.length cS,V aI init.length cI,I Q each,V aR r7.length cR] 36)=y at *
 have hC:=Bh (hgS.below b0) hm1 cS
 have y1:y.cell? ⟨w.heap.size,3,O⟩=Z (V aS zs.length cS):=q0.cell 3
 go_wp2_with fail
 refine hC.mono ?_
 intro e z hcp
 have hrz:=HKK.out.rz
 have hfew:=HKK.out.few
 have hlen:=HKK.out.len
 have h2:=HKK.out.n1
 have h3:=HKK.out.n64
 have h4:=HKK.out.e0
 have h5:=HKK.out.e8
 have h6:=HKK.out.rl
 have hpb:=HKK.out.code
 obtain⟨hgr,va,vc,rfl⟩:=sB hcp hrz hfew
 have hz:=aQ hgr
 have q1:=(hz.block _ q0.lt).trans q0
 have b1:=b0.trans (hz.mono b0.size)
 clear hC hcp hgr hz q0 b0 y1
 have HB:=P b1
 unfold maxLen at hm1 hm2 hm3
 obtain⟨f0,f1,f2,f3,f4,f5,f6⟩:z.cell? ⟨w.heap.size,0,O⟩=Z (V aL c.l.length cL)/\z.cell? ⟨w.heap.size,1,O⟩=Z (I Q c.lo)/\z.cell? ⟨w.heap.size,2,O⟩=Z (I Q c.un)/\z.cell? ⟨w.heap.size,3,O⟩=Z (V aS zs.length cS)/\z.cell? ⟨w.heap.size,4,O⟩=Z (V aI init.length cI)/\z.cell? ⟨w.heap.size,5,O⟩=Z (I Q each)/\z.cell? ⟨w.heap.size,6,O⟩=Z (V aR r7.length cR):=⟨Bk.cell q1 0,Bk.cell q1 1,Bk.cell q1 2,Bk.cell q1 3,Bk.cell q1 4,Bk.cell q1 5,Bk.cell q1 6⟩
 clear q1 b1 hrz
 have i1:((jP zs:Int)==(init.length:Int))=true:=by simp;omega
 have i6:((r7.length:Int)==t)=true:=by simpa using h6
 have HH:=P (And.intro hlen h6)
 clear hlen h6
 have hRP:=Co c _ z (HPV.out z HB.out) hw
 rw[hpb] at hRP
 go_wp2_with fail
 refine hRP.mono ?_
 rintro e z2 ⟨rfl,hz2⟩
 have HB2:=P (HB.out.trans (hz2.mono HB.out.size))
 clear hz2 f0 f1 f2 f3 f4 f5 f6
 go_wp2
 go_ret
 exact⟨rfl,HB2.out⟩
end
