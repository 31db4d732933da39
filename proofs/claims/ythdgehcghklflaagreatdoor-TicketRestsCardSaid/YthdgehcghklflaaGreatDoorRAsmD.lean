import Derived.Test.YthdgehcghklflaaGreatDoorRPrgM
import Derived.Test.YthdgehcghklflaaGreatDoorRFlowK
import Derived.Test.YthdgehcghklflaaGreatDoorRAsmB
import Derived.Test.YthdgehcghklflaaGreatDoorRAsmC
import Derived.Test.YthdgehcghklflaaGreatDoorRCoreU
import Derived.Test.YthdgehcghklflaaGreatDoorRCoreV
import Derived.Test.YthdgehcghklflaaGreatDoorRMem
import Derived.Test.YthdgehcghklflaaGreatDoorRInstA
import Derived.Test.YthdgehcghklflaaGreatDoorRWdA
import Derived.Test.YthdgehcghklflaaGreatDoorRPool
import Derived.Test.YthdgehcghklflaaGreatDoorRRefP
import Derived.Test.YthdgehcghklflaaGreatDoorRTkD
import Derived.Test.YthdgehcghklflaaGreatDoorRInstP
import Derived.ProofKit
import Derived.OpenShut
import Derived.Deep.Fields
import Derived.Lib.SmallJoins
import Derived.Deep.Slices
import Derived.ChangeSame
import Derived.ChangeArms
import Derived.DataReads
import Derived.Laws.CopyOwn
import Derived.Deep.DeepCutAuto
import Derived.Deep.CutBlock
import Derived.Deep.RegionHeld3
import Derived.Deep.QuietTactic
import Derived.Deep.Onto
import Derived.Laws.Cover3
import Derived.BigQuiet
set_option linter.unusedVariables false
set_option maxHeartbeats 4000000
set_option maxRecDepth 100000
open Go.Value renaming int->I,slice->K,pointer->J
open Go.IntKind renaming i64->Q
open Option renaming none->O,some->Z
open Bool renaming false->V,true->T
open Go.Obj renaming cells->G
open Go.Lib renaming hid->F
open Go.RowKit.Below renaming refl->C
open Nat renaming le_refl->M
open Go renaming undef->X
namespace Go.Proofs.YthdgehcghklflaaGreatDoor
section
open Go.ChangeShapes Go.WideShapes Go.ChangeAt Go.RowKit Go.Shelf
theorem AY (t:List UInt8):qk (t++[58])=cf t:=by
 unfold qk
 simp
theorem CP {s:List UInt8}(h:∀ t,s≠t++[58]):qk s=V:=by
 rw[Bool.eq_false_iff]
 intro e
 unfold qk at e
 simp only[Bool.and_eq_true,decide_eq_true_eq,Bool.not_eq_true',List.isEmpty_eq_false_iff] at e
 obtain⟨h1,h2,_⟩:=e
 refine h s.dropLast ?_
 have:=List.dropLast_concat_getLast h1
 have h3:(s.dropLast++[s.getLast h1]).getLastD 0=58:=by rw[this];exact h2
 simp at h3
 rw[h3] at this
 exact this.symm
def gQ (s:List UInt8)(n:Int)(ls:List (List UInt8×Int))(rs:List Rw):Int×List (List UInt8×Int)×List Rw:=
 if qk s=T then (if fx ls s.dropLast=T then (2,ls,rs) else (0,ls++[(s.dropLast,(rs.length:Int))],rs))
 else match dP s with
  | none=>(8,ls,rs)
  | some (i,nm)=>if 64<=rs.length then (9,ls,rs) else (0,ls,rs++[(i,nm,n)])
section
variable {w:World}{p m lo:Nat}{ls:List (List UInt8×Int)}{rs:List Rw}
theorem BA (h:Dr w p m lo ls rs)(s:List UInt8)(hs:∀ t,s≠t++[10])(hl:s.length<100000)(n:Int):
 Calls Tryz.prog 60 #[J (Z ⟨p,0,O⟩),I Q n,bs s] w fun e w'=>e=.returned (I Q 8)/\w=w':=by
 have HC:=F (fun W=>Di s [10] (by omega) W)
 rw[(pT hs).1,(pT hs).2] at HC
 unfold bs
 go_enter Tryz.func60,Tryz.ntmps60
 go_wp2_with fail
 refine(HC.out _).mono ?_
 rintro e w' ⟨rfl,rfl⟩
 unfold bs
 go_wp2
 go_ret
 exact⟨rfl,rfl⟩
def pN (w:World)(p m lo:Nat)(q:Int×List (List UInt8×Int)×List Rw)(e:Ending)(w':World):Prop:=e=.returned (I Q q.1)/\Dr w' p m lo q.2.1 q.2.2/\ag w w' (xF p m lo)
theorem Eb (h:Dr w p m lo ls rs)(hlo:lo<=w.heap.size)(L:Lb w)(s:List UInt8)(hl:s.length<90000)(n:Int)(hls:ls.length<1000000)(hrs:rs.length<=64):
 Calls Tryz.prog 60 #[J (Z ⟨p,0,O⟩),I Q n,bs (s++[10])] w (pN w p m lo (gQ s n ls rs)):=by
 have HC:=F (fun W=>Di (s++[10]) [10] (by simp;omega) W)
 rw[(lC s 10).1,(lC s 10).2] at HC
 have HK:=F (fun W=>Di s [58] (by omega) W)
 have HI:=F (fun W LW=>Bx s (by omega) W LW)
 have HB:Hid (∀ W,Below w.heap.size w W->Dr W p m lo ls rs/\ag w W (xF p m lo)):=F fun W hW=>⟨h.within (af hW) (by simp) (by simp) (by simp),(af hW).wide (by simp)⟩
 have HLB:=F (fun W (hW:Below w.heap.size w W)=>L.below hW)
 rcases Cu s 58 with ⟨nm,hnm⟩ | hno
 case' inl=>
  have e1:=(lC nm 58).1
  have e2:=(lC nm 58).2
  rw[<-hnm] at e1 e2
  rw[e1,e2] at HK
  have HN:=F (fun W=>uR nm W)
  have hlb:qk s=cf nm:=by rw[hnm];exact AY nm
  have nd:s.dropLast=nm:=by rw[hnm];simp
  have HD:=F nd
  have hnl:nm.length<=1000000:=by rw[hnm] at hl;simp at hl;omega
  clear e1 e2 nd
  clear hnm
  unfold bs
  go_enter Tryz.func60,Tryz.ntmps60
  go_wp2_with fail
  refine(HC.out _).mono ?_
  rintro e w' ⟨rfl,rfl⟩
  unfold bs
  go_wp2_with fail
  refine(HK.out _).mono ?_
  rintro e w' ⟨rfl,rfl⟩
  unfold bs
  go_wp2_with fail
  refine(HN.out _).mono ?_
  rintro e x ⟨rfl,bb⟩
  rcases hq:cf nm
  case' true=>
   rw[hq] at hlb
   have HLBL:=F hlb
   clear HI HC HK HN hq hlb
   obtain⟨hD,hW⟩:=HB.out x bb
   rcases hk:fx ls nm
   ·have HA:=F (wR hD nm hnl hls hrs hk)
    go_wp2_with fail
    refine HA.out.mono ?_
    rintro e y ⟨rfl,hD2,hW2⟩
    go_wp2
    go_ret
    have:gQ s n ls rs=(0,ls++[(nm,(rs.length:Int))],rs):=by
     unfold gQ
     rw[if_pos HLBL.out,HD.out,if_neg (by rw[hk];simp)]
    unfold pN
    rw[this]
    exact⟨rfl,hD2,hW.aO hW2 fun i hi=>.inl hi⟩
   ·have HA:=F (qL hD nm hnl hk)
    go_wp2_with fail
    refine HA.out.mono ?_
    rintro e y ⟨rfl,rfl⟩
    go_wp2
    go_ret
    have:gQ s n ls rs=(2,ls,rs):=by
     unfold gQ
     rw[if_pos HLBL.out,HD.out,if_pos hk]
    unfold pN
    rw[this]
    exact⟨rfl,hD,hW⟩
  case' false=>
   rw[hq] at hlb
   have HLBL:=F hlb
   clear HC HK HN hq hlb HD
   go_wp2_with fail
 case' inr=>
  rw[(pT hno).1,(pT hno).2] at HK
  have HLBL:=F (CP hno)
  clear hno
  unfold bs
  go_enter Tryz.func60,Tryz.ntmps60
  go_wp2_with fail
  refine(HC.out _).mono ?_
  rintro e w' ⟨rfl,rfl⟩
  unfold bs
  go_wp2_with fail
  refine(HK.out _).mono ?_
  rintro e w' ⟨rfl,rfl⟩
  unfold bs
  have bb:=C w.heap.size w
  clear HC HK
  go_wp2_with fail
 all_goals (
  refine(HI.out _ (HLB.out _ bb)).mono ?_
  rintro e y ⟨rfl,hby⟩
  replace bb:=bb.trans (hby.mono bb.size)
  clear hby HI
  rcases hq:dP s with _ | ⟨⟨op,d,s',t,u,a,k,pl⟩,nm2⟩
  ·have e:gj s=.tuple #[.agg #[I Q 0,I Q 0,I Q 0,I Q 0,I Q 0,I Q 0,I .u32 0,I Q 0],.string ⟨#[]⟩,.bool V]:=by unfold gj;rw[hq];rfl
   have ea:gQ s n ls rs=(8,ls,rs):=by unfold gQ;rw[if_neg (by rw[HLBL.out];simp),hq]
   have EA:=F ea
   rw[e]
   clear e hq HLBL ea
   go_wp2
   go_ret
   unfold pN
   rw[EA.out]
   exact⟨rfl,HB.out _ (bb.alloc bb.size _)⟩
  ·have e:gj s=.tuple #[.agg #[I Q op,I Q d,I Q s',I Q t,I Q u,I Q a,I .u32 k,I Q pl],.string ⟨nm2.toArray⟩,.bool T]:=by unfold gj;rw[hq];rfl
   have ea:gQ s n ls rs=if 64<=rs.length then (9,ls,rs) else (0,ls,rs++[(⟨op,d,s',t,u,a,k,pl⟩,nm2,n)]):=by unfold gQ;rw[if_neg (by rw[HLBL.out];simp),hq]
   have EA:=F ea
   rw[e]
   clear e hq HLBL ea
   go_upto_region 8 with fail
   have m2:=Ib.made y op d s' t u a k pl
   replace bb:=bb.alloc (o:=G #[I Q op,I Q d,I Q s',I Q t,I Q u,I Q a,I .u32 k,I Q pl] 119) bb.size
   generalize y.heap.size=g at *
   generalize y.alloc (G #[I Q op,I Q d,I Q s',I Q t,I Q u,I Q a,I .u32 k,I Q pl] 119)=x3 at *
   obtain⟨c0,c1,c2,c3,c4,c5,c6,c7⟩:=m2.cells
   simp only at c0 c1 c2 c3 c4 c5 c6 c7
   obtain⟨hD,hW⟩:=HB.out x3 bb
   go_wp2_with fail
   by_cases h64:rs.length<64
   ·refine(Bz hD h64 (Nat.le_trans hlo bb.size) (⟨op,d,s',t,u,a,k,pl⟩,nm2,n)).mono ?_
    rintro e z ⟨rfl,hD2,hW2⟩
    go_wp2
    go_ret
    unfold pN
    rw[EA.out,if_neg (by omega)]
    exact⟨rfl,hD2,hW.aO hW2 fun i hi=>.inl hi⟩
   ·refine(wQ hD (by omega) (⟨op,d,s',t,u,a,k,pl⟩,nm2,n)).mono ?_
    rintro e z ⟨rfl,hz⟩
    go_wp2
    go_ret
    unfold pN
    rw[EA.out,if_pos (by omega)]
    exact⟨rfl,HB.out _ (bb.trans (hz.mono bb.size))⟩)
end
end
section
open Go.Joins Go.ChangeShapes Go.WideShapes Go.ChangeAt Go.RowKit Go.Deep
theorem own:ownKnob Tryz.prog.godebug=O:=by kernel_rfl
theorem AZ:laidOutB Tryz.prog=T:=by kernel_rfl
theorem jK {W:World}{m:Value}{ms:List Int}{g:Nat}{ty:TypeId}{cs:Array Value}(hl:dQ .i64 3 W m ms)(hk:Bk W g ty cs)(ht:ty≠3)(a b c d e f h i j:Value):dQ .i64 3 (fP W g a b c d e f h i j) m ms:=by
 have hW:ag W (fP W g a b c d e f h i j) (fun x=>x=g):=by
  unfold fP
  exact(((((((((ag.refl W (fun b=>b=g)).put _ 0 _ (.inl rfl)).put _ 1 _ (.inl rfl)).put _ 2 _ (.inl rfl)).put _ 3 _ (.inl rfl)).put _ 4 _ (.inl rfl)).put _ 5 _ (.inl rfl)).put _ 6 _ (.inl rfl)).put _ 7 _ (.inl rfl)).put _ 8 _ (.inl rfl)
 refine hl.within hW fun x ex e2=>?_
 obtain⟨B7,hcs⟩:=hl.bk ex
 exact Bk.av hcs hk (fun e=>ht e.symm) e2
def lj (v0:Value)(ms:List Int)(D E:Int)(v:Value)(W:World):Prop:=∃ m,v=.tuple #[v0,m,I Q D,I Q E]/\dQ .i64 3 W m ms
theorem lj.below {v0:Value}{ms:List Int}{D E:Int}{v:Value}{W W':World}(h:lj v0 ms D E v W)(hb:Below W.heap.size W W'):lj v0 ms D E v W':=by
 obtain⟨m,e,h⟩:=h
 exact⟨m,e,iG h hb⟩
end
section
open Go.ChangeShapes Go.WideShapes Go.ChangeAt Go.RowKit
def tR:List Value->Nat->List Value->List Value
 | xs,_,[]=>xs
 | xs,o,v :: vs=>tR (xs.set o v) (o+1) vs
def p5 (y:World)(g:Nat):Nat->List Value->World
 | _,[]=>y
 | o,v :: vs=>p5 (y.setCell ⟨g,o,O⟩ v) g (o+1) vs
theorem ut:∀ (vs xs:List Value) (o i:Nat),o+vs.length<=xs.length->(tR xs o vs)[i]?=if o<=i/\i<o+vs.length then vs[i-o]? else xs[i]?
 | [],xs,o,i,_=>by rw[tR,if_neg (by simp)]
 | v :: vs,xs,o,i,h=>by
  simp only[List.length_cons] at h
  rw[tR,ut vs _ _ _ (by rw[List.length_set];omega),List.length_cons]
  by_cases e:i=o
  ·subst e
   rw[if_neg (by omega),if_pos (by omega),List.getElem?_set_self (by omega),Nat.sub_self]
   rfl
  ·rw[List.getElem?_set_ne (fun e'=>e e'.symm)]
   by_cases hi:o<=i/\i<o+(vs.length+1)
   ·rw[if_pos (by omega),if_pos hi,show i-o=(i-(o+1))+1 by omega]
    rfl
   ·rw[if_neg (by omega),if_neg hi]
theorem kb {g:Nat}:∀ (vs:List Value) (o:Nat) (y:World),xv y (p5 y g o vs) g
 | [],o,y=>fN y _
 | v :: vs,o,y=>cr (gI y g o v) (kb vs (o+1) _) (.inl rfl)
theorem rF {α:Type}(f:α->List Value)(n:Nat):∀ (l:List α),(∀ x∈l,(f x).length=n)->(l.flatMap f).length=l.length*n
 | [],_=>by simp
 | x :: l,h=>by
  rw[List.flatMap_cons,List.length_append,h x (by simp),rF f n l (fun y hy=>h y (by simp[hy])),List.length_cons,Nat.add_mul]
  omega
theorem rG {α:Type}(f:α->List Value)(n:Nat):∀ (l:List α),(∀ x∈l,(f x).length=n)->∀ (k j:Nat) (x:α),l[k]?=Z x->j<n->(l.flatMap f)[k*n+j]?=(f x)[j]?
 | [],_,k,j,x,h,_=>by simp at h
 | y :: l,hf,0,j,x,h,hj=>by
  simp at h
  subst h
  simp[List.getElem?_append,hf,hj]
 | y :: l,hf,k+1,j,x,h,hj=>by
  have ih:=rG f n l (fun z hz=>hf z (by simp[hz])) k j x (by simpa using h) hj
  rw[<-ih,List.flatMap_cons,show (k+1)*n+j=n+(k*n+j) by rw[Nat.add_mul];omega,List.getElem?_append_right (by rw[hf y (by simp)];omega),hf y (by simp)]
  congr 1
  omega
def fq (cs:Nat->xx)(n:Nat):List Value:=(List.range n).flatMap fun t=>dz (cs t).xs (cs t).pc
theorem mQ {xs:List Int}{pc:Int}(h:xs.length=8):(dz xs pc).length=9:=by simp[dz,h]
section
variable {cs:Nat->xx}{n:Nat}
theorem mm (h:∀ t,t<n->cW (cs t).xs):(fq cs n).length=n*9:=by
 unfold fq
 rw[rF _ 9 _ (fun t ht=>mQ (h t (List.mem_range.1 ht)).1),List.length_range]
theorem kr (h:∀ t,t<n->cW (cs t).xs){t j:Nat}(ht:t<n)(hj:j<9):(fq cs n)[t*9+j]?=(dz (cs t).xs (cs t).pc)[j]?:=
 rG _ 9 _ (fun t ht=>mQ (h t (List.mem_range.1 ht)).1) t j t (by simp[ht]) hj
theorem tG (h:∀ t,t<n->cW (cs t).xs){t:Nat}(ht:t<n){c:xx}(hc:cW c.xs):tR (fq cs n) (t*9) (dz c.xs c.pc)=fq (cb cs t c) n:=by
 have h2:=lT (n:=n) h hc t
 apply List.ext_getElem?
 intro i
 have hl:=mm h
 have hl2:=mm h2
 have hcl:=mQ (pc:=c.pc) hc.1
 have hle:t*9+9<=n*9:=by omega
 rw[ut _ _ _ _ (by rw[hcl,hl];exact hle),hcl]
 by_cases hi:i<n*9
 ·obtain⟨s,j,hs,hj,rfl⟩:∃ s j,s<n/\j<9/\i=s*9+j:=⟨i / 9,i % 9,by omega,by omega,by omega⟩
  rw[kr h2 hs hj,kr h hs hj]
  by_cases e:s=t
  ·subst e
   rw[if_pos (by omega),bp,show s*9+j-s*9=j by omega]
  ·rw[if_neg (by omega),aJ e]
 ·rw[if_neg (by omega),List.getElem?_eq_none (by omega),List.getElem?_eq_none (by omega)]
theorem qH (cs:Nat->xx)(n:Nat):fq cs n++dz (cs n).xs (cs n).pc=fq cs (n+1):=by
 unfold fq
 rw[List.range_succ,List.flatMap_append]
 simp
end
theorem re {base n cap sz g:Nat}{t:TypeId}:∀ (vs xs:List Value) (o:Nat) (w:World),w.ownsRow base t sz (K (Z ⟨g,0,O⟩) n cap) n xs->(p5 w g o vs).ownsRow base t sz (K (Z ⟨g,0,O⟩) n cap) n (tR xs o vs)
 | [],xs,o,w,h=>h
 | v :: vs,xs,o,w,h=>re vs _ (o+1) _ (World.ownsRow.stored h o v).1
theorem mS {w:World}{base n sz:Nat}{t:TypeId}{v:Value}{xs:List Value}(h:w.ownsRow base t sz v n xs):w.ownsRow 0 t sz v n xs:=World.ownsRow.mono (base':=0) h (Nat.zero_le _)
structure YP where
 y:Nat
 cv:Value
 cl:Value
 wl:Value
 x:Nat
 kl:Value
 ac:Int
 R:RM
def YP.Own (Y:YP)(n i:Nat):Prop:=i=Y.y\/Y.cv.ownBlock=Z i\/Y.cl.ownBlock=Z i\/Y.wl.ownBlock=Z i\/i=Y.x\/Y.kl.ownBlock=Z i\/Y.R.Has n i
structure Ey (w:World)(Y:YP)(k:Lk)(m:Mc):Prop where
 ptr:Bk w Y.y 91 #[Y.cv,I Q k.lo,I Q k.un,Y.cl,Y.wl,J (Z ⟨Y.x,0,O⟩),Y.kl,I Q Y.ac]
 code:w.ownsRow 0 125 8 Y.cv k.l.length (bq k.l)
 cells:Cs 0 w Y.cl (nE k.zs)
 words:dQ .u32 22 w Y.wl m.ws
 fT:Rf w Y.x k.n k.each Y.R m.pn.free m.pn.gen m.pn.out
 same:∃ fr os c,qf k.n k.each m.pn.free m.pn.gen m.pn.out fr os c
 cores:w.ownsRow 0 112 9 Y.kl k.n (fq m.cs k.n)
 lk:ia k
 mc:EX k m
def bh (w:World)(n:Nat)(Y:YP)(w':World)(Y':YP):Prop:=ag w w' (Y.Own n)/\(∀ i,Y'.Own n i->Y.Own n i\/w.heap.size<=i)/\Y'.y=Y.y
section
variable {w w':World}{Y:YP}{k:Lk}{m:Mc}
theorem bh.refl (w:World)(n:Nat)(Y:YP):bh w n Y w Y:=⟨ag.refl _ _,fun _ h=>.inl h,rfl⟩
theorem bh.aO {n:Nat}{w'':World}{Y' Y'':YP}(h:bh w n Y w' Y')(k:bh w' n Y' w'' Y''):bh w n Y w'' Y'':=
 ⟨h.1.aO k.1 h.2.1,fun i hi=>by
  rcases k.2.1 i hi with e | e
  ·exact h.2.1 i e
  ·exact .inr (Nat.le_trans h.1.size e),k.2.2.trans h.2.2⟩
theorem bh.grown {n:Nat}{Y':YP}{w'':World}(h:bh w n Y w' Y')(k:Below w'.heap.size w' w''):bh w n Y w'' Y':=
 h.aO ⟨(af k).wide (by simp),fun _ h=>.inl h,rfl⟩
theorem bh.aP {n:Nat}(k:Below w.heap.size w w'):bh w n Y w' Y:=(bh.refl w n Y).grown k
theorem bh.zZ {v:World}{N:Nat}{Y':YP}{S:Nat->Prop}(h:bh v N Y w Y')(hw:ag w w' S)(hs:∀ i,S i->v.heap.size<=i):bh v N Y w' Y':=
 ⟨h.1.aO hw (fun i e=>.inr (hs i e)),h.2⟩
theorem Ey.kept {S:Nat->Prop}(h:Ey w Y k m)(hw:ag w w' S)(hn:∀ i,Y.Own k.n i->¬ S i):Ey w' Y k m:=by
 unfold YP.Own at hn
 exact⟨h.ptr.within hw (hn _ (.inl rfl)),ar h.code hw (fun g e=>hn g (.inr (.inl e))),h.cells.within hw (fun g e=>hn g (.inr (.inr (.inl e)))),h.words.within hw (fun g e=>hn g (.inr (.inr (.inr (.inl e))))),
  h.fT.kept hw (hn _ (.inr (.inr (.inr (.inr (.inl rfl)))))) (fun i hi=>hn i (.inr (.inr (.inr (.inr (.inr (.inr hi))))))),h.same,ar h.cores hw (fun g e=>hn g (.inr (.inr (.inr (.inr (.inr (.inl e))))))),h.lk,h.mc⟩
theorem Ey.below (h:Ey w Y k m)(hb:Below w.heap.size w w'):Ey w' Y k m:=h.kept (af hb) (by simp)
theorem Ey.lt (h:Ey w Y k m){i:Nat}(hi:Y.Own k.n i):i<w.heap.size:=by
 rcases hi with rfl | e | e | e | rfl | e | e
 ·exact h.ptr.lt
 ·exact(World.ownsRow.lt h.code i e).2
 ·exact(h.cells.lt e).2
 ·exact h.words.lt e
 ·exact h.fT.ptr.lt
 ·exact(World.ownsRow.lt h.cores i e).2
 ·exact h.fT.lt e
theorem Ey.c0 (h:Ey w Y k m):w.cell? ⟨Y.y,0,O⟩=Z Y.cv:=by rw[h.ptr.cell];rfl
theorem Ey.c1 (h:Ey w Y k m):w.cell? ⟨Y.y,1,O⟩=Z (I Q k.lo):=by rw[h.ptr.cell];rfl
theorem Ey.c2 (h:Ey w Y k m):w.cell? ⟨Y.y,2,O⟩=Z (I Q k.un):=by rw[h.ptr.cell];rfl
theorem Ey.c3 (h:Ey w Y k m):w.cell? ⟨Y.y,3,O⟩=Z Y.cl:=by rw[h.ptr.cell];rfl
theorem Ey.c4 (h:Ey w Y k m):w.cell? ⟨Y.y,4,O⟩=Z Y.wl:=by rw[h.ptr.cell];rfl
theorem Ey.c5 (h:Ey w Y k m):w.cell? ⟨Y.y,5,O⟩=Z (J (Z ⟨Y.x,0,O⟩)):=by rw[h.ptr.cell];rfl
theorem Ey.c6 (h:Ey w Y k m):w.cell? ⟨Y.y,6,O⟩=Z Y.kl:=by rw[h.ptr.cell];rfl
theorem Ey.c7 (h:Ey w Y k m):w.cell? ⟨Y.y,7,O⟩=Z (I Q Y.ac):=by rw[h.ptr.cell];rfl
theorem Ey.pv (h:Ey w Y k m):Pv w (.agg #[Y.cv,I Q k.lo,I Q k.un]) ⟨k.l,k.lo,k.un⟩/\∃ a cap,Y.cv=K a k.l.length cap:=by
 obtain⟨a,cap,e,h1,h2,_⟩:=aY h.code
 exact⟨tV (c:=⟨k.l,k.lo,k.un⟩) h.code,a,cap,e⟩
theorem Ey.p8 (h:Ey w Y k m):∃ g cap,Y.kl=K (Z ⟨g,0,O⟩) k.n cap/\k.n<=cap/\cap<=maxLen/\Y.kl.ownBlock=Z g/\(∀ i,w.frozen? ⟨g,i,O⟩=V)/\∀ t,t<k.n->∀ j,j<9->w.cell? ⟨g,t*9+j,O⟩=(dz (m.cs t).xs (m.cs t).pc)[j]?:=by
 obtain⟨a,cap,e,h1,h2,h3⟩:=aY h.cores
 obtain⟨g,rfl,e2,_,_,hf,hc⟩:=h3 h.lk.n1
 refine⟨g,cap,e,h1,h2,e2,hf,fun t ht j hj=>?_⟩
 rw[hc _ (by omega),kr h.mc.cs ht hj]
theorem Ey.eD (h:Ey w Y k m){t:Nat}(ht:t<k.n):∃ r0 r1 r2 r3 r4 r5 r6 r7 pc,m.cs t=⟨[r0,r1,r2,r3,r4,r5,r6,r7],pc⟩:=by
 obtain⟨r0,r1,r2,r3,r4,r5,r6,r7,e⟩:=cN (h.mc.cs t ht).1
 exact⟨r0,r1,r2,r3,r4,r5,r6,r7,(m.cs t).pc,by rw[<-e]⟩
theorem Ey.core (h:Ey w Y k m){t:Nat}(ht:t<k.n){r0 r1 r2 r3 r4 r5 r6 r7 pc:Int}(e:m.cs t=⟨[r0,r1,r2,r3,r4,r5,r6,r7],pc⟩){g cap:Nat}(ek:Y.kl=K (Z ⟨g,0,O⟩) k.n cap):
 w.cell? ⟨g,t*9,O⟩=Z (I Q r0)/\w.cell? ⟨g,t*9+1,O⟩=Z (I Q r1)/\w.cell? ⟨g,t*9+2,O⟩=Z (I Q r2)/\w.cell? ⟨g,t*9+3,O⟩=Z (I Q r3)/\w.cell? ⟨g,t*9+4,O⟩=Z (I Q r4)/\w.cell? ⟨g,t*9+5,O⟩=Z (I Q r5)/\w.cell? ⟨g,t*9+6,O⟩=Z (I Q r6)/\w.cell? ⟨g,t*9+7,O⟩=Z (I Q r7)/\w.cell? ⟨g,t*9+8,O⟩=Z (I Q pc):=by
 obtain⟨g',cap',ek',_,_,_,_,hc⟩:=h.p8
 rw[ek] at ek'
 simp only[Value.slice.injEq,Option.some.injEq,Addr.mk.injEq,and_true,true_and] at ek'
 obtain⟨rfl,-⟩:=ek'
 have H:=fun j (hj:j<9)=>hc t ht j hj
 rw[e] at H
 exact⟨H 0 (by omega),H 1 (by omega),H 2 (by omega),H 3 (by omega),H 4 (by omega),H 5 (by omega),H 6 (by omega),H 7 (by omega),H 8 (by omega)⟩
theorem Ey.xA (h:Ey w Y k m):∃ a cap,Y.wl=K a m.ws.length cap/\m.ws.length<=cap/\cap<=maxLen/\(0<m.ws.length->∃ g,a=Z ⟨g,0,O⟩/\Y.wl.ownBlock=Z g/\(∀ i,w.frozen? ⟨g,i,O⟩=V)/\∀ i,i<m.ws.length->w.cell? ⟨g,i,O⟩=Z (I .u32 (aG m.ws i))):=h.words.is
theorem Ey.others {g:Nat}{t:TypeId}{cs:Array Value}(h:Ey w Y k m)(hW:ag w w' (fun i=>i=g))(hb:Bk w g t cs):
 (t≠91->Bk w' Y.y 91 #[Y.cv,I Q k.lo,I Q k.un,Y.cl,Y.wl,J (Z ⟨Y.x,0,O⟩),Y.kl,I Q Y.ac])/\
 (t≠125->w'.ownsRow 0 125 8 Y.cv k.l.length (bq k.l))/\
 (t≠153->Cs 0 w' Y.cl (nE k.zs))/\
 (t≠22->dQ .u32 22 w' Y.wl m.ws)/\
 (t≠160->t≠26->t≠3->Rf w' Y.x k.n k.each Y.R m.pn.free m.pn.gen m.pn.out)/\
 (t≠112->w'.ownsRow 0 112 9 Y.kl k.n (fq m.cs k.n)):=by
 refine⟨fun ht=>h.ptr.within hW (Bk.av h.ptr hb (fun e=>ht e.symm)),fun ht=>ar h.code hW (fun g' e e2=>?_),fun ht=>h.cells.within hW (fun g' e e2=>?_),fun ht=>h.words.within hW (fun g' e e2=>?_),
  fun t1 t2 t3=>h.fT.kept hW (Bk.av h.fT.ptr hb (fun e=>t1 e.symm)) (fun i hi e2=>Rf.fH h.fT hb t2 t3 (e2 ▸ hi)),fun ht=>ar h.cores hW (fun g' e e2=>?_)⟩
 ·obtain⟨cs',hcs⟩:=aT h.code e
  exact Bk.av hcs hb (fun e=>ht e.symm) e2
 ·obtain⟨cs',hcs⟩:=aT h.cells e
  exact Bk.av hcs hb (fun e=>ht e.symm) e2
 ·obtain⟨cs',hcs⟩:=h.words.bk e
  exact Bk.av hcs hb (fun e=>ht e.symm) e2
 ·obtain⟨cs',hcs⟩:=aT h.cores e
  exact Bk.av hcs hb (fun e=>ht e.symm) e2
theorem Ey.put (h:Ey w Y k m){t:Nat}(ht:t<k.n){c:xx}(hc:cW c.xs){g cap:Nat}(e:Y.kl=K (Z ⟨g,0,O⟩) k.n cap):Ey (p5 w g (t*9) (dz c.xs c.pc)) Y k { m with cs:=cb m.cs t c }/\bh w k.n Y (p5 w g (t*9) (dz c.xs c.pc)) Y:=by
 have hW:ag w (p5 w g (t*9) (dz c.xs c.pc)) (fun i=>i=g):=.aP (kb _ _ _) (by rintro i e;injection e with e;exact .inl e.symm)
 have hg:Y.kl.ownBlock=Z g:=by rw[e];rfl
 have hk:=h.cores
 obtain⟨cs0,hb⟩:=aT hk hg
 rw[e] at hk
 have hp:=re (dz c.xs c.pc) _ (t*9) w hk
 rw[tG h.mc.cs ht hc,<-e] at hp
 obtain⟨o1,o2,o3,o4,o5,o6⟩:=h.others hW hb
 exact⟨⟨o1 (by decide),o2 (by decide),o3 (by decide),o4 (by decide),o5 (by decide) (by decide) (by decide),h.same,hp,h.lk,⟨h.mc.ws,h.mc.len,lT h.mc.cs hc t⟩⟩,hW.wide (fun i e _=>by subst e;exact .inr (.inr (.inr (.inr (.inr (.inl hg)))))),fun _ h=>.inl h,rfl⟩
theorem Ey.word (h:Ey w Y k m){g cap:Nat}(e:Y.wl=K (Z ⟨g,0,O⟩) m.ws.length cap)(a:Nat){v:Int}(hv:0<=v/\v<4294967296):Ey (w.setCell ⟨g,a,O⟩ (I .u32 v)) Y k { m with ws:=m.ws.set a v }/\bh w k.n Y (w.setCell ⟨g,a,O⟩ (I .u32 v)) Y:=by
 have hW:ag w (w.setCell ⟨g,a,O⟩ (I .u32 v)) (fun i=>i=g):=(ag.refl _ _).put _ _ _ (.inl rfl)
 have hg:Y.wl.ownBlock=Z g:=by rw[e];rfl
 have hk:=h.words
 obtain⟨cs0,hb⟩:=hk.bk hg
 rw[e] at hk
 have hp:=hk.put a v
 rw[<-e] at hp
 obtain⟨o1,o2,o3,o4,o5,o6⟩:=h.others hW hb
 exact⟨⟨o1 (by decide),o2 (by decide),o3 (by decide),hp,o5 (by decide) (by decide) (by decide),h.same,o6 (by decide),h.lk,⟨h.mc.ws.set _ _ hv,by rw[List.length_set];exact h.mc.len,h.mc.cs⟩⟩,hW.wide (fun i e _=>by subst e;exact .inr (.inr (.inr (.inl hg)))),fun _ h=>.inl h,rfl⟩
theorem Ey.more (h:Ey w Y k m)(v:Int):Ey (w.setCell ⟨Y.y,7,O⟩ (I Q v)) { Y with ac:=v } k m/\bh w k.n Y (w.setCell ⟨Y.y,7,O⟩ (I Q v)) { Y with ac:=v }:=by
 have hW:ag w (w.setCell ⟨Y.y,7,O⟩ (I Q v)) (fun i=>i=Y.y):=(ag.refl _ _).put _ _ _ (.inl rfl)
 obtain⟨o1,o2,o3,o4,o5,o6⟩:=h.others hW h.ptr
 exact⟨⟨h.ptr.put 7 (I Q v),o2 (by decide),o3 (by decide),o4 (by decide),o5 (by decide) (by decide) (by decide),h.same,o6 (by decide),h.lk,h.mc⟩,hW.wide (fun i e _=>by subst e;exact .inl rfl),fun _ h=>.inl h,rfl⟩
theorem Ey.nodes (h:Ey w Y k m){R':RM}{pn':Pn}(hp:Rf w' Y.x k.n k.each R' pn'.free pn'.gen pn'.out)(hs:∃ fr os c,qf k.n k.each pn'.free pn'.gen pn'.out fr os c)(hst:fF w k.n Y.R w' R'):Ey w' { Y with R:=R' } k { m with pn:=pn' }/\bh w k.n Y w' { Y with R:=R' }:=by
 have hW:=hst.1
 have nh:∀ {q:Nat} {t:TypeId} {cs:Array Value},Bk w q t cs->t≠26->t≠3->¬ Y.R.Has k.n q:=fun hb h1 h2=>h.fT.fH hb h1 h2
 refine⟨⟨h.ptr.within hW (nh h.ptr (by decide) (by decide)),ar h.code hW (fun g' e=>?_),h.cells.within hW (fun g' e=>?_),h.words.within hW (fun g' e=>?_),hp,hs,ar h.cores hW (fun g' e=>?_),h.lk,⟨h.mc.ws,h.mc.len,h.mc.cs⟩⟩,hW.wide (fun i e _=>.inr (.inr (.inr (.inr (.inr (.inr e)))))),fun i hi=>?_,rfl⟩
 ·obtain⟨cs',hcs⟩:=aT h.code e
  exact nh hcs (by decide) (by decide)
 ·obtain⟨cs',hcs⟩:=aT h.cells e
  exact nh hcs (by decide) (by decide)
 ·obtain⟨cs',hcs⟩:=h.words.bk e
  exact nh hcs (by decide) (by decide)
 ·obtain⟨cs',hcs⟩:=aT h.cores e
  exact nh hcs (by decide) (by decide)
 ·rcases hi with e | e | e | e | e | e | e
  ·exact .inl (.inl e)
  ·exact .inl (.inr (.inl e))
  ·exact .inl (.inr (.inr (.inl e)))
  ·exact .inl (.inr (.inr (.inr (.inl e))))
  ·exact .inl (.inr (.inr (.inr (.inr (.inl e)))))
  ·exact .inl (.inr (.inr (.inr (.inr (.inr (.inl e))))))
  ·rcases hst.2 i e with e | e
   ·exact .inl (.inr (.inr (.inr (.inr (.inr (.inr e))))))
   ·exact .inr e
theorem r9 (h:Ey w Y k m)(area x:Int)(h0:0<=x)(h1:x<4294967296):
 Calls Tryz.prog 53 #[Y.cl,I Q area,I .u32 x] w fun e w'=>(match im k.zs area x with
  | none=>e=.returned (I Q (-1))
  | some a=>e=.returned (I Q a))/\w.grownBy w' O:=by
 unfold im
 by_cases hc:0<=area/\area<k.zs.length/\x % 4096<sz k.zs area.toNat
 ·rw[if_pos hc]
  obtain⟨A,rfl⟩:=Int.eq_ofNat_of_zero_le hc.1
  have h2:=hc.2.2
  rw[Int.toNat_natCast] at h2 ⊢
  obtain⟨P,hP⟩:=Int.eq_ofNat_of_zero_le (show 0<=x % 4096 by omega)
  have:=DY h.cells h.lk.zs A P x h0 h1 (by omega) (by omega) hP
  rw[hP,Int.toNat_natCast]
  exact this
 ·rw[if_neg hc]
  exact AN h.cells h.lk.zs area x h0 h1 (by omega)
end
def aH (b:Bool):Int:=if b then 1 else 0
def qj (v:Value)(o:Ot):Value:=.agg #[v,I Q o.done,I Q o.addr,I Q (aH o.wrote),I Q (aH o.stay),I Q o.e]
def eK (w:World)(Y:YP)(k:Lk)(r:Mc×Ot)(e:Ending)(w':World):Prop:=
 ∃ v Y',e=.returned (qj v r.2)/\dQ .i64 3 w' v r.2.ms/\Ey w' Y' k r.1/\bh w k.n Y w' Y'
def eH (y:World)(g:Nat)(a b c d e f:Value):World:=((((((y.setCell ⟨g,0,O⟩ a).setCell ⟨g,1,O⟩ b).setCell ⟨g,2,O⟩ c).setCell ⟨g,3,O⟩ d).setCell ⟨g,4,O⟩ e).setCell ⟨g,5,O⟩ f)
theorem eB {y:World}{g:Nat}{t:TypeId}{x0 x1 x2 x3 x4 x5:Value}(h:Bk y g t #[x0,x1,x2,x3,x4,x5])(a b c d e f:Value):Bk (eH y g a b c d e f) g t #[a,b,c,d,e,f]:=by
 have h8:=(((((h.put 0 a).put 1 b).put 2 c).put 3 d).put 4 e).put 5 f
 unfold eH
 simpa only[List.setIfInBounds_toArray,List.set_cons_zero,List.set_cons_succ] using h8
theorem bN {y:World}{g:Nat}(a b c d e f:Value):ag y (eH y g a b c d e f) (fun i=>i=g):=
 ((((((ag.refl y (fun i=>i=g)).put g 0 a (.inl rfl)).put g 1 b (.inl rfl)).put g 2 c (.inl rfl)).put g 3 d (.inl rfl)).put g 4 e (.inl rfl)).put g 5 f (.inl rfl)
def mr (a:Nat->Int)(n:Nat):List Int:=(List.range n).map a
theorem m9 (a:Nat->Int)(n:Nat):(mr a n).length=n:=by simp[mr]
theorem BE (a:Nat->Int){n t:Nat}(h:t<n):aG (mr a n) t=a t:=by
 rw[pX (by rw[m9];exact h)]
 simp[mr]
theorem zm (a:Nat->Int){n t:Nat}(h:t<n)(v:Int):(mr a n).set t v=mr (cb a t v) n:=by
 apply List.ext_getElem
 ·simp[mr]
 ·intro i h1 h2
  simp only[List.length_set,m9] at h1
  rw[List.getElem_set]
  by_cases e:t=i
  ·subst e;simp[mr,cb]
  ·rw[if_neg e]
   have e2:¬ i=t:=fun h=>e h.symm
   simp[mr,cb,e2]
structure RP where
 g:Nat
 Y:YP
 d:Nat
 lv:Value
def RP.Own (U:RP)(n i:Nat):Prop:=i=U.g\/i=U.d\/U.lv.ownBlock=Z i\/U.Y.Own n i
def Dk (b:Bool):Int:=if b then 1 else 0
structure Ru (w:World)(U:RP)(k:Lk)(r:Rn):Prop where
 ptr:Bk w U.g 86 #[J (Z ⟨U.Y.y,0,O⟩),K (Z ⟨U.d,0,O⟩) k.n k.n,U.lv,I Q (Dk r.bad)]
 acts:pQ w U.d k.n (mr r.act k.n)
 jl:zW 0 94 w U.lv r.l
 ey:Ey w U.Y k r.m
 dy:¬ U.Y.Own k.n U.d
def bd (w:World)(n:Nat)(U:RP)(w':World)(U':RP):Prop:=ag w w' (U.Own n)/\(∀ i,U'.Own n i->U.Own n i\/w.heap.size<=i)/\U'.g=U.g/\U'.d=U.d
section
variable {w w':World}{U:RP}{k:Lk}{r:Rn}
theorem bd.refl (w:World)(n:Nat)(U:RP):bd w n U w U:=⟨ag.refl _ _,fun _ h=>.inl h,rfl,rfl⟩
theorem bd.aO {n:Nat}{w'':World}{U' U'':RP}(h:bd w n U w' U')(k:bd w' n U' w'' U''):bd w n U w'' U'':=
 ⟨h.1.aO k.1 h.2.1,fun i hi=>by
  rcases k.2.1 i hi with e | e
  ·exact h.2.1 i e
  ·exact .inr (Nat.le_trans h.1.size e),k.2.2.1.trans h.2.2.1,k.2.2.2.trans h.2.2.2⟩
theorem bd.grown {n:Nat}{U':RP}{w'':World}(h:bd w n U w' U')(k:Below w'.heap.size w' w''):bd w n U w'' U':=
 h.aO ⟨(af k).wide (by simp),fun _ h=>.inl h,rfl,rfl⟩
theorem Ey.gU {Y:YP}{m:Mc}{g:Nat}{t:TypeId}{cs:Array Value}(h:Ey w Y k m)(hb:Bk w g t cs)
 (t1:t≠91) (t2:t≠125) (t3:t≠153) (t4:t≠22) (t5:t≠160) (t6:t≠26) (t7:t≠3) (t8:t≠112):¬ Y.Own k.n g:=by
 rintro(e | e | e | e | e | e | e)
 ·exact Bk.av h.ptr hb (fun e=>t1 e.symm) e.symm
 ·obtain⟨cs',hcs⟩:=aT h.code e
  exact Bk.av hcs hb (fun e=>t2 e.symm) rfl
 ·obtain⟨cs',hcs⟩:=aT h.cells e
  exact Bk.av hcs hb (fun e=>t3 e.symm) rfl
 ·obtain⟨cs',hcs⟩:=h.words.bk e
  exact Bk.av hcs hb (fun e=>t4 e.symm) rfl
 ·exact Bk.av h.fT.ptr hb (fun e=>t5 e.symm) e.symm
 ·obtain⟨cs',hcs⟩:=aT h.cores e
  exact Bk.av hcs hb (fun e=>t8 e.symm) rfl
 ·exact Rf.fH h.fT hb t6 t7 e
theorem Ru.gY (h:Ru w U k r):¬ U.Y.Own k.n U.g:=h.ey.gU h.ptr (by decide) (by decide) (by decide) (by decide) (by decide) (by decide) (by decide) (by decide)
theorem Ru.gd (h:Ru w U k r):U.g≠U.d:=by
 obtain⟨cs,hb,_⟩:=h.acts.bk
 exact Bk.av h.ptr hb (by decide)
theorem Ru.lY (h:Ru w U k r){b:Nat}(e:U.lv.ownBlock=Z b):¬ U.Y.Own k.n b:=by
 obtain⟨cs,hb⟩:=aT h.jl e
 exact h.ey.gU hb (by decide) (by decide) (by decide) (by decide) (by decide) (by decide) (by decide) (by decide)
theorem Ru.lg (h:Ru w U k r):U.lv.ownBlock≠Z U.g:=fun e=>by
 obtain⟨cs,hb⟩:=aT h.jl e
 exact Bk.av h.ptr hb (by decide) rfl
theorem Ru.ld (h:Ru w U k r):U.lv.ownBlock≠Z U.d:=fun e=>by
 obtain⟨cs,hb⟩:=aT h.jl e
 obtain⟨B7,hb2,_⟩:=h.acts.bk
 exact Bk.av hb2 hb (by decide) rfl
theorem Ru.lt (h:Ru w U k r){i:Nat}(hi:U.Own k.n i):i<w.heap.size:=by
 rcases hi with rfl|rfl | e | e
 ·exact h.ptr.lt
 ·exact h.acts.lt
 ·exact(World.ownsRow.lt h.jl i e).2
 ·exact h.ey.lt e
theorem Ru.kept {S:Nat->Prop}(h:Ru w U k r)(hw:ag w w' S)(hn:∀ i,U.Own k.n i->¬ S i):Ru w' U k r:=
 ⟨h.ptr.within hw (hn _ (.inl rfl)),h.acts.within hw (hn _ (.inr (.inl rfl))),h.jl.within hw (fun g e=>hn g (.inr (.inr (.inl e)))),h.ey.kept hw (fun i hi=>hn i (.inr (.inr (.inr hi)))),h.dy⟩
theorem Ru.below (h:Ru w U k r)(hb:Below w.heap.size w w'):Ru w' U k r:=h.kept (af hb) (by simp)
theorem Ru.c0 (h:Ru w U k r):w.cell? ⟨U.g,0,O⟩=Z (J (Z ⟨U.Y.y,0,O⟩)):=h.ptr.cell 0
theorem Ru.c1 (h:Ru w U k r):w.cell? ⟨U.g,1,O⟩=Z (K (Z ⟨U.d,0,O⟩) k.n k.n):=h.ptr.cell 1
theorem Ru.c2 (h:Ru w U k r):w.cell? ⟨U.g,2,O⟩=Z U.lv:=h.ptr.cell 2
theorem Ru.c3 (h:Ru w U k r):w.cell? ⟨U.g,3,O⟩=Z (I Q (Dk r.bad)):=h.ptr.cell 3
theorem Ru.act (h:Ru w U k r){t:Nat}(ht:t<k.n):w.cell? ⟨U.d,t,O⟩=Z (I Q (r.act t)):=by
 have:=h.acts.at_ (i:=t) (by rw[m9];exact ht)
 rwa [BE r.act ht] at this
theorem Ru.tS (h:Ru w U k r):Ru (w.setCell ⟨U.g,3,O⟩ (I Q 1)) U k { r with bad:=T }/\bd w k.n U (w.setCell ⟨U.g,3,O⟩ (I Q 1)) U:=by
 have hw:ag w (w.setCell ⟨U.g,3,O⟩ (I Q 1)) (fun b=>b=U.g):=(ag.refl w (fun b=>b=U.g)).put U.g 3 _ (.inl rfl)
 refine⟨⟨?_,h.acts.within hw (fun e=>h.gd e.symm),h.jl.within hw (fun g e e2=>h.lg (by rw[e,e2])),h.ey.kept hw (fun i hi e=>h.gY (e ▸ hi)),h.dy⟩,hw.wide (fun i e _=>.inl e),fun _ h=>.inl h,rfl,rfl⟩
 have:=h.ptr.put 3 (I Q 1)
 simp only[List.setIfInBounds_toArray,List.set_cons_zero,List.set_cons_succ] at this
 exact this
theorem Ru.kR (h:Ru w U k r){t:Nat}(ht:t<k.n)(v:Int):Ru (w.setCell ⟨U.d,t,O⟩ (I Q v)) U k { r with act:=cb r.act t v }/\bd w k.n U (w.setCell ⟨U.d,t,O⟩ (I Q v)) U:=by
 have hw:ag w (w.setCell ⟨U.d,t,O⟩ (I Q v)) (fun b=>b=U.d):=(ag.refl w (fun b=>b=U.d)).put U.d t _ (.inl rfl)
 refine⟨⟨h.ptr.within hw h.gd,?_,h.jl.within hw (fun g e e2=>h.ld (by rw[e,e2])),h.ey.kept hw (fun i hi e=>h.dy (e ▸ hi)),h.dy⟩,hw.wide (fun i e _=>.inr (.inl e)),fun _ h=>.inl h,rfl,rfl⟩
 have:=h.acts.put t v
 rw[zm r.act ht] at this
 exact this
theorem Ru.tR {w2:World}{lv':Value}{l':List En}(h:Ru w U k r)(hg:ag w w2 (fun b=>U.lv.ownBlock=Z b))(hl:zW 0 94 w2 lv' l')(ho:∀ g,lv'.ownBlock=Z g->U.lv.ownBlock=Z g\/w.heap.size<=g):
 Ru (w2.setCell ⟨U.g,2,O⟩ lv') { U with lv:=lv' } k { r with l:=l' }/\bd w k.n U (w2.setCell ⟨U.g,2,O⟩ lv') { U with lv:=lv' }:=by
 have hw:ag w2 (w2.setCell ⟨U.g,2,O⟩ lv') (fun b=>b=U.g):=(ag.refl w2 (fun b=>b=U.g)).put U.g 2 _ (.inl rfl)
 have hlg:lv'.ownBlock≠Z U.g:=fun e=>by
  rcases ho _ e with e2 | e2
  ·exact h.lg e2
  ·have:=h.ptr.lt;omega
 refine⟨⟨?_,(h.acts.within hg h.ld).within hw (fun e=>h.gd e.symm),hl.within hw (fun g e e2=>hlg (by rw[e,e2])),(h.ey.kept hg (fun i hi e=>h.lY e hi)).kept hw (fun i hi e=>h.gY (e ▸ hi)),h.dy⟩,?_,?_,rfl,rfl⟩
 ·have:=(h.ptr.within hg h.lg).put 2 lv'
  simpa only[List.setIfInBounds_toArray,List.set_cons_zero,List.set_cons_succ] using this
 ·exact(hg.wide (S':=U.Own k.n) (fun i e _=>.inr (.inr (.inl e)))).aO hw (fun i e=>.inl (.inl e))
 ·rintro i (e | e | e | e)
  ·exact .inl (.inl e)
  ·exact .inl (.inr (.inl e))
  ·rcases ho i e with e2 | e2
   ·exact .inl (.inr (.inr (.inl e2)))
   ·exact .inr e2
  ·exact .inl (.inr (.inr (.inr e)))
theorem Ru.xj {Y':YP}{m':Mc}(h:Ru w U k r)(hy:Ey w' Y' k m')(hs:bh w k.n U.Y w' Y'):Ru w' { U with Y:=Y' } k { r with m:=m' }/\bd w k.n U w' { U with Y:=Y' }:=by
 have hw:=hs.1
 refine⟨⟨?_,h.acts.within hw h.dy,h.jl.within hw (fun g e=>h.lY e),hy,fun e=>?_⟩,hw.wide (fun i e _=>.inr (.inr (.inr e))),?_,rfl,rfl⟩
 ·have:=h.ptr.within hw h.gY
  show Bk w' U.g _ #[J (Z ⟨Y'.y,0,O⟩),_,_,_]
  rw[hs.2.2];exact this
 ·rcases hs.2.1 _ e with e2 | e2
  ·exact h.dy e2
  ·have:=h.acts.lt
   have e3:w.heap.size<=U.d:=e2
   omega
 ·rintro i (e | e | e | e)
  ·exact .inl (.inl e)
  ·exact .inl (.inr (.inl e))
  ·exact .inl (.inr (.inr (.inl e)))
  ·rcases hs.2.1 i e with e2 | e2
   ·exact .inl (.inr (.inr (.inr e2)))
   ·exact .inr e2
end
def tM (w:World)(U:RP)(k:Lk)(r:Rn)(w':World):Prop:=∃ U',Ru w' U' k r/\bd w k.n U w' U'
theorem gN {W W':World}{m:Value}{ms:List Int}{S:Nat->Prop}(hl:dQ .i64 3 W m ms)(hW:ag W W' S)(hS:∀ b,S b->∃ t cs,Bk W b t cs/\t≠3):dQ .i64 3 W' m ms:=
 hl.within hW fun g e hg=>by
  obtain⟨cs,hcs⟩:=hl.bk e
  obtain⟨t,cs',h1,h2⟩:=hS g hg
  exact Bk.av hcs h1 (fun e=>h2 e.symm) rfl
section
variable {k:Lk}{m:Mc}{t:Nat}{late:Bool}{i:aK}
theorem gA (hm:kO k (m.cs t).pc=Z i)(h:i.op≠22)(h':i.op≠23):br k m t late=match im k.zs i.a (aG (m.cs t).xs i.s.toNat) with
 | none=>(m,iW)
 | some a=>r8 k m t (m.cs t) late i a:=by
 unfold br
 simp only[hm,if_neg h,if_neg h']
 rfl
end
theorem ah (z:World)(n:Nat):Below z.heap.size z (z.drewN n):=⟨rfl,rfl,rfl,M _,fun _ _=>rfl⟩
structure Dm (w:World)(U:RP)(k:Lk)(r:Rn)(w':World)(U':RP):Prop where
 ru:Ru w' U' k r
 st:bd w k.n U w' U'
 few:ag w w' (fun i=>i=U.g\/U.lv.ownBlock=Z i)
section
variable {w:World}{U:RP}{k:Lk}{r:Rn}
theorem wa:(Tryz.prog.info? 94).map (fun i=>(i.zero,i.size,i.bytes))=Z (Z (.agg #[I Q 0,I Q 0,I Q 0]),3,24):=by kernel_rfl
theorem ji (h:Ru w U k r)(kd:Int)(t:Nat)(hl:r.l.length<1000000000):
 Calls Tryz.prog 67 #[J (Z ⟨U.g,0,O⟩),I Q kd,I Q t] w fun e w'=>e=.returned (.tuple #[])/\∃ U',Dm w U k { r with l:=r.l++[⟨kd,t,0⟩] } w' U':=by
 have c2:=h.c2
 have HO:=F (World.ownsRow.alloc h.jl (G #[I Q kd,I Q (t:Int),I Q 0] 94))
 have HN:=F (fg (Nb.made 94 w kd (t:Int) 0))
 have HL:=F hl
 have HE:Hid (∀ w' v',w'.ownsRow 0 94 3 v' (r.l.length+1) (qb r.l++Ds ⟨kd,(t:Int),0⟩)->(w.alloc (G #[I Q kd,I Q (t:Int),I Q 0] 94)).grownBy w' U.lv.ownBlock->(v'.ownBlock=U.lv.ownBlock\/v'.ownBlock=Z (w.alloc (G #[I Q kd,I Q (t:Int),I Q 0] 94)).heap.size)->
  (w'.cell? ⟨U.g,2,O⟩=Z U.lv/\w'.frozen? ⟨U.g,2,O⟩=V)/\∃ U',Dm w U k { r with l:=r.l++[⟨kd,(t:Int),0⟩] } (w'.setCell ⟨U.g,2,O⟩ v') U'):=F (fun w' v' ho hg hloc=>by
  have hw:ag w w' (fun b=>U.lv.ownBlock=Z b):=((ag.refl w (fun b=>U.lv.ownBlock=Z b)).alloc _).aO (ag.aP (S:=fun b=>U.lv.ownBlock=Z b) hg (fun i e=>.inl e)) (fun i hi=>.inl hi)
  have hp:=h.ptr.within hw h.lg
  have hput:=h.tR (lv':=v') (l':=r.l++[⟨kd,(t:Int),0⟩]) hw ?_ ?_
  refine⟨⟨hp.cell 2,hp.free 2⟩,_,hput.1,hput.2,?_⟩
  ·exact(hw.wide (S':=fun i=>i=U.g\/U.lv.ownBlock=Z i) (fun i e _=>.inr e)).aO ((ag.refl w' (fun b=>b=U.g)).put U.g 2 v' (.inl rfl)) (fun i e=>.inl (.inl e))
  ·unfold zW
   rw[wb,List.length_append]
   exact ho
  ·intro g e
   rcases hloc with e2 | e2
   ·exact .inl (by rw[<-e2];exact e)
   ·rw[e2] at e
    injection e with e
    right
    rw[World.size_alloc] at e
    omega)
 clear h hl
 generalize U.lv=lv at *
 go_enter Tryz.func67,Tryz.ntmps67
 go_wp2_with (at_builtin;refine Cc rfl _ _ 84 rfl _ 24 Tryz.underlying84 wa rfl (by omega) (by omega) HO.out rfl (Ds ⟨kd,(t:Int),0⟩) rfl (Bu _) w.heap.size rfl HN.out HL.out (Nat.zero_le _) ?_;intro v' w' hown hgr hloc;obtain⟨⟨c2',f2'⟩,hR⟩:=HE.out w' v' hown hgr hloc;obtain⟨a2,cap2,rfl,_,_,_⟩:=aY hown)
 go_end0
 exact⟨rfl,hR⟩
end
section
variable {w w':World}{Y:YP}{k:Lk}{m:Mc}
theorem BK (h:Ey w Y k m)(t:Nat)(ht:t<k.n)(c:xx)(hc:cW c.xs)(o:Ot)(v0:Value)(hv0:v0=K O 0 0):
 Calls Tryz.prog 47 #[J (Z ⟨Y.y,0,O⟩),I Q t,rv c.xs c.pc,qj v0 o] w (eK w Y k (g8 k m t c o)):=by
 subst hv0
 have hnn:=h.lk.n64
 have hl:=h.lk.parts.2.1
 have HR0:=fun(v:Value) W hW=>EO ⟨k.l,k.lo,k.un⟩ v c.xs c.pc t W hW hl h.lk.ok hc (by omega) (by omega)
 have hE:=lX h.lk.ok (self:=(t:Int)) (by omega) (by omega) 256 c.xs c.pc [] hc
 obtain⟨cxs,pc⟩:=c
 simp only at hc HR0 hE ⊢
 obtain⟨r0,r1,r2,r3,r4,r5,r6,r7,rfl⟩:=cN hc.1
 obtain⟨RR,hRR⟩:∃ R,R=g9 (t:Int) k.l 256 [r0,r1,r2,r3,r4,r5,r6,r7] pc []:=⟨_,rfl⟩
 rw[<-hRR] at hE
 obtain⟨oms,od,oa,ow,os,oe⟩:=o
 have HR:Hid (g8 k m t ⟨[r0,r1,r2,r3,r4,r5,r6,r7],pc⟩ ⟨oms,od,oa,ow,os,oe⟩=({ m with cs:=cb m.cs t ⟨RR.xs,RR.pc⟩ },⟨RR.ms,RR.done,oa,ow,os,RR.e⟩)):=F (by unfold g8;simp only[hRR])
 have HX:=F h
 obtain⟨sxs,PC,ms,D,E⟩:=RR
 simp only at hE HR
 obtain⟨s0,s1,s2,s3,s4,s5,s6,s7,rfl⟩:=cN hE.1
 have HE8:=F hE
 have HB:Hid (∀ W,Ey W Y k m->Calls Tryz.prog 78 #[.agg #[I Q r0,I Q r1,I Q r2,I Q r3,I Q r4,I Q r5,I Q r6,I Q r7,I Q pc],.agg #[Y.cv,I Q k.lo,I Q k.un],I Q t] W fun e w'=>∃ m5,e=.returned (.tuple #[.agg #[I Q s0,I Q s1,I Q s2,I Q s3,I Q s4,I Q s5,I Q s6,I Q s7,I Q PC],m5,I Q D,I Q E])/\dQ .i64 3 w' m5 ms/\Below W.heap.size W w'):=F fun W hW=>by
  have h1:=HR0 _ W hW.pv.1
  rw[<-hRR] at h1
  exact h1.mono fun e w' ⟨m5,q1,q2,q3⟩=>⟨m5,q1,q2,q3⟩
 clear HR0 hE hRR hc
 rw[HR.out]
 clear HR
 unfold qj rv
 simp only[dz,List.map_cons,List.map_nil,List.cons_append,List.nil_append]
 have HOT:Hid (∀ v:Value,qj v ⟨ms,D,oa,ow,os,E⟩=.agg #[v,I Q D,I Q oa,I Q (aH ow),I Q (aH os),I Q E]):=F fun v=>rfl
 have q0:=((Rb.made w [r0,r1,r2,r3,r4,r5,r6,r7] pc).alloc (G #[K O 0 0,I Q od,I Q oa,I Q (aH ow),I Q (aH os),I Q oe] 67)).alloc (G #[K O 0 0,I Q 0,I Q 0,I Q 0,I Q 0,I Q 0] 67)
 have q1:=(Bk.made (w.alloc (G #[I Q r0,I Q r1,I Q r2,I Q r3,I Q r4,I Q r5,I Q r6,I Q r7,I Q pc] 112)) 67 #[K O 0 0,I Q od,I Q oa,I Q (aH ow),I Q (aH os),I Q oe]).alloc (G #[K O 0 0,I Q 0,I Q 0,I Q 0,I Q 0,I Q 0] 67)
 have q2:=Bk.made ((w.alloc (G #[I Q r0,I Q r1,I Q r2,I Q r3,I Q r4,I Q r5,I Q r6,I Q r7,I Q pc] 112)).alloc (G #[K O 0 0,I Q od,I Q oa,I Q (aH ow),I Q (aH os),I Q oe] 67)) 67 #[K O 0 0,I Q 0,I Q 0,I Q 0,I Q 0,I Q 0]
 simp only[World.size_alloc] at q1 q2
 simp only[dz,List.map_cons,List.map_nil,List.cons_append,List.nil_append] at q0
 have b0:Below w.heap.size w (((w.alloc (G #[I Q r0,I Q r1,I Q r2,I Q r3,I Q r4,I Q r5,I Q r6,I Q r7,I Q pc] 112)).alloc (G #[K O 0 0,I Q od,I Q oa,I Q (aH ow),I Q (aH os),I Q oe] 67)).alloc (G #[K O 0 0,I Q 0,I Q 0,I Q 0,I Q 0,I Q 0] 67)):=(((C _ _).alloc (M _) _).alloc (by simp) _).alloc (by simp;omega) _
 generalize aH ow=WR at *
 generalize aH os=ST at *
 go_enter Tryz.func47,Tryz.ntmps47
 go_upto_region 1 with fail
 generalize ((w.alloc (G #[I Q r0,I Q r1,I Q r2,I Q r3,I Q r4,I Q r5,I Q r6,I Q r7,I Q pc] 112)).alloc (G #[K O 0 0,I Q od,I Q oa,I Q WR,I Q ST,I Q oe] 67)).alloc (G #[K O 0 0,I Q 0,I Q 0,I Q 0,I Q 0,I Q 0] 67)=y at *
 replace q0:Rb y w.heap.size [r0,r1,r2,r3,r4,r5,r6,r7] pc:=q0
 have h2:=h.below b0
 obtain⟨aV,cV,eV⟩:=h.pv.2
 rw[eV] at HB
 have HV:=F eV
 clear h eV
 refine nr 12 13 112 #[I Q 0,I Q 0,I Q 0,I Q 0,I Q 0,I Q 0,I Q 0,I Q 0,I Q 0] (fun W b=>fP W b (I Q s0) (I Q s1) (I Q s2) (I Q s3) (I Q s4) (I Q s5) (I Q s6) (I Q s7) (I Q PC)) (fun W b=>Rb W b [s0,s1,s2,s3,s4,s5,s6,s7] PC) (fun vs=>{ tmps:=#[J (Z ⟨Y.y,0,O⟩),I Q (t:Int),.agg #[I Q r0,I Q r1,I Q r2,I Q r3,I Q r4,I Q r5,I Q r6,I Q r7,I Q pc],.agg #[K O 0 0,I Q od,I Q oa,I Q WR,I Q ST,I Q oe],X,X,J (Z ⟨w.heap.size,0,O⟩),J (Z ⟨w.heap.size+1,0,O⟩),J (Z ⟨w.heap.size+1+1,0,O⟩),vs 12,vs 14,vs 15,vs 16,vs 7,vs 0,vs 1,vs 2,vs 3,vs 4,vs 5,vs 6,vs 8,vs 9,vs 10,vs 11,X,X,X,X,X,X,X,X,X,X,X,X,X,X],defers:=[] }) (nC [(6,(lj (.agg #[I Q s0,I Q s1,I Q s2,I Q s3,I Q s4,I Q s5,I Q s6,I Q s7,I Q PC]) ms D E)),(7,(lj (.agg #[I Q s0,I Q s1,I Q s2,I Q s3,I Q s4,I Q s5,I Q s6,I Q s7,I Q PC]) ms D E)),(9,(fun v W=>dQ .i64 3 W v ms)),(14,(fun v W=>dQ .i64 3 W v ms))] [.agg #[I Q r0,I Q r1,I Q r2,I Q r3,I Q r4,I Q r5,I Q r6,I Q r7,I Q pc],J (Z ⟨Y.y,0,O⟩),J (Z ⟨Y.y,0,O⟩),J (Z ⟨Y.y,0,O⟩),.agg #[K aV k.l.length cV,I Q k.lo,I Q k.un],I Q (t:Int),X,X,.agg #[I Q s0,I Q s1,I Q s2,I Q s3,I Q s4,I Q s5,I Q s6,I Q s7,I Q PC],X,I Q D,I Q E,X,X,X,I Q D,I Q E]) ?ghm ?ghr ?ghns ?ghlen ?glit ?gst ?gst2 ?gd1 ?gbel ?gdn ?gnew ?gsto ?gops ?gdone
 case ghm=>kernel_rfl
 case ghr=>kernel_rfl
 case ghns=>kernel_rfl
 case ghlen=>rfl
 case glit=>intro vs;rfl
 case gst=>exact ep (by
  intro p hp
  simp only[List.mem_cons,List.not_mem_nil,or_false] at hp
  rcases hp with rfl|rfl|rfl|rfl
  ·exact fun v W W2 h hb=>lj.below h hb
  ·exact fun v W W2 h hb=>lj.below h hb
  ·exact fun v W W2 h hb=>iG h hb
  ·exact fun v W W2 h hb=>iG h hb)
 case gst2=>
  have hk:=iF (R:=fun W W2=>∃ b,Bk W b 112 #[I Q 0,I Q 0,I Q 0,I Q 0,I Q 0,I Q 0,I Q 0,I Q 0,I Q 0]/\W2=fP W b (I Q s0) (I Q s1) (I Q s2) (I Q s3) (I Q s4) (I Q s5) (I Q s6) (I Q s7) (I Q PC)) (ps:=[(6,(lj (.agg #[I Q s0,I Q s1,I Q s2,I Q s3,I Q s4,I Q s5,I Q s6,I Q s7,I Q PC]) ms D E)),(7,(lj (.agg #[I Q s0,I Q s1,I Q s2,I Q s3,I Q s4,I Q s5,I Q s6,I Q s7,I Q PC]) ms D E)),(9,(fun v W=>dQ .i64 3 W v ms)),(14,(fun v W=>dQ .i64 3 W v ms))]) (l:=[.agg #[I Q r0,I Q r1,I Q r2,I Q r3,I Q r4,I Q r5,I Q r6,I Q r7,I Q pc],J (Z ⟨Y.y,0,O⟩),J (Z ⟨Y.y,0,O⟩),J (Z ⟨Y.y,0,O⟩),.agg #[K aV k.l.length cV,I Q k.lo,I Q k.un],I Q (t:Int),X,X,.agg #[I Q s0,I Q s1,I Q s2,I Q s3,I Q s4,I Q s5,I Q s6,I Q s7,I Q PC],X,I Q D,I Q E,X,X,X,I Q D,I Q E]) (by
   intro p hp
   simp only[List.mem_cons,List.not_mem_nil,or_false] at hp
   rcases hp with rfl|rfl|rfl|rfl
   ·rintro v W W2 ⟨m5,e5,h5⟩ ⟨b,hk,rfl⟩;exact⟨m5,e5,jK h5 hk (by decide) (I Q s0) (I Q s1) (I Q s2) (I Q s3) (I Q s4) (I Q s5) (I Q s6) (I Q s7) (I Q PC)⟩
   ·rintro v W W2 ⟨m5,e5,h5⟩ ⟨b,hk,rfl⟩;exact⟨m5,e5,jK h5 hk (by decide) (I Q s0) (I Q s1) (I Q s2) (I Q s3) (I Q s4) (I Q s5) (I Q s6) (I Q s7) (I Q PC)⟩
   ·rintro v W W2 h ⟨b,hk,rfl⟩;exact jK h hk (by decide) (I Q s0) (I Q s1) (I Q s2) (I Q s3) (I Q s4) (I Q s5) (I Q s6) (I Q s7) (I Q PC)
   ·rintro v W W2 h ⟨b,hk,rfl⟩;exact jK h hk (by decide) (I Q s0) (I Q s1) (I Q s2) (I Q s3) (I Q s4) (I Q s5) (I Q s6) (I Q s7) (I Q PC))
  exact fun i v W b h hb=>hk i v W _ h ⟨b,hb,rfl⟩
 case gd1=>exact fun W W2 b h hb=>Rb.below h hb
 case gbel=>exact fun W b hb h=>eS h hb (I Q s0) (I Q s1) (I Q s2) (I Q s3) (I Q s4) (I Q s5) (I Q s6) (I Q s7) (I Q PC)
 case gdn=>exact fun W b h=>iR h (I Q s0) (I Q s1) (I Q s2) (I Q s3) (I Q s4) (I Q s5) (I Q s6) (I Q s7) (I Q PC)
 case gnew=>
  intro o ho vs W hW
  injection ho with ho
  subst ho
  refine aa rfl ?_
  go_simp
  exact⟨⟨W.heap.size,rfl,hW.size,Rb.made W [0,0,0,0,0,0,0,0] 0⟩,(C _ _).alloc (M _) _⟩
 case gsto=>
  intro o ho vs W b hW hd hb hk
  injection ho with ho
  subst ho
  have ev:vs 8=.agg #[I Q s0,I Q s1,I Q s2,I Q s3,I Q s4,I Q s5,I Q s6,I Q s7,I Q PC]:=hd 8 (by decide) rfl
  have zf:=Bk.free hk
  obtain⟨z0,z1,z2,z3,z4,z5,z6,z7,z8⟩:=Rb.cells hk
  refine bc rfl ?_
  clear hd
  go_simp
  rfl
 case gops=>
  refine⟨?_,?_,?_,?_,?_,?_,?_,?_,?_,?_,?_,?_,?_,?_,?_,?_,?_,trivial⟩
  ·intro _ vs W hW hd
   refine aa rfl ?_
   have hq:=h2.below hW;have c0x:=hq.c0;rw[HV.out] at c0x;have c1x:=hq.c1;have c2x:=hq.c2;obtain⟨c0,c1,c2,c3,c4,c5,c6,c7,c8⟩:=(Rb.below q0 hW).cells;clear hq
   go_simp
   exact⟨rfl,C _ _⟩
  ·intro _ vs W hW hd
   refine aa rfl ?_
   go_simp
   exact⟨rfl,C _ _⟩
  ·intro _ vs W hW hd
   refine aa rfl ?_
   have e1:vs 1=J (Z ⟨Y.y,0,O⟩):=hd 1 (by decide) rfl
   go_simp
   exact⟨rfl,C _ _⟩
  ·intro _ vs W hW hd
   refine aa rfl ?_
   have e2:vs 2=J (Z ⟨Y.y,0,O⟩):=hd 2 (by decide) rfl
   go_simp
   exact⟨rfl,C _ _⟩
  ·intro _ vs W hW hd
   refine aa rfl ?_
   have e3:vs 3=J (Z ⟨Y.y,0,O⟩):=hd 3 (by decide) rfl
   have hq:=h2.below hW;have c0x:=hq.c0;rw[HV.out] at c0x;have c1x:=hq.c1;have c2x:=hq.c2;obtain⟨c0,c1,c2,c3,c4,c5,c6,c7,c8⟩:=(Rb.below q0 hW).cells;clear hq
   go_simp
   exact⟨rfl,C _ _⟩
  ·intro _ vs W hW hd
   refine aa rfl ?_
   go_simp
   exact⟨rfl,C _ _⟩
  ·intro _ vs W hW hd
   refine aa rfl ?_
   have e0:vs 0=.agg #[I Q r0,I Q r1,I Q r2,I Q r3,I Q r4,I Q r5,I Q r6,I Q r7,I Q pc]:=hd 0 (by decide) rfl
   have e4:vs 4=.agg #[K aV k.l.length cV,I Q k.lo,I Q k.un]:=hd 4 (by decide) rfl
   have e5:vs 5=I Q (t:Int):=hd 5 (by decide) rfl
   have HS:=F (HB.out W (h2.below hW))
   clear hd
   go_simp
   refine HS.out.mono ?_
   rintro e z ⟨m5,he,hm5,hz⟩
   exact⟨_,he,⟨m5,rfl,hm5⟩,hz⟩
  ·intro _ vs W hW hd
   refine aa rfl ?_
   obtain⟨m5,e6,hm5⟩:lj (.agg #[I Q s0,I Q s1,I Q s2,I Q s3,I Q s4,I Q s5,I Q s6,I Q s7,I Q PC]) ms D E (vs 6) W:=hd 6 (by decide) rfl
   clear hd
   go_simp
   exact⟨⟨m5,rfl,hm5⟩,C _ _⟩
  ·intro _ vs W hW hd
   refine aa rfl ?_
   obtain⟨m5,e7,hm5⟩:lj (.agg #[I Q s0,I Q s1,I Q s2,I Q s3,I Q s4,I Q s5,I Q s6,I Q s7,I Q PC]) ms D E (vs 7) W:=hd 7 (by decide) rfl
   clear hd
   go_simp
   exact⟨rfl,C _ _⟩
  ·intro _ vs W hW hd
   refine aa rfl ?_
   obtain⟨m5,e7,hm5⟩:lj (.agg #[I Q s0,I Q s1,I Q s2,I Q s3,I Q s4,I Q s5,I Q s6,I Q s7,I Q PC]) ms D E (vs 7) W:=hd 7 (by decide) rfl
   clear hd
   go_simp
   exact⟨hm5,C _ _⟩
  ·intro _ vs W hW hd
   refine aa rfl ?_
   obtain⟨m5,e7,hm5⟩:lj (.agg #[I Q s0,I Q s1,I Q s2,I Q s3,I Q s4,I Q s5,I Q s6,I Q s7,I Q PC]) ms D E (vs 7) W:=hd 7 (by decide) rfl
   clear hd
   go_simp
   exact⟨rfl,C _ _⟩
  ·intro _ vs W hW hd
   refine aa rfl ?_
   obtain⟨m5,e7,hm5⟩:lj (.agg #[I Q s0,I Q s1,I Q s2,I Q s3,I Q s4,I Q s5,I Q s6,I Q s7,I Q PC]) ms D E (vs 7) W:=hd 7 (by decide) rfl
   clear hd
   go_simp
   exact⟨rfl,C _ _⟩
  ·exact fun h=>absurd h (by decide)
  ·exact fun h=>absurd h (by decide)
  ·intro _ vs W hW hd
   refine aa rfl ?_
   have h8:dQ .i64 3 W (vs 9) ms:=hd 9 (by decide) rfl
   clear hd
   go_simp
   exact⟨h8,C _ _⟩
  ·intro _ vs W hW hd
   refine aa rfl ?_
   have e10:vs 10=I Q D:=hd 10 (by decide) rfl
   go_simp
   exact⟨rfl,C _ _⟩
  ·intro _ vs W hW hd
   refine aa rfl ?_
   have e11:vs 11=I Q E:=hd 11 (by decide) rfl
   go_simp
   exact⟨rfl,C _ _⟩
 case gdone=>
  intro vs W b hW hf hgv hgb pb
  have f0:vs 0=.agg #[I Q r0,I Q r1,I Q r2,I Q r3,I Q r4,I Q r5,I Q r6,I Q r7,I Q pc]:=hf 0 (by decide) rfl
  have f1:vs 1=J (Z ⟨Y.y,0,O⟩):=hf 1 (by decide) rfl
  have f2:vs 2=J (Z ⟨Y.y,0,O⟩):=hf 2 (by decide) rfl
  have f3:vs 3=J (Z ⟨Y.y,0,O⟩):=hf 3 (by decide) rfl
  have f4:vs 4=.agg #[K aV k.l.length cV,I Q k.lo,I Q k.un]:=hf 4 (by decide) rfl
  have f5:vs 5=I Q (t:Int):=hf 5 (by decide) rfl
  have f8:vs 8=.agg #[I Q s0,I Q s1,I Q s2,I Q s3,I Q s4,I Q s5,I Q s6,I Q s7,I Q PC]:=hf 8 (by decide) rfl
  have f10:vs 10=I Q D:=hf 10 (by decide) rfl
  have f11:vs 11=I Q E:=hf 11 (by decide) rfl
  have f15:vs 15=I Q D:=hf 15 (by decide) rfl
  have f16:vs 16=I Q E:=hf 16 (by decide) rfl
  simp only[f0,f1,f2,f3,f4,f5,f8,f10,f11,f15,f16]
  have hm2:dQ .i64 3 W (vs 14) ms:=hf 14 (by decide) rfl
  simp only[hgv]
  clear hf hgv f0 f1 f2 f3 f4 f5 f8 f10 f11 f15 f16
  generalize vs 14=m2 at *
  generalize vs 6=w6 at *
  generalize vs 7=w7 at *
  generalize vs 9=w9 at *
  have h3:=h2.below hW
  replace q1:=(hW.block _ q1.lt).trans q1
  replace q2:=(hW.block _ q2.lt).trans q2
  replace b0:=b0.trans (hW.mono b0.size)
  clear h2 q0 hW hgb
  obtain⟨gk,capk,ek,hk1,hk2,hkb,hkf,-⟩:=h3.p8
  have cx6:=h3.c6
  rw[ek] at cx6
  obtain⟨u0,u1,u2,u3,u4,u5,u6,u7,pcu,ecu⟩:=h3.eD ht
  obtain⟨c0,c1,c2,c3,c4,c5,c6,c7,c8⟩:=h3.core ht ecu ek
  obtain⟨d0,d1,d2,d3,d4,d5,d6,d7,d8⟩:=pb.cells
  unfold maxLen at hk2
  go_upto_region 2 with fail
  go_region
  obtain⟨h4,st4⟩:=h3.put ht (c:=⟨[s0,s1,s2,s3,s4,s5,s6,s7],PC⟩) HE8.out ek
  have hw4:ag W (p5 W gk (t*9) (dz [s0,s1,s2,s3,s4,s5,s6,s7] PC)) (fun i=>i=gk):=.aP (kb _ _ _) (by rintro i e;injection e with e;exact .inl e.symm)
  have hgl:gk<w.heap.size:=HX.out.lt (.inr (.inr (.inr (.inr (.inr (.inl hkb))))))
  have p1:=Bk.within q1 hw4 (by omega)
  have p2:=Bk.within q2 hw4 (by omega)
  have l4:=gN hm2 hw4 (by rintro b' rfl;obtain⟨cs0,hb0⟩:=aT h3.cores hkb;exact⟨_,_,hb0,by decide⟩)
  have st5:=(bh.aP (n:=k.n) (Y:=Y) b0).aO st4
  generalize hv4:(((((((((W.setCell ⟨gk,(t*9),O⟩ (I Q s0)).setCell ⟨gk,(t*9)+1,O⟩ (I Q s1)).setCell ⟨gk,(t*9)+2,O⟩ (I Q s2)).setCell ⟨gk,(t*9)+3,O⟩ (I Q s3)).setCell ⟨gk,(t*9)+4,O⟩ (I Q s4)).setCell ⟨gk,(t*9)+5,O⟩ (I Q s5)).setCell ⟨gk,(t*9)+6,O⟩ (I Q s6)).setCell ⟨gk,(t*9)+7,O⟩ (I Q s7)).setCell ⟨gk,(t*9)+8,O⟩ (I Q PC))=v4
  replace hv4:p5 W gk (t*9) (dz [s0,s1,s2,s3,s4,s5,s6,s7] PC)=v4:=hv4
  rw[hv4] at h4 p1 p2 l4 st5
  clear hv4 hw4 h3 q1 q2 hm2 b0 st4 c0 c1 c2 c3 c4 c5 c6 c7 c8 d0 d1 d2 d3 d4 d5 d6 d7 d8 hkf pb cx6 hgl
  replace h4:=h4.below (C _ v4).drew
  replace p1:Bk v4.drew _ _ _:=p1
  replace p2:Bk v4.drew _ _ _:=p2
  replace l4:dQ .i64 3 v4.drew m2 ms:=l4
  replace st5:=st5.grown (C _ v4).drew
  generalize v4.drew=v5 at *
  obtain⟨a9,c9,e9,-⟩:=l4.is
  subst e9
  have hOwn:∀ i,Y.Own k.n i->i<w.heap.size:=fun i hi=>HX.out.lt hi
  have hw5:ag v5 (((v5.setCell ⟨w.heap.size+1,0,O⟩ (K a9 ms.length c9)).setCell ⟨w.heap.size+1,1,O⟩ (I Q D)).setCell ⟨w.heap.size+1,5,O⟩ (I Q E)) (fun i=>i=w.heap.size+1):=(((ag.refl v5 (fun i=>i=w.heap.size+1)).put _ 0 _ (.inl rfl)).put _ 1 _ (.inl rfl)).put _ 5 _ (.inl rfl)
  have p1':Bk (((v5.setCell ⟨w.heap.size+1,0,O⟩ (K a9 ms.length c9)).setCell ⟨w.heap.size+1,1,O⟩ (I Q D)).setCell ⟨w.heap.size+1,5,O⟩ (I Q E)) (w.heap.size+1) 67 #[K a9 ms.length c9,I Q D,I Q oa,I Q WR,I Q ST,I Q E]:=((p1.put 0 (K a9 ms.length c9)).put 1 (I Q D)).put 5 (I Q E)
  have p2':=p2.within hw5 (by omega)
  have h6:=h4.kept hw5 (fun i hi e=>by have:=hOwn i hi;omega)
  have st6:=st5.zZ hw5 (fun i e=>by omega)
  have l6:=gN l4 hw5 (by rintro b' rfl;exact⟨_,_,p1,by decide⟩)
  obtain⟨y0,y1,y2,y3,y4,y5⟩:=p1.oU
  have zf:=Bk.free p1
  go_upto_region 4 with fail
  generalize ((v5.setCell ⟨w.heap.size+1,0,O⟩ (K a9 ms.length c9)).setCell ⟨w.heap.size+1,1,O⟩ (I Q D)).setCell ⟨w.heap.size+1,5,O⟩ (I Q E)=v6 at *
  clear y0 y1 y2 y3 y4 y5 zf hw5 p1 p2 h4 st5 l4
  obtain⟨y0,y1,y2,y3,y4,y5⟩:=p1'.oU
  obtain⟨x0,x1,x2,x3,x4,x5⟩:=p2'.oU
  have zf:=Bk.free p2'
  have o1:=eB p2' (K a9 ms.length c9) (I Q D) (I Q oa) (I Q WR) (I Q ST) (I Q E)
  have o2:=bN (y:=v6) (g:=w.heap.size+1+1) (K a9 ms.length c9) (I Q D) (I Q oa) (I Q WR) (I Q ST) (I Q E)
  have l7:=gN l6 o2 (by rintro b' rfl;exact⟨_,_,p2',by decide⟩)
  have h7:=h6.kept o2 (fun i hi e=>by have:=hOwn i hi;omega)
  have st7:=st6.zZ o2 (fun i e=>by omega)
  clear h6 st6 l6
  go_wp2
  generalize hv9:((((((v6.setCell ⟨w.heap.size+1+1,0,O⟩ (K a9 ms.length c9)).setCell ⟨w.heap.size+1+1,1,O⟩ (I Q D)).setCell ⟨w.heap.size+1+1,2,O⟩ (I Q oa)).setCell ⟨w.heap.size+1+1,3,O⟩ (I Q WR)).setCell ⟨w.heap.size+1+1,4,O⟩ (I Q ST)).setCell ⟨w.heap.size+1+1,5,O⟩ (I Q E))=v9
  replace hv9:eH v6 (w.heap.size+1+1) (K a9 ms.length c9) (I Q D) (I Q oa) (I Q WR) (I Q ST) (I Q E)=v9:=hv9
  rw[hv9] at o1 l7 h7 st7
  clear hv9 o2 p1' p2' y0 y1 y2 y3 y4 y5 x0 x1 x2 x3 x4 x5 zf
  obtain⟨o0,o1,o2,o3,o4,o5⟩:=o1.oU
  exact bodyPost_ret (v:=.agg #[K a9 ms.length c9,I Q D,I Q oa,I Q WR,I Q ST,I Q E]) (by simp[results,Tryz.results47,go_sem,o0,o1,o2,o3,o4,o5]) rfl ⟨K a9 ms.length c9,Y,(by rw[HOT.out]),l7,h7,st7⟩
end
structure Ez (c:fy)(zs init r7:List Int)(each threads:Int):Prop where
 rz:fV zs
 few:jh zs<=8192
 len:init.length=jh zs
 n1:1<=threads
 n64:threads<=64
 e0:0<=each
 e8:each<=8
 rl:(r7.length:Int)=threads
 code:iZ c=T
section
variable {w w':World}{Y:YP}{k:Lk}{m:Mc}
theorem eK.mono {k:Lk}{v0 v1:World}{Y0 Y1:YP}{r:Mc×Ot}{e:Ending}{w':World}(h:eK v1 Y1 k r e w')(s:bh v0 k.n Y0 v1 Y1):eK v0 Y0 k r e w':=by
 obtain⟨v,Y',h1,h2,h3,h4⟩:=h
 exact⟨v,Y',h1,h2,h3,s.aO h4⟩
theorem dk {q:Nat}{t:TypeId}{cs:Array Value}{v:Value}{r:Mc×Ot}{Y':YP}{W W':World}(hl:dQ .i64 3 W v r.2.ms)(h:Ey W Y' k r.1)(s:bh w k.n Y W Y')(hq:Bk W q t cs)(ht:t≠3)(hw:ag W W' (fun i=>i=q))(hn:w.heap.size<=q)(hfar:∀ i,Y'.Own k.n i->i≠q):
 eK w Y k r (.returned (qj v r.2)) W':=
 ⟨v,Y',rfl,gN hl hw (by rintro b' rfl;exact⟨_,_,hq,ht⟩),h.kept hw (fun i hi e=>hfar i hi e),s.zZ hw (fun i e=>by omega)⟩
theorem zo (h:Ey w Y k m)(t:Nat)(ht:t<k.n)(un:Bool):
 Calls Tryz.prog 23 #[J (Z ⟨Y.y,0,O⟩),I Q t,I Q (aH un)] w (eK w Y k (bg k m t un)):=by
 have hnn:=h.lk.n64
 obtain⟨r0,r1,r2,r3,r4,r5,r6,r7,pc,ec⟩:=h.eD ht
 have hc8:cW [r0,r1,r2,r3,r4,r5,r6,r7]:=by have:=h.mc.cs t ht;rw[ec] at this;exact this
 have HRun:Hid (∀ W,Ey W Y k m->Calls Tryz.prog 47 #[J (Z ⟨Y.y,0,O⟩),I Q t,.agg #[I Q r0,I Q r1,I Q r2,I Q r3,I Q r4,I Q r5,I Q r6,I Q r7,I Q (if un then k.un else k.lo)],.agg #[K O 0 0,I Q 0,I Q (-1),I Q 0,I Q 0,I Q 0]] W (eK W Y k (bg k m t un))):=F fun W hW=>by
  have:=BK hW t ht ⟨[r0,r1,r2,r3,r4,r5,r6,r7],if un then k.un else k.lo⟩ hc8 ⟨[],0,-1,V,V,0⟩ _ rfl
  unfold bg
  rw[ec]
  exact this
 obtain⟨BB,hBB⟩:∃ B,B=bg k m t un:=⟨_,rfl⟩
 rw[<-hBB] at HRun ⊢
 clear hBB
 have HX:=F h
 have q0:=Bk.made w 67 #[K O 0 0,I Q 0,I Q 0,I Q 0,I Q 0,I Q 0]
 have b0:Below w.heap.size w (w.alloc (G #[K O 0 0,I Q 0,I Q 0,I Q 0,I Q 0,I Q 0] 67)):=(C _ _).alloc (M _) _
 have s0:(w.alloc (G #[K O 0 0,I Q 0,I Q 0,I Q 0,I Q 0,I Q 0] 67)).heap.size=w.heap.size+1:=by simp
 go_enter Tryz.func23,Tryz.ntmps23
 go_upto_region 1 with fail
 generalize w.alloc (G #[K O 0 0,I Q 0,I Q 0,I Q 0,I Q 0,I Q 0] 67)=y at *
 have h2:=h.below b0
 obtain⟨gk,capk,ek,hk1,hk2,hkb,hkf,-⟩:=h2.p8
 unfold maxLen at hk2
 have cx6:=h2.c6
 rw[ek] at cx6
 obtain⟨c0,c1,c2,c3,c4,c5,c6,c7,c8⟩:=h2.core ht ec ek
 go_upto_region 2 with fail
 have q1:=Rb.made y [r0,r1,r2,r3,r4,r5,r6,r7] pc
 rw[s0] at q1
 simp only[dz,List.map_cons,List.map_nil,List.cons_append,List.nil_append] at q1
 have b1:Below y.heap.size y (y.alloc (G #[I Q r0,I Q r1,I Q r2,I Q r3,I Q r4,I Q r5,I Q r6,I Q r7,I Q pc] 112)):=(C _ _).alloc (M _) _
 replace q0:=(b1.block _ q0.lt).trans q0
 have h3:=h2.below b1
 replace b0:=b0.trans (b1.mono b0.size)
 have HS0:=F s0
 clear c0 c1 c2 c3 c4 c5 c6 c7 c8 cx6 h2 b1 hkf s0 h
 generalize y.alloc (G #[I Q r0,I Q r1,I Q r2,I Q r3,I Q r4,I Q r5,I Q r6,I Q r7,I Q pc] 112)=z at *
 have hOwn:Hid (∀ i,Y.Own k.n i->i<w.heap.size):=F fun i hi=>HX.out.lt hi
 have k1:=h3.c1
 have k2:=h3.c2
 obtain⟨c0,c1,c2,c3,c4,c5,c6,c7,c8⟩:=Rb.cells q1
 have zf:=Bk.free q1
 have ne1:Y.y≠w.heap.size+1:=by have:=hOwn.out _ (.inl rfl);omega
 have q2:Rb (z.setCell ⟨w.heap.size+1,8,O⟩ (I Q k.lo)) (w.heap.size+1) [r0,r1,r2,r3,r4,r5,r6,r7] k.lo:=Rb.xf q1 rfl k.lo
 have hw1:ag z (z.setCell ⟨w.heap.size+1,8,O⟩ (I Q k.lo)) (fun i=>i=w.heap.size+1):=(ag.refl z (fun i=>i=w.heap.size+1)).put _ _ _ (.inl rfl)
 have h4:=h3.kept hw1 (fun i hi e=>by have:=hOwn.out i hi;omega)
 have q02:=Bk.within q0 hw1 (by omega)
 have b2:=b0.setCell (p:=⟨w.heap.size+1,8,O⟩) (by show w.heap.size<=w.heap.size+1;omega) (I Q k.lo)
 cases un with
 | false=>
  simp only[Bool.false_eq_true,if_false] at HRun
  unfold aH
  simp only[Bool.false_eq_true,if_false]
  go_upto_region 5 with fail
  clear c0 c1 c2 c3 c4 c5 c6 c7 c8 zf k1 k2 h3 q0 b0 q1 hw1
  generalize z.setCell ⟨w.heap.size+1,8,O⟩ (I Q k.lo)=v at *
  obtain⟨c0,c1,c2,c3,c4,c5,c6,c7,c8⟩:=Rb.cells q2
  have hR:=HRun.out v h4
  have st:=bh.aP (n:=k.n) (Y:=Y) b2
  have hf0:∀ i,Y.Own k.n i->i≠w.heap.size:=fun i hi e=>by have:=hOwn.out _ hi;omega
  have hlt:w.heap.size<v.heap.size:=by have:=Bk.lt q2;omega
  go_wp2_with fail
  refine hR.mono ?_
  rintro e v5 ⟨mv,Y',rfl,hl5,h5,hs5⟩
  obtain⟨a9,c9,e9,-⟩:=hl5.is
  subst e9
  have q5:=Bk.within q02 hs5.1 (fun e=>hf0 _ e rfl)
  have st5:=st.aO hs5
  have hfar:∀ i,Y'.Own k.n i->i≠w.heap.size:=fun i hi e=>by
   rcases hs5.2.1 i hi with e2 | e2
   ·exact hf0 i e2 e
   ·omega
  unfold qj
  obtain⟨x0,x1,x2,x3,x4,x5⟩:=q5.oU
  have zf:=Bk.free q5
  have o1:=eB q5 (K a9 BB.2.ms.length c9) (I Q BB.2.done) (I Q BB.2.addr) (I Q (aH BB.2.wrote)) (I Q (aH BB.2.stay)) (I Q BB.2.e)
  have o2:=bN (y:=v5) (g:=w.heap.size) (K a9 BB.2.ms.length c9) (I Q BB.2.done) (I Q BB.2.addr) (I Q (aH BB.2.wrote)) (I Q (aH BB.2.stay)) (I Q BB.2.e)
  have hC:=F (dk (Y:=Y) (r:=BB) hl5 h5 st5 q5 (by decide) o2 (M _) hfar)
  clear q02 hl5 h5 hs5 st5 st o2 hR q2 c0 c1 c2 c3 c4 c5 c6 c7 c8 h4 HRun
  go_wp2_with (refine bodyPost_ret (v:=.agg #[K a9 BB.2.ms.length c9,I Q BB.2.done,I Q BB.2.addr,I Q (aH BB.2.wrote),I Q (aH BB.2.stay),I Q BB.2.e]) (w:=eH v5 w.heap.size (K a9 BB.2.ms.length c9) (I Q BB.2.done) (I Q BB.2.addr) (I Q (aH BB.2.wrote)) (I Q (aH BB.2.stay)) (I Q BB.2.e)) ?hres rfl ?hpost)
  case hpost=>exact hC.out
  case hres=>
   generalize eH v5 w.heap.size (K a9 BB.2.ms.length c9) (I Q BB.2.done) (I Q BB.2.addr) (I Q (aH BB.2.wrote)) (I Q (aH BB.2.stay)) (I Q BB.2.e)=v9 at *
   obtain⟨o0,o1,o2,o3,o4,o5⟩:=o1.oU
   simp[results,Tryz.results23,go_sem,o0,o1,o2,o3,o4,o5]
 | true=>
  simp only[if_true] at HRun
  unfold aH
  simp only[if_true]
  have zf2:=Bk.free q2
  go_upto_region 4 with fail
  clear c0 c1 c2 c3 c4 c5 c6 c7 c8 zf k1 k2 h3 q0 b0 q1 hw1
  generalize z.setCell ⟨w.heap.size+1,8,O⟩ (I Q k.lo)=z2 at *
  have k2:=h4.c2
  obtain⟨c0,c1,c2,c3,c4,c5,c6,c7,c8⟩:=Rb.cells q2
  have q3:Rb (z2.setCell ⟨w.heap.size+1,8,O⟩ (I Q k.un)) (w.heap.size+1) [r0,r1,r2,r3,r4,r5,r6,r7] k.un:=Rb.xf q2 rfl k.un
  have hw1:ag z2 (z2.setCell ⟨w.heap.size+1,8,O⟩ (I Q k.un)) (fun i=>i=w.heap.size+1):=(ag.refl z2 (fun i=>i=w.heap.size+1)).put _ _ _ (.inl rfl)
  have h5:=h4.kept hw1 (fun i hi e=>by have:=hOwn.out i hi;omega)
  replace q02:=Bk.within q02 hw1 (by omega)
  replace b2:=b2.setCell (p:=⟨w.heap.size+1,8,O⟩) (by show w.heap.size<=w.heap.size+1;omega) (I Q k.un)
  go_upto_region 5 with fail
  clear c0 c1 c2 c3 c4 c5 c6 c7 c8 zf2 k2 h4 q2 hw1
  generalize z2.setCell ⟨w.heap.size+1,8,O⟩ (I Q k.un)=v at *
  obtain⟨c0,c1,c2,c3,c4,c5,c6,c7,c8⟩:=Rb.cells q3
  have hR:=HRun.out v h5
  have st:=bh.aP (n:=k.n) (Y:=Y) b2
  have hf0:∀ i,Y.Own k.n i->i≠w.heap.size:=fun i hi e=>by have:=hOwn.out _ hi;omega
  have hlt:w.heap.size<v.heap.size:=by have:=Bk.lt q3;omega
  have h4:=h5
  have q2:=q3
  clear h5 q3
  go_wp2_with fail
  refine hR.mono ?_
  rintro e v5 ⟨mv,Y',rfl,hl5,h5,hs5⟩
  obtain⟨a9,c9,e9,-⟩:=hl5.is
  subst e9
  have q5:=Bk.within q02 hs5.1 (fun e=>hf0 _ e rfl)
  have st5:=st.aO hs5
  have hfar:∀ i,Y'.Own k.n i->i≠w.heap.size:=fun i hi e=>by
   rcases hs5.2.1 i hi with e2 | e2
   ·exact hf0 i e2 e
   ·omega
  unfold qj
  obtain⟨x0,x1,x2,x3,x4,x5⟩:=q5.oU
  have zf:=Bk.free q5
  have o1:=eB q5 (K a9 BB.2.ms.length c9) (I Q BB.2.done) (I Q BB.2.addr) (I Q (aH BB.2.wrote)) (I Q (aH BB.2.stay)) (I Q BB.2.e)
  have o2:=bN (y:=v5) (g:=w.heap.size) (K a9 BB.2.ms.length c9) (I Q BB.2.done) (I Q BB.2.addr) (I Q (aH BB.2.wrote)) (I Q (aH BB.2.stay)) (I Q BB.2.e)
  have hC:=F (dk (Y:=Y) (r:=BB) hl5 h5 st5 q5 (by decide) o2 (M _) hfar)
  clear q02 hl5 h5 hs5 st5 st o2 hR q2 c0 c1 c2 c3 c4 c5 c6 c7 c8 h4 HRun
  go_wp2_with (refine bodyPost_ret (v:=.agg #[K a9 BB.2.ms.length c9,I Q BB.2.done,I Q BB.2.addr,I Q (aH BB.2.wrote),I Q (aH BB.2.stay),I Q BB.2.e]) (w:=eH v5 w.heap.size (K a9 BB.2.ms.length c9) (I Q BB.2.done) (I Q BB.2.addr) (I Q (aH BB.2.wrote)) (I Q (aH BB.2.stay)) (I Q BB.2.e)) ?hres rfl ?hpost)
  case hpost=>exact hC.out
  case hres=>
   generalize eH v5 w.heap.size (K a9 BB.2.ms.length c9) (I Q BB.2.done) (I Q BB.2.addr) (I Q (aH BB.2.wrote)) (I Q (aH BB.2.stay)) (I Q BB.2.e)=v9 at *
   obtain⟨o0,o1,o2,o3,o4,o5⟩:=o1.oU
   simp[results,Tryz.results23,go_sem,o0,o1,o2,o3,o4,o5]
end
theorem qI {w w1:World}{zs:List Int}{e:Ending}(h:oP w zs e w1)(hz:fV zs)(hf:jh zs<=8192):w.grownBy w1 O/\∃ va vc,e=.returned (.tuple #[K va (jh zs) vc,.bool T]):=by
 obtain⟨hg,⟨_,v,rfl,hc⟩ | ⟨hn,rfl⟩⟩:=h
 ·refine⟨hg,?_⟩
  obtain⟨va,vc,rfl,_⟩:=hc.is
  refine⟨va,vc,?_⟩
  rw[iz,show decide ((jh zs:Int)<=8192)=T by simp;omega]
 ·exact absurd hz hn
theorem AC {base:Nat}{w:World}{v:Value}{c:fy}{zs init r7:List Int}{each t:Int}(hv:Rv base w v c zs init r7 each)(hw:∀ i∈c.l,i.Wf)(hk:Ez c zs init r7 each t):
 Calls Tryz.prog 15 #[v,I Q t] w fun e w'=>e=.returned (.bool T)/\Below w.heap.size w w':=by
 obtain⟨sl,aS,cS,aI,cI,aR,cR,rfl,ho,hgS,hgI,hgR,hm1,hm2,hm3⟩:=hv
 obtain⟨aL,cL,rfl,_⟩:=aY ho
 have q0:=Bk.made w 37 #[K aL c.l.length cL,I Q c.lo,I Q c.un,K aS zs.length cS,K aI init.length cI,I Q each,K aR r7.length cR]
 have b0:Below w.heap.size w (w.alloc (G #[K aL c.l.length cL,I Q c.lo,I Q c.un,K aS zs.length cS,K aI init.length cI,I Q each,K aR r7.length cR] 37)):=(C _ _).alloc (M _) _
 have HKK:=F hk
 go_enter Tryz.func15,Tryz.ntmps15
 go_upto_region 1 with fail
 have hpv:=fun W (hW:Below w.heap.size w W)=>tV (dj ho hW)
 have HPV:=F hpv
 clear hpv ho hk
 generalize w.alloc (G #[K aL c.l.length cL,I Q c.lo,I Q c.un,K aS zs.length cS,K aI init.length cI,I Q each,K aR r7.length cR] 37)=y at *
 have hC:=zx (hgS.below b0) hm1 cS
 have y1:y.cell? ⟨w.heap.size,3,O⟩=Z (K aS zs.length cS):=q0.cell 3
 go_wp2_with fail
 refine hC.mono ?_
 intro e z hcp
 have hrz:=HKK.out.rz
 have hfew:=HKK.out.few
 have hlen:=HKK.out.len
 have h2:=HKK.out.n1
 have h3:=HKK.out.n64
 have h4:=HKK.out.e0
 have h5:=HKK.out.e8
 have h6:=HKK.out.rl
 have hpb:=HKK.out.code
 obtain⟨hgr,va,vc,rfl⟩:=qI hcp hrz hfew
 have hz:=aQ hgr
 have q1:=(hz.block _ q0.lt).trans q0
 have b1:=b0.trans (hz.mono b0.size)
 clear hC hcp hgr hz q0 b0 y1
 have HB:=F b1
 unfold maxLen at hm1 hm2 hm3
 obtain⟨f0,f1,f2,f3,f4,f5,f6⟩:z.cell? ⟨w.heap.size,0,O⟩=Z (K aL c.l.length cL)/\z.cell? ⟨w.heap.size,1,O⟩=Z (I Q c.lo)/\z.cell? ⟨w.heap.size,2,O⟩=Z (I Q c.un)/\z.cell? ⟨w.heap.size,3,O⟩=Z (K aS zs.length cS)/\z.cell? ⟨w.heap.size,4,O⟩=Z (K aI init.length cI)/\z.cell? ⟨w.heap.size,5,O⟩=Z (I Q each)/\z.cell? ⟨w.heap.size,6,O⟩=Z (K aR r7.length cR):=⟨Bk.cell q1 0,Bk.cell q1 1,Bk.cell q1 2,Bk.cell q1 3,Bk.cell q1 4,Bk.cell q1 5,Bk.cell q1 6⟩
 clear q1 b1 hrz
 have i1:((jh zs:Int)==(init.length:Int))=T:=by simp;omega
 have i6:((r7.length:Int)==t)=T:=by simpa using h6
 have HH:=F (And.intro hlen h6)
 clear hlen h6
 have hRP:=AD c _ z (HPV.out z HB.out) hw
 rw[hpb] at hRP
 go_wp2_with fail
 refine hRP.mono ?_
 rintro e z2 ⟨rfl,hz2⟩
 have HB2:=F (HB.out.trans (hz2.mono HB.out.size))
 clear hz2 f0 f1 f2 f3 f4 f5 f6
 go_wp2
 go_ret
 exact⟨rfl,HB2.out⟩
def iO (k:Lk):Prop:=∀ (w:World) (Y:YP) (m:Mc) (t:Nat) (L:Int),Ey w Y k m->t<k.n->
 Calls Tryz.prog 25 #[J (Z ⟨Y.y,0,O⟩),I Q t,I Q L] w (eK w Y k (br k m t (decide (L≠0))))
structure SI (w:World)(Y0:YP)(k:Lk)(xs:List Int)(pc:Int)(Y:YP)(m:Mc)(W:World):Prop where
 ey:Ey W Y k m
 st:bh w k.n Y0 W Y
 q:Bk W w.heap.size 67 #[K O 0 0,I Q 0,I Q 0,I Q 0,I Q 0,I Q 0]
 c:Rb W (w.heap.size+1) xs pc
 tr:Bk W (w.heap.size+1+1) 67 #[K O 0 0,I Q (-1),I Q (-1),I Q 0,I Q 0,I Q 11]
 nn:∀ i,Y.Own k.n i->i<w.heap.size\/w.heap.size+4<=i
section
variable {w W W':World}{Y0 Y:YP}{k:Lk}{m:Mc}{xs:List Int}{pc:Int}
theorem SI.below (h:SI w Y0 k xs pc Y m W)(hb:Below W.heap.size W W'):SI w Y0 k xs pc Y m W':=
 ⟨h.ey.below hb,h.st.grown hb,(hb.block _ h.q.lt).trans h.q,h.c.below hb,(hb.block _ h.tr.lt).trans h.tr,h.nn⟩
theorem SI.off (h:SI w Y0 k xs pc Y m W){b:Nat}(hW:ag W W' (fun i=>i=b))(h1:w.heap.size+1<b)(h2:b≠w.heap.size+1+1)(h3:∀ i,Y.Own k.n i->i≠b):SI w Y0 k xs pc Y m W':=
 ⟨h.ey.kept hW (fun i hi e=>h3 i hi e),h.st.zZ hW (fun i e=>by omega),h.q.within hW (by omega),Bk.within h.c hW (by omega),h.tr.within hW (by omega),h.nn⟩
theorem SI.core {ys:List Int}{pc':Int}(h:SI w Y0 k xs pc Y m W)(hW:ag W W' (fun i=>i=w.heap.size+1))(hc:Rb W' (w.heap.size+1) ys pc'):SI w Y0 k ys pc' Y m W':=
 ⟨h.ey.kept hW (fun i hi e=>by have:=h.nn i hi;omega),h.st.zZ hW (fun i e=>by omega),h.q.within hW (by omega),hc,h.tr.within hW (by omega),h.nn⟩
theorem SI.Dx (h:SI w Y0 k xs pc Y m W)(h8:xs.length=8){d:Nat}(hd:d<8)(v:Int):SI w Y0 k (xs.set d v) pc Y m (W.setCell ⟨w.heap.size+1,d,O⟩ (I Q v)):=
 h.core ((ag.refl _ (fun i=>i=w.heap.size+1)).put _ _ _ (.inl rfl)) (h.c.set h8 hd v)
theorem SI.place (h:SI w Y0 k xs pc Y m W)(h8:xs.length=8)(v:Int):SI w Y0 k xs v Y m (W.setCell ⟨w.heap.size+1,8,O⟩ (I Q v)):=
 h.core ((ag.refl _ (fun i=>i=w.heap.size+1)).put _ _ _ (.inl rfl)) (h.c.xf h8 v)
theorem cZ (W:World)(g o:Nat)(v:Value):ag W (W.setCell ⟨g,o,O⟩ v) (fun i=>i=g):=(ag.refl _ (fun i=>i=g)).put _ _ _ (.inl rfl)
theorem aZ (x:World)(n:Nat):Below x.heap.size x (x.drewN n):=⟨rfl,rfl,rfl,M _,fun _ _=>rfl⟩
theorem cC {x:Int}(h:0<=x/\x<4294967296):x % 4294967296=x:=by omega
theorem CI {i:aK}(h:Du i)(hm:eW i.op=V):i.op<16:=by
 have ho:=h.op
 unfold eW at hm
 simp at hm
 omega
end
section
variable {w w':World}{Y:YP}{k:Lk}{m:Mc}
theorem Dy (h:Ey w Y k m)(t:Nat)(ht:t<k.n)(late:Int)(hm:kO k (m.cs t).pc=O):
 Calls Tryz.prog 25 #[J (Z ⟨Y.y,0,O⟩),I Q t,I Q late] w (eK w Y k (m,iW)):=by
 have hnn:=h.lk.n64
 have hl64:=h.lk.parts.2.1
 obtain⟨r0,r1,r2,r3,r4,r5,r6,r7,pc,ec⟩:=h.eD ht
 have hx8:cW [r0,r1,r2,r3,r4,r5,r6,r7]:=by have:=h.mc.cs t ht;rw[ec] at this;exact this
 have HX:=F h
 rw[ec] at hm
 have q0:=Bk.made w 67 #[K O 0 0,I Q 0,I Q 0,I Q 0,I Q 0,I Q 0]
 have b0:Below w.heap.size w (w.alloc (G #[K O 0 0,I Q 0,I Q 0,I Q 0,I Q 0,I Q 0] 67)):=(C _ _).alloc (M _) _
 have s0:(w.alloc (G #[K O 0 0,I Q 0,I Q 0,I Q 0,I Q 0,I Q 0] 67)).heap.size=w.heap.size+1:=by simp
 go_enter Tryz.func25,Tryz.ntmps25
 go_upto_region 1 with fail
 generalize w.alloc (G #[K O 0 0,I Q 0,I Q 0,I Q 0,I Q 0,I Q 0] 67)=y at *
 have h2:=h.below b0
 obtain⟨gk,capk,ek,hk1,hk2,hkb,hkf,-⟩:=h2.p8
 unfold maxLen at hk2
 have cx6:=h2.c6
 rw[ek] at cx6
 obtain⟨c0,c1,c2,c3,c4,c5,c6,c7,c8⟩:=h2.core ht ec ek
 go_upto_region 2 with fail
 have q1:=Rb.made y [r0,r1,r2,r3,r4,r5,r6,r7] pc
 have s1:(y.alloc (G #[I Q r0,I Q r1,I Q r2,I Q r3,I Q r4,I Q r5,I Q r6,I Q r7,I Q pc] 112)).heap.size=w.heap.size+1+1:=by rw[World.size_alloc,s0]
 rw[s0] at q1
 simp only[dz,List.map_cons,List.map_nil,List.cons_append,List.nil_append] at q1
 have b1:Below y.heap.size y (y.alloc (G #[I Q r0,I Q r1,I Q r2,I Q r3,I Q r4,I Q r5,I Q r6,I Q r7,I Q pc] 112)):=(C _ _).alloc (M _) _
 replace q0:=(b1.block _ q0.lt).trans q0
 have h3:=h2.below b1
 replace b0:=b0.trans (b1.mono b0.size)
 clear c0 c1 c2 c3 c4 c5 c6 c7 c8 cx6 h2 b1 hkf s0 h hk1 hk2 hkb ek
 generalize y.alloc (G #[I Q r0,I Q r1,I Q r2,I Q r3,I Q r4,I Q r5,I Q r6,I Q r7,I Q pc] 112)=z at *
 go_upto_region 3 with fail
 have b1:Below z.heap.size z (z.alloc (G #[K O 0 0,I Q (-1),I Q (-1),I Q 0,I Q 0,I Q 11] 67)):=(C _ _).alloc (M _) _
 have q2:=Bk.made z 67 #[K O 0 0,I Q (-1),I Q (-1),I Q 0,I Q 0,I Q 11]
 have s2:(z.alloc (G #[K O 0 0,I Q (-1),I Q (-1),I Q 0,I Q 0,I Q 11] 67)).heap.size=w.heap.size+1+1+1:=by rw[World.size_alloc,s1]
 rw[s1] at q2
 have hS:SI w Y k [r0,r1,r2,r3,r4,r5,r6,r7] pc Y m (z.alloc (G #[K O 0 0,I Q (-1),I Q (-1),I Q 0,I Q 0,I Q 11] 67)):=⟨h3.below b1,(bh.aP b0).grown b1,(b1.block _ (Bk.lt q0)).trans q0,(b1.block _ (Bk.lt q1)).trans q1,q2,fun i hi=>.inl (HX.out.lt hi)⟩
 clear h3 b0 b1 q0 q1 q2 s1
 have HS2:=F s2
 clear s2
 generalize z.alloc (G #[K O 0 0,I Q (-1),I Q (-1),I Q 0,I Q 0,I Q 11] 67)=x at *
 have HS:=F hS
 have cx0:=hS.ey.c0
 obtain⟨hpv,aV,cV,eV⟩:=hS.ey.pv
 rw[eV] at cx0 hpv
 obtain⟨a2,ca2,e2,_,_,_,hsl⟩:=hpv
 simp only[Value.agg.injEq,Array.mk.injEq,List.cons.injEq,Value.slice.injEq,and_true,true_and] at e2
 obtain⟨rfl,rfl⟩:=e2
 have HV:=F eV
 clear eV
 obtain⟨c0,c1,c2,c3,c4,c5,c6,c7,c8⟩:=hS.c.cells
 rcases vP hm with h1 | h1 | ⟨j,h1,h2,h3,h4⟩
 ·clear hm
  simp only at h1
  clear hsl hS
  go_quiet (fail)
  go_upto_region 4 with fail
  have hS3:=HS.out.below (aZ x nq)
  clear c0 c1 c2 c3 c4 c5 c6 c7 c8 cx0
  generalize x.drewN nq=v at *
  obtain⟨t0,t1,t2,t3,t4,t5⟩:=hS3.tr.oU
  have q5:=hS3.q
  have HT:=F hS3
  obtain⟨x0,x1,x2,x3,x4,x5⟩:=q5.oU
  have zf:=Bk.free q5
  have o1:=eB q5 (K O 0 0) (I Q (-1)) (I Q (-1)) (I Q 0) (I Q 0) (I Q 11)
  have o2:=bN (y:=v) (g:=w.heap.size) (K O 0 0) (I Q (-1)) (I Q (-1)) (I Q 0) (I Q 0) (I Q 11)
  have hC:=F (dk (Y:=Y) (r:=(m,iW)) (v:=K O 0 0) (dQ.nil _ _ _) HT.out.ey HT.out.st HT.out.q (by decide) o2 (M _) (fun i hi e=>by have:=HT.out.nn i hi;omega))
  clear hS3 o2 HT
  go_wp2_with (refine bodyPost_ret (v:=.agg #[K O 0 0,I Q (-1),I Q (-1),I Q 0,I Q 0,I Q 11]) (w:=eH v w.heap.size (K O 0 0) (I Q (-1)) (I Q (-1)) (I Q 0) (I Q 0) (I Q 11)) ?hres rfl ?hpost)
  case hpost=>exact hC.out
  case hres=>
   generalize eH v w.heap.size (K O 0 0) (I Q (-1)) (I Q (-1)) (I Q 0) (I Q 0) (I Q 11)=v9 at *
   obtain⟨o0,o1,o2,o3,o4,o5⟩:=o1.oU
   simp[results,Tryz.results25,go_sem,o0,o1,o2,o3,o4,o5]
 ·clear hm
  simp only at h1
  by_cases h0:pc<0
  ·clear h1
   have h1:=h0
   clear hsl hS
   go_quiet (fail)
   go_upto_region 4 with fail
   have hS3:=HS.out.below (aZ x nq)
   clear c0 c1 c2 c3 c4 c5 c6 c7 c8 cx0
   generalize x.drewN nq=v at *
   obtain⟨t0,t1,t2,t3,t4,t5⟩:=hS3.tr.oU
   have q5:=hS3.q
   have HT:=F hS3
   obtain⟨x0,x1,x2,x3,x4,x5⟩:=q5.oU
   have zf:=Bk.free q5
   have o1:=eB q5 (K O 0 0) (I Q (-1)) (I Q (-1)) (I Q 0) (I Q 0) (I Q 11)
   have o2:=bN (y:=v) (g:=w.heap.size) (K O 0 0) (I Q (-1)) (I Q (-1)) (I Q 0) (I Q 0) (I Q 11)
   have hC:=F (dk (Y:=Y) (r:=(m,iW)) (v:=K O 0 0) (dQ.nil _ _ _) HT.out.ey HT.out.st HT.out.q (by decide) o2 (M _) (fun i hi e=>by have:=HT.out.nn i hi;omega))
   clear hS3 o2 HT
   go_wp2_with (refine bodyPost_ret (v:=.agg #[K O 0 0,I Q (-1),I Q (-1),I Q 0,I Q 0,I Q 11]) (w:=eH v w.heap.size (K O 0 0) (I Q (-1)) (I Q (-1)) (I Q 0) (I Q 0) (I Q 11)) ?hres rfl ?hpost)
   case hpost=>exact hC.out
   case hres=>
    generalize eH v w.heap.size (K O 0 0) (I Q (-1)) (I Q (-1)) (I Q 0) (I Q 0) (I Q 11)=v9 at *
    obtain⟨o0,o1,o2,o3,o4,o5⟩:=o1.oU
    simp[results,Tryz.results25,go_sem,o0,o1,o2,o3,o4,o5]
  have d0:decide (pc<0)=V:=by simp;omega
  have d1:pc>=(k.l.length:Int):=h1
  clear hsl hS
  go_quiet (fail)
  go_upto_region 4 with fail
  have hS3:=HS.out.below (aZ x nq)
  clear c0 c1 c2 c3 c4 c5 c6 c7 c8 cx0
  generalize x.drewN nq=v at *
  obtain⟨t0,t1,t2,t3,t4,t5⟩:=hS3.tr.oU
  have q5:=hS3.q
  have HT:=F hS3
  obtain⟨x0,x1,x2,x3,x4,x5⟩:=q5.oU
  have zf:=Bk.free q5
  have o1:=eB q5 (K O 0 0) (I Q (-1)) (I Q (-1)) (I Q 0) (I Q 0) (I Q 11)
  have o2:=bN (y:=v) (g:=w.heap.size) (K O 0 0) (I Q (-1)) (I Q (-1)) (I Q 0) (I Q 0) (I Q 11)
  have hC:=F (dk (Y:=Y) (r:=(m,iW)) (v:=K O 0 0) (dQ.nil _ _ _) HT.out.ey HT.out.st HT.out.q (by decide) o2 (M _) (fun i hi e=>by have:=HT.out.nn i hi;omega))
  clear hS3 o2 HT
  go_wp2_with (refine bodyPost_ret (v:=.agg #[K O 0 0,I Q (-1),I Q (-1),I Q 0,I Q 0,I Q 11]) (w:=eH v w.heap.size (K O 0 0) (I Q (-1)) (I Q (-1)) (I Q 0) (I Q 0) (I Q 11)) ?hres rfl ?hpost)
  case hpost=>exact hC.out
  case hres=>
   generalize eH v w.heap.size (K O 0 0) (I Q (-1)) (I Q (-1)) (I Q 0) (I Q 0) (I Q 11)=v9 at *
   obtain⟨o0,o1,o2,o3,o4,o5⟩:=o1.oU
   simp[results,Tryz.results25,go_sem,o0,o1,o2,o3,o4,o5]
 ·clear hm
  simp only at h1 h2 h3
  obtain⟨n,rfl⟩:=Int.eq_ofNat_of_zero_le h1
  rw[Int.toNat_natCast] at h3
  obtain⟨g,off,rfl,hgl,f0,f1,f2,f3,f4,f5,f6,f7⟩:=hsl.at_ h3
  have d0:decide ((n:Int)<0)=V:=by simp
  have d1:decide ((n:Int)>=(k.l.length:Int))=V:=by simp;omega
  have d4:decide (k.l.length<=n)=V:=by simp;omega
  have d2:j.op<16:=CI (HX.out.lk.ok j (List.mem_of_getElem? h3)) h4
  have d3:(n:Int)<k.l.length:=h2
  clear hsl hS f1 f2 f3 f4 f5 f6 f7 h3 h4 h1
  go_quiet (fail)
  go_upto_region 4 with fail
  have hS3:=HS.out.below (aZ x nq)
  clear c0 c1 c2 c3 c4 c5 c6 c7 c8 cx0
  generalize x.drewN nq=v at *
  obtain⟨t0,t1,t2,t3,t4,t5⟩:=hS3.tr.oU
  have q5:=hS3.q
  have HT:=F hS3
  obtain⟨x0,x1,x2,x3,x4,x5⟩:=q5.oU
  have zf:=Bk.free q5
  have o1:=eB q5 (K O 0 0) (I Q (-1)) (I Q (-1)) (I Q 0) (I Q 0) (I Q 11)
  have o2:=bN (y:=v) (g:=w.heap.size) (K O 0 0) (I Q (-1)) (I Q (-1)) (I Q 0) (I Q 0) (I Q 11)
  have hC:=F (dk (Y:=Y) (r:=(m,iW)) (v:=K O 0 0) (dQ.nil _ _ _) HT.out.ey HT.out.st HT.out.q (by decide) o2 (M _) (fun i hi e=>by have:=HT.out.nn i hi;omega))
  clear hS3 o2 HT
  go_wp2_with (refine bodyPost_ret (v:=.agg #[K O 0 0,I Q (-1),I Q (-1),I Q 0,I Q 0,I Q 11]) (w:=eH v w.heap.size (K O 0 0) (I Q (-1)) (I Q (-1)) (I Q 0) (I Q 0) (I Q 11)) ?hres rfl ?hpost)
  case hpost=>exact hC.out
  case hres=>
   generalize eH v w.heap.size (K O 0 0) (I Q (-1)) (I Q (-1)) (I Q 0) (I Q 0) (I Q 11)=v9 at *
   obtain⟨o0,o1,o2,o3,o4,o5⟩:=o1.oU
   simp[results,Tryz.results25,go_sem,o0,o1,o2,o3,o4,o5]
end
end
