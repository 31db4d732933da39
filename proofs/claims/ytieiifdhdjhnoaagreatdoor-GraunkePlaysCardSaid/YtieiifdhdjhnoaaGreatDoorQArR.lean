import Derived.Test.YtieiifdhdjhnoaaGreatDoorQRunM
import Derived.Test.YtieiifdhdjhnoaaGreatDoorQWdA
import Derived.Test.YtieiifdhdjhnoaaGreatDoorQMem
import Derived.Test.YtieiifdhdjhnoaaGreatDoorQInstB
import Derived.Deep.DeepCutAuto
import Derived.Deep.CutBlock
import Derived.Deep.Onto
import Derived.Deep.LoopGhost
import Derived.Deep.QuietTactic
set_option linter.unusedVariables false
set_option maxHeartbeats 3000000
set_option maxRecDepth 100000
open Go.Value renaming int->Q,slice->J,pointer->H
open Go.IntKind renaming i64->O
open Option renaming none->Z,some->T
open Bool renaming false->U,true->K
open Go.Obj renaming cells->G
open Go.Lib renaming hid->E
open Go.RowKit.Below renaming refl->D
open Nat renaming le_refl->C
namespace Go.Proofs.YtieiifdhdjhnoaaGreatDoor
section
open Go.ChangeShapes Go.WideShapes Go.ChangeAt Go.RowKit
theorem Dm:(Tryz.prog.info? 151).map (fun i=>(i.zero,i.size,i.bytes))=T (T (.agg #[Q O 0,Q O 0]),2,16):=by kernel_rfl
theorem AZ (c:Nat×Nat):∀ u∈vQ c,u.oneCell'=K:=by
 intro u hu
 simp[vQ] at hu
 rcases hu with rfl|rfl <;> rfl
def Cs (base:Nat)(w:World)(v:Value)(l:List (Nat×Nat)):Prop:=w.ownsRow base 151 2 v l.length (kt l)
section
variable {base:Nat}{w w':World}{v:Value}{l:List (Nat×Nat)}
theorem Cs.nil (base:Nat)(w:World):Cs base w (J Z 0 0) []:=World.ownsRow_nil _ _ _ _
theorem Cs.within {S:Nat->Prop}(h:Cs base w v l)(hk:ag w w' S)(hn:∀ g,v.ownBlock=T g->¬ S g):Cs base w' v l:=ar h hk hn
theorem Cs.grown (h:Cs base w v l)(hg:w.grownBy w' Z):Cs base w' v l:=ar h (.aT (S:=fun _=>False) hg (by simp)) (by simp)
theorem Cs.lt (h:Cs base w v l){g:Nat}(e:v.ownBlock=T g):base<=g/\g<w.heap.size:=World.ownsRow.lt h g e
theorem Cs.only {t:TypeId}{g:Nat}{cs:Array Value}(h:Cs base w v l)(hg:zC w w' g)(hb:Bk w g t cs)(ht:t≠151):Cs base w' v l:=
 ar h (.aT (S:=fun b=>b=g) hg (by simp)) (fun b e e2=>by
  obtain⟨cs',hcs⟩:=aY h e
  subst e2
  exact hb.av hcs ht rfl)
theorem Cs.is (h:Cs base w v l):∃ a cap,v=J a l.length cap/\l.length<=cap/\cap<=maxLen/\(0<l.length->∃ g,a=T ⟨g,0,Z⟩/\v.ownBlock=T g/\base<=g/\g<w.heap.size/\(∀ i,w.frozen? ⟨g,i,Z⟩=U)/\∀ i c,l[i]?=T c->w.cell? ⟨g,i*2,Z⟩=T (Q O c.1)/\w.cell? ⟨g,i*2+1,Z⟩=T (Q O c.2)):=by
 obtain⟨a,cap,e,h1,h2,h3⟩:=aX h
 refine⟨a,cap,e,h1,h2,fun h0=>?_⟩
 obtain⟨g,e1,e2,e3,e4,e5,e6⟩:=h3 h0
 refine⟨g,e1,e2,e3,e4,e5,fun i c hi=>?_⟩
 have hlt:i<l.length:=(List.getElem?_eq_some_iff.1 hi).1
 obtain⟨q1,q2⟩:=tK l i c hi
 rw[e6 _ (by omega),e6 _ (by omega),q1,q2]
 exact⟨rfl,rfl⟩
end
def qf (w:World)(zs:List Int)(e:Ending)(w':World):Prop:=
 w.grownBy w' Z/\((fT zs/\∃ v,e=.returned (.tuple #[v,.bool (decide ((jP zs:Int)<=8192))])/\Cs w.heap.size w' v (oX zs))\/(¬ fT zs/\e=.returned (.tuple #[J Z 0 0,.bool U])))
theorem we {zs:List Int}:∀ k,(∀ i,i<k->0<=aD zs i/\aD zs i<=4096)->pre zs k<=4096*k
 | 0,_=>C _
 | k+1,h=>by
  have h1:=we k fun i hi=>h i (by omega)
  have h2:=h k (by omega)
  rw[je];unfold sz;omega
theorem Dl {w wr:World}{o:Value}{zs:List Int}{k i:Nat}(ho:Cs w.heap.size wr o (dV zs k i))(hg:w.grownBy wr Z)(w':World)(v':Value)(h1:w'.ownsRow w.heap.size 151 2 v' ((dV zs k i).length+1) (kt (dV zs k i)++vQ (k,i)))
 (h2:(wr.alloc (G #[Q O k,Q O i] 151)).grownBy w' o.ownBlock):Cs w.heap.size w' v' (dV zs k (i+1))/\w.grownBy w' Z:=by
 constructor
 ·unfold Cs
  rw[qC,vt,List.length_append]
  exact h1
 ·exact cF (cF hg (dY _ _ Z) (.inl rfl)) h2 (.inr fun x e=>(ho.lt e).1)
theorem Bh {w:World}{a:Option Addr}{zs:List Int}(h:dQ .i64 w a zs)(hm:zs.length<=maxLen)(cap:Nat):
 Calls Tryz.prog 33 #[J a zs.length cap] w (qf w zs):=by
 unfold maxLen at hm
 by_cases h8:8<zs.length
 ·go_enter Tryz.func33,Tryz.ntmps33
  go_wp2
  go_ret2
  exact⟨gj _ _,.inr ⟨fun hz=>by have:=hz.1;omega,rfl⟩⟩
 go_enter Tryz.func33,Tryz.ntmps33
 go_wp2
 go_loopw [4,13] (fun o t wr=>∃ k:Nat,k<=zs.length/\t=Q O k/\Hid (∀ i,i<k->0<=aD zs i/\aD zs i<=4096)/\Cs w.heap.size wr o (jO zs k)/\w.grownBy wr Z) (fun _ t _=>zs.length-(intOf t).toNat)
 case atStart=>exact⟨0,Nat.zero_le _,rfl,E (fun i hi=>by omega),Cs.nil _ _,gj _ _⟩
 case round=>
  obtain⟨k,hk,rfl,HA,ho,hg⟩:=hrel
  by_cases hlt:k<zs.length
  ·obtain⟨b,off,rfl,hc⟩:=(h.grown hg).here hlt
   rcases(show aD zs k<0\/(0<=aD zs k/\4096<aD zs k)\/(0<=aD zs k/\aD zs k<=4096) by omega) with h1 | h1 | h1
   ·go_wp2
    go_ret2
    exact⟨hg,.inr ⟨fun hz=>by have:=hz.2 k hlt;omega,rfl⟩⟩
   ·go_wp2
    go_ret2
    exact⟨hg,.inr ⟨fun hz=>by have:=hz.2 k hlt;omega,rfl⟩⟩
   ·obtain⟨n,hn⟩:∃ n,sz zs k=n:=⟨_,rfl⟩
    have hzn:aD zs k=(n:Int):=by unfold sz at hn;omega
    have hn4:n<=4096:=by omega
    rw[hzn] at hc
    have HZ:=E hzn
    have HN:=E hn
    have hpk:=we k HA.out
    have HP:Hid (pre zs k<=40000):=E (by omega)
    rw[<-yQ] at ho
    clear h1 hzn hn hpk
    go_wp2
    go_loopw [4,7] (fun o t wr=>∃ i:Nat,i<=n/\t=Q O i/\Cs w.heap.size wr o (dV zs k i)/\w.grownBy wr Z) (fun _ t _=>n-(intOf t).toNat)
    case atStart=>exact⟨0,Nat.zero_le _,rfl,ho,hg⟩
    case round=>
     clear ho hg hc
     obtain⟨i,hi,rfl,ho,hg⟩:=hrel
     by_cases hin:i<n
     ·have HO:=E (World.ownsRow.alloc ho (G #[Q O k,Q O i] 151))
      have HNW:Hid (∀ (j:Nat) (u:Value),(vQ (k,i))[j]?=T u->(wr.alloc (G #[Q O k,Q O i] 151)).cell? ((⟨wr.heap.size,0,Z⟩:Addr).add j)=T u):=E (fB (Bk.made wr 151 #[Q O k,Q O i]))
      have HBS:Hid (w.heap.size<=(wr.alloc (G #[Q O k,Q O i] 151)).heap.size):=E (by rw[World.size_alloc];have:=hg.size;omega)
      have HL:Hid ((dV zs k i).length<100000):=E (by rw[sC];have:=HP.out;omega)
      have HEND:=E (Dl (k:=k) (i:=i) ho hg)
      clear ho hg
      go_wp2_with (at_builtin;refine tV rfl _ _ 76 rfl _ 16 Tryz.underlying76 Dm rfl (by omega) (by omega) HO.out rfl (vQ (k,i)) rfl (AZ _) wr.heap.size rfl HNW.out HL.out HBS.out ?_;intro v' w' hown hgr hloc)
      obtain⟨s1,s2⟩:=HEND.out _ _ hown hgr
      go_roundw
      case rel=>exact⟨i+1,by omega,by go_num,s1,s2⟩
      case measure=>simp[intOf];omega
     ·obtain rfl:i=n:=by omega
      rw[<-HN.out,sD] at ho
      go_wp2
      go_roundw
      case rel=>
       refine⟨k+1,by omega,by go_num,E fun j hj=>?_,ho,hg⟩
       by_cases e:j=k
       ·subst e;have:=HZ.out;omega
       ·exact HA.out j (by omega)
      case measure=>simp[intOf];omega
  ·obtain rfl:k=zs.length:=by omega
   have hz:fT zs:=⟨by omega,HA.out⟩
   obtain⟨oa,oc,rfl,_,hoc,_⟩:=ho.is
   rw[show jO zs zs.length=oX zs from rfl,jh] at *
   have ht:=vC hz
   go_wp2
   go_ret2
   exact⟨hg,.inl ⟨hz,_,rfl,ho⟩⟩
section
variable {base:Nat}{w:World}{v:Value}{zs:List Int}
theorem FQ (h:Cs base w v (oX zs))(hz:fT zs)(A P:Nat)(x:Int)(h0:0<=x)(h1:x<4294967296)(hA:A<zs.length)(hP:P<sz zs A)(hx:x % 4096=P):
 Calls Tryz.prog 54 #[v,Q O A,Q .u32 x] w fun e w'=>e=.returned (Q O ((pre zs A+P:Nat):Int))/\w.grownBy w' Z:=by
 obtain⟨a,cap,rfl,hlc,hcm,hat⟩:=h.is
 have hlt:=Bi hA hP
 rw[jh] at *
 obtain⟨g,rfl,_,_,hgl,hfr,hcl⟩:=hat (by omega)
 have ht:=vC hz
 go_enter Tryz.func54,Tryz.ntmps54
 go_wp2
 go_loopw [11] (fun t wr=>∃ k:Nat,k<=pre zs A+P/\t=Q O k/\w.grownBy wr Z) (fun t _=>jP zs-(intOf t).toNat)
 case atStart=>exact⟨0,Nat.zero_le _,rfl,gj _ _⟩
 case round=>
  obtain⟨k,hk,rfl,hg⟩:=hrel
  obtain⟨ca,cp,q1,q2,q3⟩:=pm (zs:=zs) (i:=k) (by omega)
  obtain⟨c1,c2⟩:=hcl k (ca,cp) (by rw[q3];exact mY q1 q2)
  have d1:=((aQ hg).cell (p:=⟨g,k*2,Z⟩) hgl).trans c1
  have d2:=((aQ hg).cell (p:=⟨g,k*2+1,Z⟩) hgl).trans c2
  simp only at d1 d2
  have hkt:k<jP zs:=by omega
  have HQ:=E q3
  clear q3 hcl hat
  have hgn:w.grownBy (wr.alloc (G #[Q O ca,Q O cp] 151)) Z:=cF hg (dY _ _ Z) (.inl rfl)
  by_cases e:ca=A
  ·subst e
   by_cases e2:cp=P
   ·subst e2
    have t2:((cp:Int)==x % 4096)=K:=by simp;omega
    go_wp2
    go_ret
    exact⟨cr (by have:=HQ.out;omega),hgn⟩
   ·have t2:((cp:Int)==x % 4096)=U:=by simp;omega
    go_wp2
    go_roundw
    case rel=>exact⟨k+1,by have:=HQ.out;omega,by go_num,hgn⟩
    case measure=>simp[intOf];omega
  ·have t1:((ca:Int)==(A:Int))=U:=by simp;omega
   have hne:k≠pre zs A+P:=fun e3=>by
    have u1:=mY q1 q2
    have u2:=mY hA hP
    rw[<-HQ.out,e3,u2] at u1
    simp at u1
    exact e u1.1.symm
   go_wp2
   go_roundw
   case rel=>exact⟨k+1,by omega,by go_num,hgn⟩
   case measure=>simp[intOf];omega
theorem Cy (h:Cs base w v (oX zs))(hz:fT zs)(area x:Int)(h0:0<=x)(h1:x<4294967296)(hno:area<0\/(zs.length:Int)<=area\/(sz zs area.toNat:Int)<=x % 4096):
 Calls Tryz.prog 54 #[v,Q O area,Q .u32 x] w fun e w'=>e=.returned (Q O (-1))/\w.grownBy w' Z:=by
 obtain⟨a,cap,rfl,hlc,hcm,hat⟩:=h.is
 rw[jh] at *
 have ht:=vC hz
 have HNO:=E hno
 clear hno
 go_enter Tryz.func54,Tryz.ntmps54
 go_wp2
 go_loopw [11] (fun t wr=>∃ k:Nat,k<=jP zs/\t=Q O k/\w.grownBy wr Z) (fun t _=>jP zs-(intOf t).toNat)
 case atStart=>exact⟨0,Nat.zero_le _,rfl,gj _ _⟩
 case round=>
  obtain⟨k,hk,rfl,hg⟩:=hrel
  by_cases hkt:k<jP zs
  ·obtain⟨g,rfl,_,_,hgl,hfr,hcl⟩:=hat (by omega)
   obtain⟨ca,cp,q1,q2,q3⟩:=pm hkt
   obtain⟨c1,c2⟩:=hcl k (ca,cp) (by rw[q3];exact mY q1 q2)
   have d1:=((aQ hg).cell (p:=⟨g,k*2,Z⟩) hgl).trans c1
   have d2:=((aQ hg).cell (p:=⟨g,k*2+1,Z⟩) hgl).trans c2
   simp only at d1 d2
   clear q3 hcl hat
   have hgn:w.grownBy (wr.alloc (G #[Q O ca,Q O cp] 151)) Z:=cF hg (dY _ _ Z) (.inl rfl)
   by_cases e:(ca:Int)=area
   ·subst e
    have t2:((cp:Int)==x % 4096)=U:=by
     have:=HNO.out
     rw[Int.toNat_natCast] at this
     simp
     omega
    go_wp2
    go_roundw
    case rel=>exact⟨k+1,by omega,by go_num,hgn⟩
    case measure=>simp[intOf];omega
   ·have t1:((ca:Int)==area)=U:=by simpa using e
    go_wp2
    go_roundw
    case rel=>exact⟨k+1,by omega,by go_num,hgn⟩
    case measure=>simp[intOf];omega
  ·obtain rfl:k=jP zs:=by omega
   go_wp2
   go_ret
   exact⟨rfl,hg⟩
end
end
section
variable {k:Lk}{r:Rn}
theorem pU:∀ (l:List Nat),(∀ t∈l,r.act t=0)->l.foldl (bc k) r=r
 | [],_=>rfl
 | t :: l,h=>by
  rw[List.foldl_cons,gM (h t (by simp))]
  exact pU l (fun t ht=>h t (by simp[ht]))
theorem xJ (h:kj k.n r):dm k r k.n=r:=pU _ (fun t ht=>h t (by simpa using ht))
theorem wH:∀ (i F:Nat) (r:Rn),i<F->kj k.n (bD k.n (bc k) (i+1) r)->(∀ i',i'<i->¬ kj k.n (bD k.n (bc k) (i'+1) r))->fO k F r=(K,bD k.n (bc k) (i+1) r)
 | i,0,r,h,_,_=>absurd h (Nat.not_lt_zero _)
 | 0,F+1,r,h,h1,h2=>by
  have e:eD (dm k r k.n) k.n=U:=iC.2 h1
  rw[hG,if_pos e]
  rfl
 | i+1,F+1,r,h,h1,h2=>by
  have e:¬ eD (dm k r k.n) k.n=U:=fun e=>h2 0 (Nat.succ_pos _) (iC.1 e)
  rw[hG,if_neg e]
  exact wH i F (dm k r k.n) (by omega) h1 (fun i' hi'=>h2 (i'+1) (by omega))
theorem yg {i F:Nat}(hF:i<F)(h1:kj k.n (bD k.n (bc k) i r))(h2:∀ i',i'<i->¬ kj k.n (bD k.n (bc k) i' r)):fO k F r=(K,bD k.n (bc k) i r):=by
 match i,F,hF with
 | 0,F+1,_=>
  have e1:dm k r k.n=r:=xJ h1
  have e:eD (dm k r k.n) k.n=U:=iC.2 (by rw[e1];exact h1)
  rw[hG,if_pos e,e1]
  rfl
 | i+1,F,hF=>exact wH i F r (by omega) h1 (fun i' hi'=>h2 (i'+1) (by omega))
end
section
open Go.ChangeShapes Go.WideShapes Go.ChangeAt Go.RowKit
def Sv (w:World)(v:Value)(c:gp)(zs init r7:List Int)(each:Int):Prop:=
 ∃ aL cL aS cS aI cI aR cR,v=.agg #[J aL c.l.length cL,Q O c.lo,Q O c.un,J aS zs.length cS,J aI init.length cI,Q O each,J aR r7.length cR]/\
  Pv w (.agg #[J aL c.l.length cL,Q O c.lo,Q O c.un]) c/\dQ .i64 w aS zs/\dQ .u32 w aI init/\dQ .u32 w aR r7/\zs.length<=maxLen/\init.length<=maxLen/\r7.length<=maxLen
theorem dQ.below {k:IntKind}{w w':World}{a:Option Addr}{xs:List Int}(h:dQ k w a xs)(hb:Below w.heap.size w w'):dQ k w' a xs:=by
 intro h0
 obtain⟨b,off,e,hlt,hc⟩:=h h0
 exact⟨b,off,e,Nat.lt_of_lt_of_le hlt hb.size,fun i hi=>(hb.cell (p:=⟨b,off+i,Z⟩) hlt).trans (hc i hi)⟩
theorem Sv.below {w w':World}{v:Value}{c:gp}{zs init r7:List Int}{each:Int}(h:Sv w v c zs init r7 each)(hb:Below w.heap.size w w'):Sv w' v c zs init r7 each:=by
 obtain⟨aL,cL,aS,cS,aI,cI,aR,cR,e,h1,h2,h3,h4,h5⟩:=h
 exact⟨aL,cL,aS,cS,aI,cI,aR,cR,e,h1.below hb,h2.below hb,h3.below hb,h4.below hb,h5⟩
theorem dw {W W':World}{base n sz:Nat}{t:TypeId}{v:Value}{xs:List Value}(h:W.ownsRow base t sz v n xs)(hb:Below W.heap.size W W'):W'.ownsRow base t sz v n xs:=ar h (af hb) (by simp)
theorem ie {W W':World}{base n sz b:Nat}{t u:TypeId}{v:Value}{xs:List Value}{cs:Array Value}(h:W.ownsRow base t sz v n xs)(hw:ag W W' (fun i=>i=b))(hb:Bk W b u cs)(hne:t≠u):W'.ownsRow base t sz v n xs:=
 ar h hw fun g e e2=>by
  obtain⟨cs',hcs⟩:=aY h e
  exact Bk.av hcs hb hne e2
def nB (y:World)(g:Nat)(a b c d e f h:Value):World:=((((((y.setCell ⟨g,0,Z⟩ a).setCell ⟨g,1,Z⟩ b).setCell ⟨g,2,Z⟩ c).setCell ⟨g,3,Z⟩ d).setCell ⟨g,4,Z⟩ e).setCell ⟨g,5,Z⟩ f).setCell ⟨g,6,Z⟩ h
theorem kX {y:World}{g:Nat}{t:TypeId}{x0 x1 x2 x3 x4 x5 x6:Value}(hb:Bk y g t #[x0,x1,x2,x3,x4,x5,x6])(a b c d e f h:Value):Bk (nB y g a b c d e f h) g t #[a,b,c,d,e,f,h]:=by
 have h8:=((((((hb.put 0 a).put 1 b).put 2 c).put 3 d).put 4 e).put 5 f).put 6 h
 unfold nB
 simpa only[List.setIfInBounds_toArray,List.set_cons_zero,List.set_cons_succ] using h8
theorem gO {y:World}{g:Nat}(a b c d e f h:Value):ag y (nB y g a b c d e f h) (fun i=>i=g):=by
 unfold nB
 exact(((((((ag.refl y (fun i=>i=g)).put g 0 a (.inl rfl)).put g 1 b (.inl rfl)).put g 2 c (.inl rfl)).put g 3 d (.inl rfl)).put g 4 e (.inl rfl)).put g 5 f (.inl rfl)).put g 6 h (.inl rfl)
theorem gh {B:Nat}{w y:World}{g:Nat}(hb:Below B w y)(hg:B<=g)(a b c d e f h:Value):Below B w (nB y g a b c d e f h):=
 ((((((hb.setCell hg _).setCell hg _).setCell hg _).setCell hg _).setCell hg _).setCell hg _).setCell hg _
def Rv (base:Nat)(w:World)(v:Value)(c:gp)(zs init r7:List Int)(each:Int):Prop:=
 ∃ sl aS cS aI cI aR cR,v=.agg #[sl,Q O c.lo,Q O c.un,J aS zs.length cS,J aI init.length cI,Q O each,J aR r7.length cR]/\
  w.ownsRow base 123 8 sl c.l.length (bu c.l)/\dQ .i64 w aS zs/\dQ .u32 w aI init/\dQ .u32 w aR r7/\zs.length<=maxLen/\init.length<=maxLen/\r7.length<=maxLen
theorem Rv.below {base:Nat}{w w':World}{v:Value}{c:gp}{zs init r7:List Int}{each:Int}(h:Rv base w v c zs init r7 each)(hb:Below w.heap.size w w'):Rv base w' v c zs init r7 each:=by
 obtain⟨sl,aS,cS,aI,cI,aR,cR,e,h1,h2,h3,h4,h5⟩:=h
 exact⟨sl,aS,cS,aI,cI,aR,cR,e,dw h1 hb,h2.below hb,h3.below hb,h4.below hb,h5⟩
theorem jB {w:World}{v:Value}{c:gp}{zs init r7:List Int}{each:Int}(hv:Sv w v c zs init r7 each)(hc:c.l.length<=1000):
 Calls Tryz.prog 11 #[v] w fun e w'=>∃ v',e=.returned v'/\Rv w.heap.size w' v' c zs init r7 each/\Below w.heap.size w w':=by
 obtain⟨aL,cL,aS,cS,aI,cI,aR,cR,rfl,hpv,hgS,hgI,hgR,hm1,hm2,hm3⟩:=hv
 have q0:=(Bk.made w 28 #[J aL c.l.length cL,Q O c.lo,Q O c.un,J aS zs.length cS,J aI init.length cI,Q O each,J aR r7.length cR]).alloc (G #[J Z 0 0,Q O 0,Q O 0,J Z 0 0,J Z 0 0,Q O 0,J Z 0 0] 36)
 have q1:=Bk.made (w.alloc (G #[J aL c.l.length cL,Q O c.lo,Q O c.un,J aS zs.length cS,J aI init.length cI,Q O each,J aR r7.length cR] 28)) 36 #[J Z 0 0,Q O 0,Q O 0,J Z 0 0,J Z 0 0,Q O 0,J Z 0 0]
 rw[World.size_alloc] at q1
 have b0:Below w.heap.size w ((w.alloc (G #[J aL c.l.length cL,Q O c.lo,Q O c.un,J aS zs.length cS,J aI init.length cI,Q O each,J aR r7.length cR] 28)).alloc (G #[J Z 0 0,Q O 0,Q O 0,J Z 0 0,J Z 0 0,Q O 0,J Z 0 0] 36)):=((D _ _).alloc (C _) _).alloc (by simp) _
 go_enter Tryz.func11,Tryz.ntmps11
 go_upto_region 1 with fail
 generalize (w.alloc (G #[J aL c.l.length cL,Q O c.lo,Q O c.un,J aS zs.length cS,J aI init.length cI,Q O each,J aR r7.length cR] 28)).alloc (G #[J Z 0 0,Q O 0,Q O 0,J Z 0 0,J Z 0 0,Q O 0,J Z 0 0] 36)=y at *
 have HRF:=E (fun W (hW:Below w.heap.size w W)=>FY c _ W (hpv.below hW) hc)
 have kx:∀ (W:World) (u:Value) (i j:Nat),(W.setCell ⟨w.heap.size+1,i,Z⟩ u).cell? ⟨w.heap.size,j,Z⟩=W.cell? ⟨w.heap.size,j,Z⟩:=fun W u i j=>fI (by omega)
 have HQ:Hid (∀ W,Below y.heap.size y W->Bk W w.heap.size 28 _/\Bk W (w.heap.size+1) 36 _/\Below w.heap.size w W):=E fun W hW=>⟨(hW.block _ q0.lt).trans q0,(hW.block _ q1.lt).trans q1,b0.trans (hW.mono b0.size)⟩
 obtain⟨f0,f1,f2,f3,f4,f5,f6⟩:=q0.lZ
 refine dT [12] (fun j W=>match j with | 0=>Below y.heap.size y W | _=>∃ sl,W.ownsRow w.heap.size 123 8 sl c.l.length (bu c.l)/\Bk W (w.heap.size+1) 36 #[sl,Q O c.lo,Q O c.un,J aS zs.length cS,J aI init.length cI,Q O each,J aR r7.length cR]/\Below w.heap.size w W) (fun _ W W2=>ag W W2 (fun i=>i=w.heap.size+1)/\Bk W (w.heap.size+1) 36 #[J Z 0 0,Q O 0,Q O 0,J Z 0 0,J Z 0 0,Q O 0,J Z 0 0]) (fun vs=>{ tmps:=#[.agg #[J aL c.l.length cL,Q O c.lo,Q O c.un,J aS zs.length cS,J aI init.length cI,Q O each,J aR r7.length cR],H (T ⟨w.heap.size,0,Z⟩),H (T ⟨w.heap.size+1,0,Z⟩),vs 0,vs 1,vs 2,vs 3,vs 4,vs 5,vs 6,vs 7,vs 8,vs 9,vs 10,vs 11],defers:=[] }) (nD [(2,(fun v W=>∃ sl,v=.agg #[sl,Q O c.lo,Q O c.un]/\W.ownsRow w.heap.size 123 8 sl c.l.length (bu c.l))),(11,(fun v W=>∃ sl,v=.agg #[sl,Q O c.lo,Q O c.un,J aS zs.length cS,J aI init.length cI,Q O each,J aR r7.length cR]/\W.ownsRow w.heap.size 123 8 sl c.l.length (bu c.l)))] [H (T ⟨w.heap.size,0,Z⟩),.agg #[J aL c.l.length cL,Q O c.lo,Q O c.un],undef,H (T ⟨w.heap.size,3,Z⟩),J aS zs.length cS,H (T ⟨w.heap.size,4,Z⟩),J aI init.length cI,H (T ⟨w.heap.size,5,Z⟩),Q O each,H (T ⟨w.heap.size,6,Z⟩),J aR r7.length cR,undef,undef]) ?ghm ?ghr ?ghc ?ghnd ?ghlit ?gh0 ?ghW ?ghF ?ghS ?gops ?gdone
 case ghm=>kernel_rfl
 case ghr=>kernel_rfl
 case ghc=>kernel_rfl
 case ghnd=>decide
 case ghlit=>intro vs;rfl
 case gh0=>exact D _ _
 case ghW=>exact fun kk W W2 h hb=>match kk,h with
  | 0,h=>h.trans (hb.mono h.size)
  | _+1,⟨sl,h1,h2,h3⟩=>⟨sl,dw h1 hb,(hb.block _ h2.lt).trans h2,h3.trans (hb.mono h3.size)⟩
 case ghF=>exact dW (by
  intro p0 hp
  simp only[List.mem_cons,List.not_mem_nil,or_false] at hp
  rcases hp with rfl|rfl
  ·rintro v W W2 ⟨sl,e,h⟩ hb;exact⟨sl,e,dw h hb⟩
  ·rintro v W W2 ⟨sl,e,h⟩ hb;exact⟨sl,e,dw h hb⟩)
 case ghS=>exact fun kk W W2 _ hs i v h=>jq (R:=fun W W2=>ag W W2 (fun i=>i=w.heap.size+1)/\Bk W (w.heap.size+1) 36 #[J Z 0 0,Q O 0,Q O 0,J Z 0 0,J Z 0 0,Q O 0,J Z 0 0]) (ps:=[(2,(fun v W=>∃ sl,v=.agg #[sl,Q O c.lo,Q O c.un]/\W.ownsRow w.heap.size 123 8 sl c.l.length (bu c.l))),(11,(fun v W=>∃ sl,v=.agg #[sl,Q O c.lo,Q O c.un,J aS zs.length cS,J aI init.length cI,Q O each,J aR r7.length cR]/\W.ownsRow w.heap.size 123 8 sl c.l.length (bu c.l)))]) (l:=[H (T ⟨w.heap.size,0,Z⟩),.agg #[J aL c.l.length cL,Q O c.lo,Q O c.un],undef,H (T ⟨w.heap.size,3,Z⟩),J aS zs.length cS,H (T ⟨w.heap.size,4,Z⟩),J aI init.length cI,H (T ⟨w.heap.size,5,Z⟩),Q O each,H (T ⟨w.heap.size,6,Z⟩),J aR r7.length cR,undef,undef]) (by
  intro p0 hp
  simp only[List.mem_cons,List.not_mem_nil,or_false] at hp
  rcases hp with rfl|rfl
  ·rintro v W W2 ⟨sl,e,h⟩ hs;exact⟨sl,e,ie h hs.1 hs.2 (by decide)⟩
  ·rintro v W W2 ⟨sl,e,h⟩ hs;exact⟨sl,e,ie h hs.1 hs.2 (by decide)⟩) i v W W2 h hs
 case gops=>
  refine⟨?_,?_,?_,?_,?_,?_,?_,?_,?_,?_,?_,?_,?_,trivial⟩
  ·intro vs W kk h1 h2 hW hd
   obtain rfl:kk=0:=Nat.le_zero.1 h2
   refine aa rfl ?_
   clear hd
   go_simp
   exact⟨rfl,D _ _⟩
  ·intro vs W kk h1 h2 hW hd
   obtain rfl:kk=0:=Nat.le_zero.1 h2
   refine aa rfl ?_
   have e0:vs 0=H (T ⟨w.heap.size,0,Z⟩):=hd 0 (by decide)
   have hq:=(HQ.out W hW).1;obtain⟨f0,f1,f2,f3,f4,f5,f6⟩:=hq.lZ;have hr:=(HQ.out W hW).2.1;obtain⟨z0,z1,z2,z3,z4,z5,z6⟩:=hr.lZ;have zf:=Bk.free hr;clear hq
   clear hd
   go_simp
   exact⟨rfl,D _ _⟩
  ·intro vs W kk h1 h2 hW hd
   obtain rfl:kk=0:=Nat.le_zero.1 h2
   refine aa rfl ?_
   have e1:vs 1=.agg #[J aL c.l.length cL,Q O c.lo,Q O c.un]:=hd 1 (by decide)
   have HS:=E (HRF.out W (HQ.out W hW).2.2)
   have hsz:=(HQ.out W hW).2.2.size
   clear hd
   go_simp
   refine HS.out.mono ?_
   rintro e zz ⟨sl,he,ho,hb⟩
   exact⟨_,he,⟨sl,rfl,World.ownsRow.mono (base':=w.heap.size) ho hsz⟩,hb⟩
  ·intro vs W kk h1 h2 hW hd
   obtain rfl:kk=0:=Nat.le_zero.1 h2
   refine aa rfl ?_
   clear hd
   go_simp
   exact⟨rfl,D _ _⟩
  ·intro vs W kk h1 h2 hW hd
   obtain rfl:kk=0:=Nat.le_zero.1 h2
   refine aa rfl ?_
   have e3:vs 3=H (T ⟨w.heap.size,3,Z⟩):=hd 3 (by decide)
   have hq:=(HQ.out W hW).1;obtain⟨f0,f1,f2,f3,f4,f5,f6⟩:=hq.lZ;have hr:=(HQ.out W hW).2.1;obtain⟨z0,z1,z2,z3,z4,z5,z6⟩:=hr.lZ;have zf:=Bk.free hr;clear hq
   clear hd
   go_simp
   exact⟨rfl,D _ _⟩
  ·intro vs W kk h1 h2 hW hd
   obtain rfl:kk=0:=Nat.le_zero.1 h2
   refine aa rfl ?_
   clear hd
   go_simp
   exact⟨rfl,D _ _⟩
  ·intro vs W kk h1 h2 hW hd
   obtain rfl:kk=0:=Nat.le_zero.1 h2
   refine aa rfl ?_
   have e5:vs 5=H (T ⟨w.heap.size,4,Z⟩):=hd 5 (by decide)
   have hq:=(HQ.out W hW).1;obtain⟨f0,f1,f2,f3,f4,f5,f6⟩:=hq.lZ;have hr:=(HQ.out W hW).2.1;obtain⟨z0,z1,z2,z3,z4,z5,z6⟩:=hr.lZ;have zf:=Bk.free hr;clear hq
   clear hd
   go_simp
   exact⟨rfl,D _ _⟩
  ·intro vs W kk h1 h2 hW hd
   obtain rfl:kk=0:=Nat.le_zero.1 h2
   refine aa rfl ?_
   clear hd
   go_simp
   exact⟨rfl,D _ _⟩
  ·intro vs W kk h1 h2 hW hd
   obtain rfl:kk=0:=Nat.le_zero.1 h2
   refine aa rfl ?_
   have e7:vs 7=H (T ⟨w.heap.size,5,Z⟩):=hd 7 (by decide)
   have hq:=(HQ.out W hW).1;obtain⟨f0,f1,f2,f3,f4,f5,f6⟩:=hq.lZ;have hr:=(HQ.out W hW).2.1;obtain⟨z0,z1,z2,z3,z4,z5,z6⟩:=hr.lZ;have zf:=Bk.free hr;clear hq
   clear hd
   go_simp
   exact⟨rfl,D _ _⟩
  ·intro vs W kk h1 h2 hW hd
   obtain rfl:kk=0:=Nat.le_zero.1 h2
   refine aa rfl ?_
   clear hd
   go_simp
   exact⟨rfl,D _ _⟩
  ·intro vs W kk h1 h2 hW hd
   obtain rfl:kk=0:=Nat.le_zero.1 h2
   refine aa rfl ?_
   have e9:vs 9=H (T ⟨w.heap.size,6,Z⟩):=hd 9 (by decide)
   have hq:=(HQ.out W hW).1;obtain⟨f0,f1,f2,f3,f4,f5,f6⟩:=hq.lZ;have hr:=(HQ.out W hW).2.1;obtain⟨z0,z1,z2,z3,z4,z5,z6⟩:=hr.lZ;have zf:=Bk.free hr;clear hq
   clear hd
   go_simp
   exact⟨rfl,D _ _⟩
  ·intro vs W kk h1 h2 hW hd
   obtain rfl:kk=0:=Nat.le_zero.1 h2
   refine aa rfl ?_
   have e4:vs 4=J aS zs.length cS:=hd 4 (by decide)
   have e6:vs 6=J aI init.length cI:=hd 6 (by decide)
   have e8:vs 8=Q O each:=hd 8 (by decide)
   have e10:vs 10=J aR r7.length cR:=hd 10 (by decide)
   obtain⟨sl,e2,ho⟩:∃ sl,vs 2=.agg #[sl,Q O c.lo,Q O c.un]/\W.ownsRow w.heap.size 123 8 sl c.l.length (bu c.l):=hd 2 (by decide)
   clear hd
   go_simp
   exact⟨⟨sl,rfl,ho⟩,D _ _⟩
  ·intro vs W hW hd
   obtain⟨sl,e11,ho⟩:∃ sl,vs 11=.agg #[sl,Q O c.lo,Q O c.un,J aS zs.length cS,J aI init.length cI,Q O each,J aR r7.length cR]/\W.ownsRow w.heap.size 123 8 sl c.l.length (bu c.l):=hd 11 (by decide)
   obtain⟨aL9,cL9,rfl,-⟩:=aX ho
   have hq:=(HQ.out W hW).1;obtain⟨f0,f1,f2,f3,f4,f5,f6⟩:=hq.lZ;have hr:=(HQ.out W hW).2.1;obtain⟨z0,z1,z2,z3,z4,z5,z6⟩:=hr.lZ;have zf:=Bk.free hr;clear hq
   refine bh rfl ?_
   clear hd
   go_simp
   exact⟨rfl,⟨J aL9 c.l.length cL9,ie ho (gO (y:=W) (g:=w.heap.size+1) (J aL9 c.l.length cL9) (Q O c.lo) (Q O c.un) (J aS zs.length cS) (J aI init.length cI) (Q O each) (J aR r7.length cR)) hr (by decide),kX hr (J aL9 c.l.length cL9) (Q O c.lo) (Q O c.un) (J aS zs.length cS) (J aI init.length cI) (Q O each) (J aR r7.length cR),gh (HQ.out W hW).2.2 (by omega) (J aL9 c.l.length cL9) (Q O c.lo) (Q O c.un) (J aS zs.length cS) (J aI init.length cI) (Q O each) (J aR r7.length cR)⟩,gO (y:=W) (g:=w.heap.size+1) (J aL9 c.l.length cL9) (Q O c.lo) (Q O c.un) (J aS zs.length cS) (J aI init.length cI) (Q O each) (J aR r7.length cR)⟩
 case gdone=>
  intro vs W hW hf
  have f0:vs 0=H (T ⟨w.heap.size,0,Z⟩):=hf 0 (by decide)
  have f1:vs 1=.agg #[J aL c.l.length cL,Q O c.lo,Q O c.un]:=hf 1 (by decide)
  have f3:vs 3=H (T ⟨w.heap.size,3,Z⟩):=hf 3 (by decide)
  have f4:vs 4=J aS zs.length cS:=hf 4 (by decide)
  have f5:vs 5=H (T ⟨w.heap.size,4,Z⟩):=hf 5 (by decide)
  have f6:vs 6=J aI init.length cI:=hf 6 (by decide)
  have f7:vs 7=H (T ⟨w.heap.size,5,Z⟩):=hf 7 (by decide)
  have f8:vs 8=Q O each:=hf 8 (by decide)
  have f9:vs 9=H (T ⟨w.heap.size,6,Z⟩):=hf 9 (by decide)
  have f10:vs 10=J aR r7.length cR:=hf 10 (by decide)
  simp only[f0,f1,f3,f4,f5,f6,f7,f8,f9,f10]
  clear f0 f1 f3 f4 f5 f6 f7 f8 f9 f10
  obtain⟨sl,ho,hB,hb⟩:∃ sl,W.ownsRow w.heap.size 123 8 sl c.l.length (bu c.l)/\Bk W (w.heap.size+1) 36 #[sl,Q O c.lo,Q O c.un,J aS zs.length cS,J aI init.length cI,Q O each,J aR r7.length cR]/\Below w.heap.size w W:=hW
  clear hf HQ HRF kx f0 f1 f2 f3 f4 f5 f6 q0 q1
  obtain⟨f0,f1,f2,f3,f4,f5,f6⟩:=hB.lZ
  go_wp
  exact bodyPost_ret (v:=.agg #[sl,Q O c.lo,Q O c.un,J aS zs.length cS,J aI init.length cI,Q O each,J aR r7.length cR]) (by simp[results,Tryz.results11,go_sem,f0,f1,f2,f3,f4,f5,f6]) rfl ⟨_,rfl,⟨sl,aS,cS,aI,cI,aR,cR,rfl,ho,hgS.below hb,hgI.below hb,hgR.below hb,hm1,hm2,hm3⟩,hb⟩
def gu (y:World)(g:Nat)(a b c d e f h i j:Value):World:=((((((((y.setCell ⟨g,0,Z⟩ a).setCell ⟨g,1,Z⟩ b).setCell ⟨g,2,Z⟩ c).setCell ⟨g,3,Z⟩ d).setCell ⟨g,4,Z⟩ e).setCell ⟨g,5,Z⟩ f).setCell ⟨g,6,Z⟩ h).setCell ⟨g,7,Z⟩ i).setCell ⟨g,8,Z⟩ j
theorem jE {y:World}{g:Nat}{t:TypeId}{x0 x1 x2 x3 x4 x5 x6 x7 x8:Value}(hb:Bk y g t #[x0,x1,x2,x3,x4,x5,x6,x7,x8])(a b c d e f h i j:Value):Bk (gu y g a b c d e f h i j) g t #[a,b,c,d,e,f,h,i,j]:=by
 have h8:=((((((((hb.put 0 a).put 1 b).put 2 c).put 3 d).put 4 e).put 5 f).put 6 h).put 7 i).put 8 j
 unfold gu
 simpa only[List.setIfInBounds_toArray,List.set_cons_zero,List.set_cons_succ] using h8
theorem fg {B:Nat}{w y:World}{g:Nat}(hb:Below B w y)(hg:B<=g)(a b c d e f h i j:Value):Below B w (gu y g a b c d e f h i j):=
 ((((((((hb.setCell hg _).setCell hg _).setCell hg _).setCell hg _).setCell hg _).setCell hg _).setCell hg _).setCell hg _).setCell hg _
theorem sQ {y:World}{g b:Nat}{t:TypeId}{cs:Array Value}(hk:Bk y b t cs)(hne:b≠g)(a' b' c d e f h i j:Value):Bk (gu y g a' b' c d e f h i j) b t cs:=
 ((((((((hk.off hne _).off hne _).off hne _).off hne _).off hne _).off hne _).off hne _).off hne _).off hne _
def dE (xs:List Int)(pc:Int):List Value:=xs.map (Value.int .i64)++[Q O pc]
def rv (xs:List Int)(pc:Int):Value:=.agg (dE xs pc).toArray
theorem Ch {xs:List Int}{pc:Int}(h:xs.length=8){k:Nat}(hk:k<8):(dE xs pc).toArray[k]?=T (Q O (aD xs k)):=by
 rw[List.getElem?_toArray,dE,List.getElem?_append_left (by simp;omega),List.getElem?_map,iH (by omega)]
 rfl
theorem Cg {xs:List Int}{pc:Int}(h:xs.length=8):(dE xs pc).toArray[8]?=T (Q O pc):=by
 rw[List.getElem?_toArray,dE,List.getElem?_append_right (by simp;omega)]
 simp[h]
theorem Ad {xs:List Int}{pc:Int}(h:xs.length=8)(k:Nat)(hk:k<8)(v:Int):(dE xs pc).toArray.setIfInBounds k (Q O v)=(dE (xs.set k v) pc).toArray:=by
 rw[List.setIfInBounds_toArray,dE,dE,List.set_append_left _ _ (by simp;omega),List.map_set]
theorem ul {xs:List Int}{pc:Int}(h:xs.length=8)(v:Int):(dE xs pc).toArray.setIfInBounds 8 (Q O v)=(dE xs v).toArray:=by
 rw[List.setIfInBounds_toArray,dE,dE,List.set_append_right _ _ (by simp;omega)]
 simp[h]
def Rb (w:World)(g:Nat)(xs:List Int)(pc:Int):Prop:=Bk w g 111 (dE xs pc).toArray
section
variable {w w':World}{g:Nat}{xs:List Int}{pc:Int}
theorem Rb.made (w:World)(xs:List Int)(pc:Int):Rb (w.alloc (G (dE xs pc).toArray 111)) w.heap.size xs pc:=Bk.made _ _ _
theorem Rb.at_ (h:Rb w g xs pc)(h8:xs.length=8){k:Nat}(hk:k<8):w.cell? ⟨g,k,Z⟩=T (Q O (aD xs k)):=(Bk.cell h k).trans (Ch h8 hk)
theorem Rb.place (h:Rb w g xs pc)(h8:xs.length=8):w.cell? ⟨g,8,Z⟩=T (Q O pc):=(Bk.cell h 8).trans (Cg h8)
theorem Rb.cells {r0 r1 r2 r3 r4 r5 r6 r7:Int}(h:Rb w g [r0,r1,r2,r3,r4,r5,r6,r7] pc):
 w.cell? ⟨g,0,Z⟩=T (Q O r0)/\w.cell? ⟨g,1,Z⟩=T (Q O r1)/\w.cell? ⟨g,2,Z⟩=T (Q O r2)/\w.cell? ⟨g,3,Z⟩=T (Q O r3)/\
 w.cell? ⟨g,4,Z⟩=T (Q O r4)/\w.cell? ⟨g,5,Z⟩=T (Q O r5)/\w.cell? ⟨g,6,Z⟩=T (Q O r6)/\w.cell? ⟨g,7,Z⟩=T (Q O r7)/\w.cell? ⟨g,8,Z⟩=T (Q O pc):=
 ⟨Bk.cell h 0,Bk.cell h 1,Bk.cell h 2,Bk.cell h 3,Bk.cell h 4,Bk.cell h 5,Bk.cell h 6,Bk.cell h 7,Bk.cell h 8⟩
theorem Rb.below (h:Rb w g xs pc)(hb:Below w.heap.size w w'):Rb w' g xs pc:=(hb.block g (Bk.lt h)).trans h
theorem Rb.set (h:Rb w g xs pc)(h8:xs.length=8){k:Nat}(hk:k<8)(v:Int):Rb (w.setCell ⟨g,k,Z⟩ (Q O v)) g (xs.set k v) pc:=by
 unfold Rb
 rw[<-Ad h8 k hk v]
 exact Bk.put h k _
theorem Rb.zi (h:Rb w g xs pc)(h8:xs.length=8)(v:Int):Rb (w.setCell ⟨g,8,Z⟩ (Q O v)) g xs v:=by
 unfold Rb
 rw[<-ul h8 v]
 exact Bk.put h 8 _
end
theorem Gj (k:Nat)(h:k<=61):(1:Int)<=2 ^ k/\(2:Int) ^ k<=2305843009213693952/\(2:Int) ^ (k+1)=2 ^ k*2:=by
 have a:=Nat.one_le_two_pow (n:=k)
 have b:=Nat.pow_le_pow_right (n:=2) (by omega) h
 have e:((2 ^ k:Nat):Int)=(2:Int) ^ k:=by simp
 exact⟨by omega,by omega,Int.pow_succ 2 k⟩
theorem Fd (n:Nat)(hn:n<=62)(w:World):Calls Tryz.prog 154 #[Q O n] w fun e w'=>e=.returned (Q O (2 ^ n))/\w=w':=by
 go_enter Tryz.func154,Tryz.ntmps154
 go_wp2
 go_loopw [3,4] (fun x i wr=>∃ k:Nat,x=Q O (2 ^ k)/\i=Q O k/\k<=n/\wr=w) (fun _ i _=>n-(intOf i).toNat)
 case atStart=>exact⟨0,rfl,rfl,Nat.zero_le _,rfl⟩
 case round=>
  obtain⟨k,rfl,rfl,hk,rfl⟩:=hrel
  by_cases hlt:k<n
  ·have hki:(k:Int)<n:=by omega
   obtain⟨p0,p1,p2⟩:=Gj k (by omega)
   have HP:=E p2
   clear p2
   generalize (2:Int) ^ k=p at *
   go_wp2
   go_roundw
   case rel=>exact⟨k+1,by rw[HP.out],rfl,by omega,trivial⟩
   case measure=>
    show n-((k:Int)+1).toNat<n-(k:Int).toNat
    omega
  ·have hki:¬ (k:Int)<n:=by omega
   obtain rfl:k=n:=by omega
   go_wp2
   go_ret
   exact⟨rfl,rfl⟩
theorem BA (x k:Nat):x / 2 ^ k % 2=0\/x / 2 ^ k % 2=1:=by omega
theorem tw (x k:Nat)(hx:(x:Int)<4294967296):(wrap64 ((x:Int) / 2 ^ k)).tmod 2=((x / 2 ^ k % 2:Nat):Int):=by
 have e:(x:Int) / 2 ^ k=((x / 2 ^ k:Nat):Int):=by simp
 have hle:x / 2 ^ k<=x:=Nat.div_le_self _ _
 rw[e]
 generalize x / 2 ^ k=q at *
 rw[IntWalk.wrap64_in _ (by omega),Int.tmod_eq_emod_of_nonneg (by omega)]
 omega
theorem DL (a b:Int)(both:Bool)(h0:0<=a)(h1:a<4294967296)(h2:0<=b)(h3:b<4294967296)(w:World):
 Calls Tryz.prog 153 #[Q O a,Q O b,Q O (if both then 1 else 0)] w fun e w'=>e=.returned (Q O (if both then nF a b else Dw a b))/\∃ m,w'=w.drewN m:=by
 have HE:=E (Dt both a b h0 h1 h2 h3)
 generalize (if both then nF a b else Dw a b)=R at *
 obtain⟨x,rfl⟩:∃ n:Nat,a=n:=⟨a.toNat,by omega⟩
 obtain⟨y,rfl⟩:∃ n:Nat,b=n:=⟨b.toNat,by omega⟩
 simp only[Int.toNat_natCast] at HE
 have HW:=E (fun(k:Nat) (hk:k<=62) (W:World)=>(Fd k hk W).mono fun e w' ⟨he,hw⟩=>(show e=Ending.returned (Q O (2 ^ k))/\w'=W from⟨he,hw.symm⟩))
 have HL:=E (wM both x y)
 have HB:=E (show ∀ k,lu both x y (k+1)=lu both x y k+(if (if both then x / 2 ^ k % 2+y / 2 ^ k % 2=2 else 0<x / 2 ^ k % 2+y / 2 ^ k % 2) then 2 ^ k else 0) from fun k=>rfl)
 generalize hbo:(if both=K then (1:Int) else 0)=bo
 go_enter Tryz.func153,Tryz.ntmps153
 go_wp2
 go_loopw [7,8] (fun o i wr=>∃ k m:Nat,o=Q O (lu both x y k:Nat)/\i=Q O k/\k<=32/\wr=w.drewN m) (fun _ i _=>32-(intOf i).toNat)
 case atStart=>exact⟨0,0,rfl,rfl,Nat.zero_le _,rfl⟩
 case round=>
  obtain⟨k,m,rfl,rfl,hk,hwr⟩:=hrel
  have HWr:=E hwr
  clear hwr
  by_cases hlt:k<32
  ·have hki:(k:Int)<32:=by omega
   obtain⟨p0,p1,p2⟩:=Gj k (by omega)
   have HS:=E (HB.out k)
   have hBk:((lu both x y k:Nat):Int)<4294967296:=by
    have:=Nat.pow_le_pow_right (n:=2) (by omega) (show k<=32 by omega)
    have:=HL.out k
    omega
   have hBk0:(0:Int)<=((lu both x y k:Nat):Int):=by omega
   have HW2:=E (HW.out k (by omega))
   have EA:=tw x k h1
   have EB:=tw y k h3
   have HA:=E (BA x k)
   have HBB:=E (BA y k)
   have HE1:=E EA
   have HE2:=E EB
   clear p2 HE HB HL HW EA EB
   go_upto_region 5 with fail
   go_quiet ((go_at_call 154;with_reducible exact Calls.quiet_of_same (HW2.out _)))
   rw[HE1.out,HE2.out]
   replace HWr:Hid (∃ q,wr.drewN nq=w.drewN q):=E ⟨m+nq,by rw[HWr.out];simp[World.drewN,Nat.add_assoc]⟩
   generalize wr.drewN nq=wr at *
   have HA2:=HA.out
   have HB2:=HBB.out
   generalize x / 2 ^ k % 2=A at *
   generalize y / 2 ^ k % 2=B at *
   clear HE1 HE2 HA HBB
   cases both
   ·obtain rfl:bo=0:=by rw[<-hbo];rfl
    clear hbo
    simp only[Bool.false_eq_true,if_false] at HS
    rcases HA2 with rfl|rfl <;> rcases HB2 with rfl|rfl
    ·go_wp2
     obtain⟨q,hq⟩:=HWr.out
     go_roundw
     case rel=>exact⟨k+1,q,by rw[HS.out];simp,rfl,by omega,hq⟩
     case measure=>
      show 32-((k:Int)+1).toNat<32-(k:Int).toNat
      omega
    ·go_wp2_with fail
     refine(HW2.out _).mono ?_
     rintro e w' ⟨rfl,rfl⟩
     go_wp2
     obtain⟨q,hq⟩:=HWr.out
     go_roundw
     case rel=>exact⟨k+1,q,by rw[HS.out];simp,rfl,by omega,hq⟩
     case measure=>
      show 32-((k:Int)+1).toNat<32-(k:Int).toNat
      omega
    ·go_wp2_with fail
     refine(HW2.out _).mono ?_
     rintro e w' ⟨rfl,rfl⟩
     go_wp2
     obtain⟨q,hq⟩:=HWr.out
     go_roundw
     case rel=>exact⟨k+1,q,by rw[HS.out];simp,rfl,by omega,hq⟩
     case measure=>
      show 32-((k:Int)+1).toNat<32-(k:Int).toNat
      omega
    ·go_wp2_with fail
     refine(HW2.out _).mono ?_
     rintro e w' ⟨rfl,rfl⟩
     go_wp2
     obtain⟨q,hq⟩:=HWr.out
     go_roundw
     case rel=>exact⟨k+1,q,by rw[HS.out];simp,rfl,by omega,hq⟩
     case measure=>
      show 32-((k:Int)+1).toNat<32-(k:Int).toNat
      omega
   ·obtain rfl:bo=1:=by rw[<-hbo];rfl
    clear hbo
    simp only[if_true] at HS
    rcases HA2 with rfl|rfl <;> rcases HB2 with rfl|rfl
    ·go_wp2
     obtain⟨q,hq⟩:=HWr.out
     go_roundw
     case rel=>exact⟨k+1,q,by rw[HS.out];simp,rfl,by omega,hq⟩
     case measure=>
      show 32-((k:Int)+1).toNat<32-(k:Int).toNat
      omega
    ·go_wp2
     obtain⟨q,hq⟩:=HWr.out
     go_roundw
     case rel=>exact⟨k+1,q,by rw[HS.out];simp,rfl,by omega,hq⟩
     case measure=>
      show 32-((k:Int)+1).toNat<32-(k:Int).toNat
      omega
    ·go_wp2
     obtain⟨q,hq⟩:=HWr.out
     go_roundw
     case rel=>exact⟨k+1,q,by rw[HS.out];simp,rfl,by omega,hq⟩
     case measure=>
      show 32-((k:Int)+1).toNat<32-(k:Int).toNat
      omega
    ·go_wp2_with fail
     refine(HW2.out _).mono ?_
     rintro e w' ⟨rfl,rfl⟩
     go_wp2
     obtain⟨q,hq⟩:=HWr.out
     go_roundw
     case rel=>exact⟨k+1,q,by rw[HS.out];simp,rfl,by omega,hq⟩
     case measure=>
      show 32-((k:Int)+1).toNat<32-(k:Int).toNat
      omega
  ·have hki:¬ (k:Int)<32:=by omega
   obtain rfl:k=32:=by omega
   go_wp2
   go_ret
   exact⟨cr HE.out,_,HWr.out⟩
end
section
def da (x:mm):Nat->Bool
 | 0=>U
 | j+1=>da x j || ((x.r.act j != 0) || decide (0<x.left j))
theorem nz {x x':mm}:∀ {j:Nat},(∀ t,t<j->x'.r.act t=x.r.act t/\x'.left t=x.left t)->da x' j=da x j
 | 0,_=>rfl
 | j+1,h=>by
  unfold da
  rw[nz (fun t ht=>h t (by omega)),(h j (by omega)).1,(h j (by omega)).2]
theorem iB {x:mm}:∀ {n:Nat},da x n=U↔eY n x
 | 0=>⟨fun _ t ht=>by omega,fun _=>rfl⟩
 | n+1=>by
  unfold da
  rw[Bool.or_eq_false_iff,Bool.or_eq_false_iff,iB]
  constructor
  ·rintro⟨h1,h2,h3⟩ t ht
   by_cases e:t=n
   ·subst e
    exact⟨by simpa using h2,by simpa using h3⟩
   ·exact h1 t (by omega)
  ·intro h
   exact⟨fun t ht=>h t (by omega),by simpa using (h n (by omega)).1,by simpa using (h n (by omega)).2⟩
theorem rU {k:Lk}{x:mm}{t s:Nat}(h:s≠t):(bm k x t).r.act s=x.r.act s/\(bm k x t).left s=x.left s:=by
 unfold bm
 split
 ·exact⟨jG (by simp only;omega),ax h⟩
 ·exact⟨sK h,rfl⟩
def bg (k:Lk)(x:mm)(j:Nat):mm:=(List.range j).foldl (bm k) x
theorem pI (k:Lk)(x:mm):bg k x 0=x:=rfl
theorem bO (k:Lk)(x:mm)(j:Nat):bg k x (j+1)=bm k (bg k x j) j:=by
 unfold bg
 rw[List.range_succ,List.foldl_append];rfl
theorem iz (k:Lk)(x:mm)(j:Nat):da (bg k x (j+1)) (j+1)=(da (bg k x j) j || (((bg k x (j+1)).r.act j != 0) || decide (0<(bg k x (j+1)).left j))):=by
 show (da (bg k x (j+1)) j || _)=_
 rw[nz (fun t ht=>?_)]
 rw[bO]
 exact rU (by omega)
def fJ (k:Lk):Nat->mm->mm
 | 0,x=>x
 | f+1,x=>if da (bg k x k.n) k.n=U\/(bg k x k.n).r.bad=K then bg k x k.n else fJ k f (bg k x k.n)
theorem jo (k:Lk)(f:Nat)(x:mm):fJ k (f+1) x=if da (bg k x k.n) k.n=U\/(bg k x k.n).r.bad=K then bg k x k.n else fJ k f (bg k x k.n):=rfl
theorem xe (k:Lk)(x:mm):fJ k 0 x=x:=rfl
theorem vV {k:Lk}:∀ (i F:Nat) (x:mm),i<F->(∀ i',(bD k.n (bm k) i' x).r.bad=U)->eY k.n (bD k.n (bm k) (i+1) x)->(∀ i',i'<i->¬ eY k.n (bD k.n (bm k) (i'+1) x))->fJ k F x=bD k.n (bm k) (i+1) x
 | i,0,x,h,_,_,_=>absurd h (Nat.not_lt_zero _)
 | 0,F+1,x,h,_,h1,h2=>by
  have e:da (bg k x k.n) k.n=U:=iB.2 h1
  rw[jo,if_pos (.inl e)]
  rfl
 | i+1,F+1,x,h,hb,h1,h2=>by
  have e:¬ (da (bg k x k.n) k.n=U\/(bg k x k.n).r.bad=K):=by
   rintro(e | e)
   ·exact h2 0 (Nat.succ_pos _) (iB.1 e)
   ·have:=hb 1
    rw[show (bg k x k.n).r.bad=(bD k.n (bm k) 1 x).r.bad from rfl,this] at e
    cases e
  rw[jo,if_neg e]
  exact vV i F (bg k x k.n) (by omega) (fun i'=>hb (i'+1)) h1 (fun i' hi'=>h2 (i'+1) (by omega))
theorem xf {k:Lk}{x:mm}{i F:Nat}(hF:i<=F)(h0:0<F)(hb:∀ i',(bD k.n (bm k) i' x).r.bad=U)(h1:eY k.n (bD k.n (bm k) i x))(h2:∀ i',i'<i->¬ eY k.n (bD k.n (bm k) i' x)):fJ k F x=bD k.n (bm k) i x:=by
 match i,F,hF,h0 with
 | 0,F+1,_,_=>
  have e1:bg k x k.n=x:=oN h1
  have e:da (bg k x k.n) k.n=U:=iB.2 (by rw[e1];exact h1)
  rw[jo,if_pos (.inl e),e1]
  rfl
 | i+1,F,hF,_=>exact vV i F x (by omega) hb h1 (fun i' hi'=>h2 (i'+1) (by omega))
section
variable {k:Lk}(S:jC k)
theorem mJ (hbad:∀ r,S.I r->r.bad=U)(hc:S.c<=99)(r:Rn)(h:S.I r)(hr:∀ t,r.act t=0)(calls:Nat):
 (fJ k (100*(k.n+1)*(calls+1)) ⟨r,fun _=>calls,0⟩).got=k.n*calls/\S.I (fJ k (100*(k.n+1)*(calls+1)) ⟨r,fun _=>calls,0⟩).r:=by
 obtain⟨i,h1,h2,h3,h4,h5⟩:=oO S r h hr calls
 have keep1:∀ r t,t<k.n->S.fin.I r->S.fin.I (dN k r ⟨1,t,U⟩):=fun r t _ h=>S.keep r _ h
 let P:=vU S.fin S.c keep1 (fun r t ht h ha=>mb S r t ht h ha) (fun r t h ht he=>S.idle r t h ht he)
 have hb:∀ i',(bD k.n (bm k) i' ⟨r,fun _=>calls,0⟩).r.bad=U:=fun i'=>hbad _ (ir P i' ⟨r,fun _=>calls,0⟩ h)
 have e:=xf (F:=100*(k.n+1)*(calls+1)) (Nat.le_trans h1 (qt S.c k.n calls hc)) (Nat.mul_pos (Nat.mul_pos (by omega) (by omega)) (by omega)) hb h2 h3
 rw[e]
 exact⟨h4,h5⟩
theorem qv (r:Rn)(h:S.I r)(F:Nat)(hn:k.n*S.c<F):∃ r2,fO k F r=(K,r2)/\S.I r2/\kj k.n r2:=by
 obtain⟨i,h1,h2,h3,h4⟩:=rW S r h
 exact⟨_,yg (by omega) h2 h3,h4,h2⟩
end
theorem gN (k:Lk)(t:Nat):∀ (j:Nat) (r:Rn),bt k t (j+1) r=dN k (bt k t j r) ⟨3,t,U⟩
 | 0,r=>rfl
 | j+1,r=>by
  show bt k t (j+1) (dN k r ⟨3,t,U⟩)=_
  rw[gN k t j]
  rfl
theorem sJ {k:Lk}(h:gH k)(r:Rn)(t:Nat):(bc k r t).l.length<=r.l.length+258:=ka h _ _
theorem sZ {k:Lk}(h:gH k)(r:Rn):∀ j,(dm k r j).l.length<=r.l.length+258*j
 | 0=>by rw[pJ];omega
 | j+1=>by
  rw[lK]
  have h1:=sZ h r j
  have h2:=sJ h (dm k r j) j
  omega
theorem tH {k:Lk}(h:gH k):∀ (F:Nat) (r:Rn),(fO k F r).2.l.length<=r.l.length+258*k.n*F
 | 0,r=>by rw[pV];simp
 | F+1,r=>by
  have h1:=sZ h r k.n
  rw[hG,Nat.mul_add]
  split
  ·simp only;omega
  ·have h2:=tH h F (dm k r k.n)
   omega
theorem jm {k:Lk}(h:gH k)(x:mm)(t:Nat):(bm k x t).r.l.length<=x.r.l.length+258:=by
 unfold bm
 split
 ·exact ka h _ _
 ·exact sJ h _ _
theorem jn {k:Lk}(x:mm)(t:Nat):(bm k x t).got<=x.got+1:=by
 unfold bm
 split
 ·simp
 ·simp only;split <;> omega
end
section
open Go.ChangeShapes Go.WideShapes Go.ChangeAt Go.RowKit
theorem fP (z:World)(n:Nat):Below z.heap.size z (z.drewN n):=⟨rfl,rfl,rfl,C _,fun _ _=>rfl⟩
theorem pq {xs ys:List Int}{j:Nat}(hj:j<xs.length)(hl:xs.length=ys.length)(h:xs.take j=ys.take j)(e:aD xs j=aD ys j):xs.take (j+1)=ys.take (j+1):=by
 rw[kS xs j hj,kS ys j (by omega),h]
 rw[kb hj,kb (by omega)] at e
 rw[e]
theorem ni {xs ys:List Int}{j:Nat}(e:aD xs j≠aD ys j):xs≠ys:=fun h=>e (by rw[h])
theorem sP (w:World)(a b:Option Addr)(ca cb:Nat)(xs ys:List Int)(ha:dQ .u32 w a xs)(hb:dQ .u32 w b ys)(hm:xs.length<=maxLen)(hm2:ys.length<=maxLen):
 Calls Tryz.prog 31 #[J a xs.length ca,J b ys.length cb] w fun e w'=>e=.returned (.bool (decide (xs=ys)))/\Below w.heap.size w w':=by
 have HA:=E ha
 have HB:=E hb
 simp only[maxLen] at hm hm2
 clear ha hb
 by_cases hl:xs.length=ys.length
 ·have HL:=E hl
  have dl:((xs.length:Int) != (ys.length:Int))=U:=by rw[hl];simp
  have HR:Hid (∀ v,decide (xs=ys)=v->(Ending.returned (.bool v):Ending)=.returned (.bool (decide (xs=ys)))):=E (fun v h=>by rw[h])
  generalize hres:decide (xs=ys)=res at HR ⊢
  have HRes:=E hres
  clear hl hres
  go_enter Tryz.func31,Tryz.ntmps31
  go_wp2
  go_loopw [13] (fun x wr=>∃ (j:Nat),x=Q O j/\j<=xs.length/\Hid (xs.take j=ys.take j)/\Below w.heap.size w wr) (fun x _=>xs.length-(intOf x).toNat)
  case atStart=>exact⟨0,rfl,Nat.zero_le _,E rfl,D _ _⟩
  case round=>
   obtain⟨j,rfl,hj,HT,hbl⟩:=hrel
   by_cases hlt:j<xs.length
   ·have hji:(j:Int)<xs.length:=by omega
    have hjy:(j:Int)<ys.length:=by have:=HL.out;omega
    obtain⟨b1,o1,rfl,c1⟩:=HA.out.at_ hlt hbl
    obtain⟨b2,o2,rfl,c2⟩:=HB.out.at_ (show j<ys.length by omega) hbl
    have HE:=E (fun e=>pq hlt HL.out HT.out e)
    have HN:=E (fun e=>ni (xs:=xs) (ys:=ys) (j:=j) e)
    generalize aD xs j=x at *
    generalize aD ys j=y at *
    cases hq:(x != y) with
    | true=>
     have HV:Hid (res=U):=E (by rw[<-HRes.out];exact decide_eq_false (HN.out (bne_iff_ne.1 hq)))
     clear HE HN HT
     go_upto_region 6 with fail
     go_quiet (fail)
     have hfin:=hbl.trans ((fP wr nq).mono hbl.size)
     generalize wr.drewN nq=v at *
     go_wp2
     go_ret
     exact⟨by rw[HV.out];rfl,hfin⟩
    | false=>
     have HE2:=E (HE.out (by simpa using hq))
     clear HE HN HT
     go_upto_region 6 with fail
     go_quiet (fail)
     have hfin:=hbl.trans ((fP wr nq).mono hbl.size)
     generalize wr.drewN nq=v at *
     clear c1 c2 hbl
     go_wp2
     go_roundw
     case rel=>exact⟨j+1,by go_num,by omega,HE2,hfin⟩
     case measure=>simp[intOf];omega
   ·obtain rfl:j=xs.length:=by omega
    have HV:Hid (res=K):=E (by
     rw[<-HRes.out]
     have h:=HT.out
     rw[List.take_length,HL.out,List.take_length] at h
     exact decide_eq_true h)
    clear HT
    go_wp2
    go_ret
    exact⟨by rw[HV.out];rfl,hbl⟩
 ·have dl:((xs.length:Int) != (ys.length:Int))=K:=bne_iff_ne.2 (by omega)
  have HV:Hid (decide (xs=ys)=U):=E (decide_eq_false (fun h=>hl (by rw[h])))
  clear hl
  go_enter Tryz.func31,Tryz.ntmps31
  go_wp2
  go_ret
  exact⟨by rw[HV.out];rfl,D _ _⟩
end
section
theorem om {n:Nat}{l:List En}(h1:1<=n)(hn:n<=64)(h:dD (n:Int) l):cj n l=l.length:=by
 unfold cj
 rw[if_pos ⟨by omega,by omega⟩]
 exact ny h
theorem Bn {k:Lk}(S:jC k){init r7:List Int}(h0:S.I (jM k init r7))(l:List ki):S.I (fo k (jM k init r7) l):=sN (I:=S.I) (fun r o h=>S.keep r o h) l _ h0
section
variable {k:Lk}(S:jC k)(hb:∀ r,S.I r->r.bad=U)(htr:∀ r,S.I r->dD (k.n:Int) r.l){init r7:List Int}(h0:S.I (jM k init r7))(g1:1<=k.n)(hn:k.n<=64)
include hb htr h0 g1 hn
theorem At (l:List ki):decide ((fo k (jM k init r7) l).bad=U/\cj k.n (fo k (jM k init r7) l).l=(fo k (jM k init r7) l).l.length)=K:=by
 have h:=Bn S h0 l
 exact decide_eq_true ⟨hb _ h,om g1 hn (htr _ h)⟩
theorem xM (hc:S.c<=99)(calls:Nat):
 (fJ k (100*(k.n+1)*(calls+1)) ⟨jM k init r7,fun _=>calls,0⟩).got=k.n*calls/\
 (fJ k (100*(k.n+1)*(calls+1)) ⟨jM k init r7,fun _=>calls,0⟩).r.bad=U/\
 cj k.n (fJ k (100*(k.n+1)*(calls+1)) ⟨jM k init r7,fun _=>calls,0⟩).r.l=(fJ k (100*(k.n+1)*(calls+1)) ⟨jM k init r7,fun _=>calls,0⟩).r.l.length:=by
 obtain⟨e,h⟩:=mJ S hb hc (jM k init r7) h0 (fun t=>rfl) calls
 exact⟨e,hb _ h,om g1 hn (htr _ h)⟩
theorem As (a b:Nat)(hal:∀ r t,S.I r->t<k.n->kj k.n r->(bt k t a (dN k r ⟨1,t,U⟩)).act t=2/\(bt k t b (dN k (bt k t a (dN k r ⟨1,t,U⟩)) ⟨2,t,U⟩)).act t=0/\S.I (bt k t b (dN k (bt k t a (dN k r ⟨1,t,U⟩)) ⟨2,t,U⟩)))
 (hc:k.n*S.c<5000) (l:List ki) {t:Nat} (ht:t<k.n):
 ∃ r2 r3 r4,fO k 5000 (fo k (jM k init r7) l)=(K,r2)/\r2.bad=U/\bt k t a (dN k r2 ⟨1,t,U⟩)=r3/\r3.act t=2/\
  bt k t b (dN k r3 ⟨2,t,U⟩)=r4/\r4.bad=U/\r4.act t=0/\cj k.n r4.l=r4.l.length:=by
 have hI:=Bn S h0 l
 obtain⟨r2,e2,h2,hid⟩:=qv S _ hI 5000 hc
 obtain⟨a1,a2,h5⟩:=hal _ _ h2 ht hid
 exact⟨r2,_,_,e2,hb _ h2,rfl,a1,rfl,hb _ h5,a2,om g1 hn (htr _ h5)⟩
end
end
section
open Go.ChangeShapes Go.WideShapes Go.ChangeAt Go.RowKit
def BE (w:World)(v:Value)(c:gp)(zs init r7:List Int)(each:Int):Prop:=
 ∃ aL cL aS cS aI cI aR cR,v=.agg #[J aL c.l.length cL,Q O c.lo,Q O c.un,J aS zs.length cS,J aI init.length cI,Q O each,J aR r7.length cR]/\Pv w (.agg #[J aL c.l.length cL,Q O c.lo,Q O c.un]) c/\dQ .i64 w aS zs/\dQ .u32 w aI init/\dQ .u32 w aR r7/\zs.length<=maxLen/\init.length<=maxLen/\r7.length<=maxLen
theorem xj (w:World)(v u:Value)(c d:gp)(zs init r7 zs2 init2 r72:List Int)(each each2:Int)(hv:BE w v c zs init r7 each)(hu:BE w u d zs2 init2 r72 each2)(hc:c.l.length<=100000):
 Calls Tryz.prog 10 #[v,u] w fun e w'=>e=.returned (.bool (decide (zs=zs2) && (decide (each=each2) && (jL c d && (decide (init=init2) && decide (r7=r72))))))/\Below w.heap.size w w':=by
 obtain⟨aL,cL,aS,cS,aI,cI,aR,cR,rfl,p1,p2,p3,p4,p5,p6,p7⟩:=hv
 obtain⟨bL,dL,bS,dS,bI,dI,bR,dR,rfl,q1,q2,q3,q4,q5,q6,q7⟩:=hu
 have HSm:Hid (∀ W,Below w.heap.size w W->Calls Tryz.prog 30 #[.agg #[J aL c.l.length cL,Q O c.lo,Q O c.un],.agg #[J bL d.l.length dL,Q O d.lo,Q O d.un]] W fun e w'=>e=.returned (.bool (jL c d))/\Below W.heap.size W w'):=E (fun W hW=>FM c d _ _ W (p1.below hW) (q1.below hW) hc)
 have HW1:Hid (∀ W,Below w.heap.size w W->Calls Tryz.prog 31 #[J aI init.length cI,J bI init2.length dI] W fun e w'=>e=.returned (.bool (decide (init=init2)))/\Below W.heap.size W w'):=E (fun W hW=>sP W aI bI cI dI init init2 (p3.below hW) (q3.below hW) p6 q6)
 have HW2:Hid (∀ W,Below w.heap.size w W->Calls Tryz.prog 31 #[J aR r7.length cR,J bR r72.length dR] W fun e w'=>e=.returned (.bool (decide (r7=r72)))/\Below W.heap.size W w'):=E (fun W hW=>sP W aR bR cR dR r7 r72 (p4.below hW) (q4.below hW) p7 q7)
 have HA:=E p2
 have HB:=E q2
 obtain⟨bb,k1,k2⟩:=lB w 36 #[J aL c.l.length cL,Q O c.lo,Q O c.un,J aS zs.length cS,J aI init.length cI,Q O each,J aR r7.length cR] #[J bL d.l.length dL,Q O d.lo,Q O d.un,J bS zs2.length dS,J bI init2.length dI,Q O each2,J bR r72.length dR]
 simp only[maxLen] at p5 q5
 clear p1 p2 p3 p4 p6 p7 q1 q2 q3 q4 q6 q7 hc
 obtain⟨res,hres⟩:∃ res,(decide (zs=zs2) && (decide (each=each2) && (jL c d && (decide (init=init2) && decide (r7=r72)))))=res:=⟨_,rfl⟩
 rw[hres]
 have HRes:Hid (res=(decide (zs=zs2) && (decide (each=each2) && (jL c d && (decide (init=init2) && decide (r7=r72)))))):=E hres.symm
 clear hres
 go_enter Tryz.func10,Tryz.ntmps10
 go_upto_region 1 with fail
 generalize (w.alloc (G #[J aL c.l.length cL,Q O c.lo,Q O c.un,J aS zs.length cS,J aI init.length cI,Q O each,J aR r7.length cR] 36)).alloc (G #[J bL d.l.length dL,Q O d.lo,Q O d.un,J bS zs2.length dS,J bI init2.length dI,Q O each2,J bR r72.length dR] 36)=y at *
 obtain⟨x0,x1,x2,x3,x4,x5,x6⟩:=k1.lZ
 obtain⟨z0,z1,z2,z3,z4,z5,z6⟩:=k2.lZ
 have K1:=E k1
 have K2:=E k2
 clear k1 k2
 by_cases hl:zs.length=zs2.length
 ·have dl:((zs.length:Int) != (zs2.length:Int))=U:=by rw[hl];simp
  have HL:=E hl
  clear hl
  cases de:(each != each2) with
  | true=>
   have HV:Hid (res=U):=E (by rw[HRes.out,decide_eq_false (bne_iff_ne.1 de)];simp)
   clear HSm HW1 HW2
   go_wp2
   go_ret
   exact⟨by rw[HV.out];rfl,bb⟩
  | false=>
   have HEq:Hid (each=each2):=E (by simpa using de)
   go_wp2
   go_loopw [23] (fun x wr=>∃ (j:Nat),x=Q O j/\j<=zs.length/\Hid (zs.take j=zs2.take j)/\Hid (Below y.heap.size y wr)) (fun x _=>zs.length-(intOf x).toNat)
   case atStart=>exact⟨0,rfl,Nat.zero_le _,E rfl,E (D _ _)⟩
   case round=>
    clear x0 x1 x2 x3 x4 x5 x6 z0 z1 z2 z3 z4 z5 z6
    obtain⟨j,rfl,hj,HT,HBl⟩:=hrel
    have hbl:=HBl.out
    have hbw:=bb.trans (hbl.mono bb.size)
    have k1:=Bk.within K1.out (af hbl) (by simp)
    have k2:=Bk.within K2.out (af hbl) (by simp)
    obtain⟨x0,x1,x2,x3,x4,x5,x6⟩:=k1.lZ
    obtain⟨z0,z1,z2,z3,z4,z5,z6⟩:=k2.lZ
    by_cases hlt:j<zs.length
    ·have hji:(j:Int)<zs.length:=by omega
     have hjy:(j:Int)<zs2.length:=by have:=HL.out;omega
     obtain⟨b1,o1,rfl,c1⟩:=HA.out.at_ hlt hbw
     obtain⟨b2,o2,rfl,c2⟩:=HB.out.at_ (show j<zs2.length by omega) hbw
     have HE:=E (fun e=>pq hlt HL.out HT.out e)
     have HN:=E (fun e=>ni (xs:=zs) (ys:=zs2) (j:=j) e)
     generalize aD zs j=x at *
     generalize aD zs2 j=x9 at *
     clear k1 k2 HSm HW1 HW2
     cases hq:(x != x9) with
     | true=>
      have HV:Hid (res=U):=E (by rw[HRes.out,decide_eq_false (HN.out (bne_iff_ne.1 hq))];simp)
      clear HE HN HT
      go_upto_region 6 with fail
      go_quiet (fail)
      have hfin:=hbw.trans ((fP wr nq).mono hbw.size)
      generalize wr.drewN nq=v at *
      go_wp2
      go_ret
      exact⟨by rw[HV.out];rfl,hfin⟩
     | false=>
      have HE2:=E (HE.out (by simpa using hq))
      clear HE HN HT
      go_upto_region 6 with fail
      go_quiet (fail)
      have HF:=E (hbl.trans ((fP wr nq).mono hbl.size))
      generalize wr.drewN nq=v at *
      clear c1 c2 hbl hbw
      go_wp2
      go_roundw
      case rel=>exact⟨j+1,by go_num,by omega,HE2,HF⟩
      case measure=>simp[intOf];omega
    ·obtain rfl:j=zs.length:=by omega
     have HZ:Hid (res=(jL c d && (decide (init=init2) && decide (r7=r72)))):=E (by
      have h:=HT.out
      rw[List.take_length,HL.out,List.take_length] at h
      rw[HRes.out,decide_eq_true h,decide_eq_true HEq.out,Bool.true_and,Bool.true_and])
     clear HT
     have HC1:=E (HSm.out wr hbw)
     have HKK:Hid (∀ W,Below wr.heap.size wr W->Below w.heap.size w W/\(W.cell? ⟨w.heap.size,0,Z⟩=T (J aL c.l.length cL)/\W.cell? ⟨w.heap.size,1,Z⟩=T (Q O c.lo)/\W.cell? ⟨w.heap.size,2,Z⟩=T (Q O c.un)/\W.cell? ⟨w.heap.size,3,Z⟩=T (J aS zs.length cS)/\W.cell? ⟨w.heap.size,4,Z⟩=T (J aI init.length cI)/\W.cell? ⟨w.heap.size,5,Z⟩=T (Q O each)/\W.cell? ⟨w.heap.size,6,Z⟩=T (J aR r7.length cR))/\(W.cell? ⟨w.heap.size+1,0,Z⟩=T (J bL d.l.length dL)/\W.cell? ⟨w.heap.size+1,1,Z⟩=T (Q O d.lo)/\W.cell? ⟨w.heap.size+1,2,Z⟩=T (Q O d.un)/\W.cell? ⟨w.heap.size+1,3,Z⟩=T (J bS zs2.length dS)/\W.cell? ⟨w.heap.size+1,4,Z⟩=T (J bI init2.length dI)/\W.cell? ⟨w.heap.size+1,5,Z⟩=T (Q O each2)/\W.cell? ⟨w.heap.size+1,6,Z⟩=T (J bR r72.length dR))):=E (fun W hW=>by
      have j1:=Bk.within k1 (af hW) (by simp)
      have j2:=Bk.within k2 (af hW) (by simp)
      exact⟨hbw.trans (hW.mono hbw.size),⟨j1.cell 0,j1.cell 1,j1.cell 2,j1.cell 3,j1.cell 4,j1.cell 5,j1.cell 6⟩,⟨j2.cell 0,j2.cell 1,j2.cell 2,j2.cell 3,j2.cell 4,j2.cell 5,j2.cell 6⟩⟩)
     clear HSm k1 k2 hbl
     generalize jL c d=o1 at *
     generalize decide (init=init2)=o2 at *
     generalize decide (r7=r72)=o3 at *
     go_wp2_with fail
     refine HC1.out.mono ?_
     rintro e w1 ⟨rfl,hw1⟩
     obtain⟨hbw1,⟨x0,x1,x2,x3,x4,x5,x6⟩,⟨z0,z1,z2,z3,z4,z5,z6⟩⟩:=HKK.out w1 hw1
     cases o1 with
     | false=>
      have HV:Hid (res=U):=E (by rw[HZ.out];rfl)
      clear HC1 HKK HW1 HW2
      go_wp2
      go_ret
      exact⟨by rw[HV.out];rfl,hbw1⟩
     | true=>
      have HC2:=E (HW1.out w1 hbw1)
      clear HC1 HW1
      go_wp2_with fail
      refine HC2.out.mono ?_
      rintro e w2 ⟨rfl,hw2⟩
      obtain⟨hbw2,⟨x0,x1,x2,x3,x4,x5,x6⟩,⟨z0,z1,z2,z3,z4,z5,z6⟩⟩:=HKK.out w2 (hw1.trans (hw2.mono hw1.size))
      cases o2 with
      | false=>
       have HV:Hid (res=U):=E (by rw[HZ.out];rfl)
       clear HC2 HKK HW2
       go_wp2
       go_ret
       exact⟨by rw[HV.out];rfl,hbw2⟩
      | true=>
       have HC3:=E (HW2.out w2 hbw2)
       clear HC2 HW2 HKK
       go_wp2_with fail
       refine HC3.out.mono ?_
       rintro e w3 ⟨rfl,hw3⟩
       have HV:Hid (res=o3):=E (by rw[HZ.out];rfl)
       have hbw3:=hbw2.trans (hw3.mono hbw2.size)
       clear HC3
       go_wp2
       go_ret
       exact⟨by rw[HV.out];rfl,hbw3⟩
 ·have dl:((zs.length:Int) != (zs2.length:Int))=K:=bne_iff_ne.2 (by omega)
  have HV:Hid (res=U):=E (by rw[HRes.out,decide_eq_false (fun h=>hl (by rw[h]))];simp)
  clear hl HSm HW1 HW2
  go_wp2
  go_ret
  exact⟨by rw[HV.out];rfl,bb⟩
def BR:Value:=.agg #[J Z 0 0,Q O 0,Q O 0,J Z 0 0,J Z 0 0,Q O 0,J Z 0 0]
theorem Rv.G3 {base:Nat}{w:World}{v:Value}{c:gp}{zs init r7:List Int}{each:Int}(h:Rv base w v c zs init r7 each):BE w v c zs init r7 each:=by
 obtain⟨sl,aS,cS,aI,cI,aR,cR,rfl,h1,h2,h3,h4,h5⟩:=h
 obtain⟨aL,cL,rfl,-⟩:=aX h1
 exact⟨aL,cL,aS,cS,aI,cI,aR,cR,rfl,rC h1,h2,h3,h4,h5⟩
theorem BE.below {w w':World}{v:Value}{c:gp}{zs init r7:List Int}{each:Int}(h:BE w v c zs init r7 each)(hb:Below w.heap.size w w'):BE w' v c zs init r7 each:=by
 obtain⟨aL,cL,aS,cS,aI,cI,aR,cR,e,h1,h2,h3,h4,h5⟩:=h
 exact⟨aL,cL,aS,cS,aI,cI,aR,cR,e,h1.below hb,h2.below hb,h3.below hb,h4.below hb,h5⟩
theorem v7 (w:World):Pv w (.agg #[J Z 0 0,Q O 0,Q O 0]) gp.zero:=⟨Z,0,rfl,by simp[gp.zero],by simp,fun _=>rfl,fun h=>by simp[gp.zero] at h⟩
theorem fj (k:IntKind)(w:World)(a:Option Addr):dQ k w a []:=fun h=>by simp at h
theorem B6 (w:World):Sv w BR gp.zero [] [] [] 0:=⟨Z,0,Z,0,Z,0,Z,0,rfl,v7 w,fj _ _ _,fj _ _ _,fj _ _ _,by simp,by simp,by simp⟩
theorem zU (w:World):BE w BR gp.zero [] [] [] 0:=⟨Z,0,Z,0,Z,0,Z,0,rfl,v7 w,fj _ _ _,fj _ _ _,fj _ _ _,by simp,by simp,by simp⟩
theorem pu (w:World)(v u:Value)(c:gp)(zs init r7:List Int)(each:Int)(hv:BE w v c zs init r7 each)(hu:BE w u c zs init r7 each)(hc:c.l.length<=100000):
 Calls Tryz.prog 10 #[v,u] w fun e w'=>e=.returned (.bool K)/\Below w.heap.size w w':=by
 have h:=xj w v u c c zs init r7 zs init r7 each each hv hu hc
 rw[decide_eq_true rfl,decide_eq_true rfl,decide_eq_true rfl,decide_eq_true rfl,(xg c c).2 rfl] at h
 exact h
def zK (V:World)(k:Lk)(init r7:List Int)(e:Ending)(w':World):Prop:=∃ v,e=.returned (.tuple #[v,Q O 0])/\Sv w' v ⟨k.l,k.lo,k.un⟩ k.zs init r7 k.each/\Below V.heap.size V w'
def Fi (V:World)(k:Lk)(init r7:List Int)(e:Ending)(w':World):Prop:=∃ v,e=.returned (.tuple #[v,.bool K])/\Rv V.heap.size w' v ⟨k.l,k.lo,k.un⟩ k.zs init r7 k.each/\Below V.heap.size V w'
def Gx (V:World)(e:Ending)(w':World):Prop:=e=.returned (.tuple #[BR,Q O 5])/\Below V.heap.size V w'
def BV (V:World)(e:Ending)(w':World):Prop:=e=.returned (.tuple #[BR,.bool U])/\Below V.heap.size V w'
section
variable {base:Nat}{w:World}{v:Value}{k:Lk}{init r7:List Int}{each:Int}
theorem tX (h:Sv w v ⟨k.l,k.lo,k.un⟩ k.zs init r7 each):∃ aL cL aS cS aI cI aR cR,v=.agg #[J aL k.l.length cL,Q O k.lo,Q O k.un,J aS k.zs.length cS,J aI init.length cI,Q O each,J aR r7.length cR]:=by
 obtain⟨aL,cL,aS,cS,aI,cI,aR,cR,rfl,-⟩:=h
 exact⟨aL,cL,aS,cS,aI,cI,aR,cR,rfl⟩
theorem Rv.less {base':Nat}{c:gp}{zs:List Int}(h:Rv base w v c zs init r7 each)(hb:base'<=base):Rv base' w v c zs init r7 each:=by
 obtain⟨sl,aS,cS,aI,cI,aR,cR,rfl,h,g⟩:=h
 exact⟨sl,aS,cS,aI,cI,aR,cR,rfl,World.ownsRow.mono h hb,g⟩
theorem zj (h:Rv base w v ⟨k.l,k.lo,k.un⟩ k.zs init r7 each):∃ aL cL aS cS aI cI aR cR,v=.agg #[J aL k.l.length cL,Q O k.lo,Q O k.un,J aS k.zs.length cS,J aI init.length cI,Q O each,J aR r7.length cR]:=by
 obtain⟨sl,aS,cS,aI,cI,aR,cR,rfl,h,-⟩:=h
 obtain⟨aL,cL,rfl,-⟩:=aX h
 exact⟨aL,cL,aS,cS,aI,cI,aR,cR,rfl⟩
end
theorem ue:(Tryz.prog.info? 70).map (fun i=>(i.zero,i.size,i.bytes))=T (T (Q .u32 0),1,4):=by kernel_rfl
theorem js (N:Nat)(hN:N<=40000)(W:World):(Instr.makeSlice 26 (Q O N) (Q O N)).run Tryz.prog W=.ok (J (T ⟨W.heap.size,0,Z⟩) N N) (W.alloc (G (madeCells #[Q .u32 0] N) 70)):=by
 obtain⟨i0,hi0,hz0,hz1,hz2⟩:=info_parts ue
 have h:=run_make (P:=Tryz.prog) W 26 70 i0 _ Tryz.underlying26 hi0 hz0 .i64 .i64 N N (by omega) (by omega) (by rw[hz2];omega) (by omega)
 rw[hz1] at h
 simpa [Value.cells] using h
def BO (c:gp)(w:World)(e:Ending)(w':World):Prop:=∃ v,e=.returned (.tuple #[v,Q O 0,Q O 0])/\Pg w' w.heap.size v c/\Below w.heap.size w w'
def BN (c:gp)(w:World)(e:Ending)(w':World):Prop:=∃ sl,e=.returned (.tuple #[.agg #[sl,Q O c.lo,Q O c.un],Q O 0,Q O 0])/\w'.ownsRow w.heap.size 123 8 sl c.l.length (bu c.l)/\Below w.heap.size w w'
def zr (xs:List Int):Array Value:=(xs.map (Value.int .i64)).toArray
def qp (xs:List Int)(v:Value)(W:World):Prop:=∃ b,v=J (T ⟨b,0,Z⟩) xs.length xs.length/\Bk W b 3 (zr xs)
def kh (xs:List Int)(v:Value)(W:World):Prop:=∃ b,v=J (T ⟨b,0,Z⟩) xs.length xs.length/\Bk W b 70 (words xs)
def zH (aL:Option Addr)(cL:Nat)(c:gp)(zs init r7:List Int)(each:Int)(v:Value)(W:World):Prop:=
 ∃ b1 b2 b3,v=.agg #[J aL c.l.length cL,Q O c.lo,Q O c.un,J (T ⟨b1,0,Z⟩) zs.length zs.length,J (T ⟨b2,0,Z⟩) init.length init.length,Q O each,J (T ⟨b3,0,Z⟩) r7.length r7.length]/\Bk W b1 3 (zr zs)/\Bk W b2 70 (words init)/\Bk W b3 70 (words r7)
section
variable {aL:Option Addr}{cL:Nat}{c:gp}{xs zs init r7:List Int}{each:Int}{v:Value}{W W':World}{S:Nat->Prop}
def zD (W:World)(S:Nat->Prop):Prop:=∀ b,S b->∃ t cs,Bk W b t cs/\t≠3/\t≠70
theorem zD.int (h:zD W S){b:Nat}{cs:Array Value}(hb:Bk W b 3 cs):¬ S b:=fun hs=>by
 obtain⟨t,cs',h1,h2,_⟩:=h _ hs
 exact Bk.av hb h1 (fun e=>h2 e.symm) rfl
theorem zD.word (h:zD W S){b:Nat}{cs:Array Value}(hb:Bk W b 70 cs):¬ S b:=fun hs=>by
 obtain⟨t,cs',h1,_,h2⟩:=h _ hs
 exact Bk.av hb h1 (fun e=>h2 e.symm) rfl
theorem qp.within (h:qp xs v W)(hw:ag W W' S)(hS:zD W S):qp xs v W':=by
 obtain⟨b,e,h1⟩:=h;exact⟨b,e,h1.within hw (hS.int h1)⟩
theorem kh.within (h:kh xs v W)(hw:ag W W' S)(hS:zD W S):kh xs v W':=by
 obtain⟨b,e,h1⟩:=h;exact⟨b,e,h1.within hw (hS.word h1)⟩
theorem zH.within (h:zH aL cL c zs init r7 each v W)(hw:ag W W' S)(hS:zD W S):zH aL cL c zs init r7 each v W':=by
 obtain⟨b1,b2,b3,e,h1,h2,h3⟩:=h
 exact⟨b1,b2,b3,e,h1.within hw (hS.int h1),h2.within hw (hS.word h2),h3.within hw (hS.word h3)⟩
theorem qp.below (h:qp xs v W)(hb:Below W.heap.size W W'):qp xs v W':=by obtain⟨b,e,h1⟩:=h;exact⟨b,e,(hb.block _ h1.lt).trans h1⟩
theorem kh.below (h:kh xs v W)(hb:Below W.heap.size W W'):kh xs v W':=by obtain⟨b,e,h1⟩:=h;exact⟨b,e,(hb.block _ h1.lt).trans h1⟩
theorem zH.below (h:zH aL cL c zs init r7 each v W)(hb:Below W.heap.size W W'):zH aL cL c zs init r7 each v W':=h.within (af hb) (fun b hs=>by simp at hs)
theorem jX {b:Nat}(h:Bk W b 3 (zr xs)):dQ .i64 W (T ⟨b,0,Z⟩) xs:=fun _=>⟨b,0,rfl,h.lt,fun i hi=>by rw[Nat.zero_add,h.cell];simp[zr,hi,aD]⟩
theorem dZ {b:Nat}(h:Bk W b 70 (words xs)):dQ .u32 W (T ⟨b,0,Z⟩) xs:=fun _=>⟨b,0,rfl,h.lt,fun i hi=>by rw[Nat.zero_add,h.cell,jb xs i hi]⟩
theorem zH.sv {base:Nat}(h:zH aL cL c zs init r7 each v W)(ho:W.ownsRow base 117 8 (J aL c.l.length cL) c.l.length (bu c.l))(h1:zs.length<=maxLen)(h2:init.length<=maxLen)(h3:r7.length<=maxLen):Sv W v c zs init r7 each:=by
 obtain⟨b1,b2,b3,rfl,k1,k2,k3⟩:=h
 exact⟨aL,cL,_,_,_,_,_,_,rfl,rC ho,jX k1,dZ k2,dZ k3,h1,h2,h3⟩
theorem zH.rv {base:Nat}(h:zH aL cL c zs init r7 each v W)(ho:W.ownsRow base 123 8 (J aL c.l.length cL) c.l.length (bu c.l))(h1:zs.length<=maxLen)(h2:init.length<=maxLen)(h3:r7.length<=maxLen):Rv base W v c zs init r7 each:=by
 obtain⟨b1,b2,b3,rfl,k1,k2,k3⟩:=h
 exact⟨_,_,_,_,_,_,_,rfl,ho,jX k1,dZ k2,dZ k3,h1,h2,h3⟩
theorem dd (y:World)(ca cb cc cd:Array Value)(ta tb tc td:TypeId):
 Bk ((((y.alloc (.cells ca ta)).alloc (.cells cb tb)).alloc (.cells cc tc)).alloc (.cells cd td)) y.heap.size ta ca/\Bk ((((y.alloc (.cells ca ta)).alloc (.cells cb tb)).alloc (.cells cc tc)).alloc (.cells cd td)) (y.heap.size+1) tb cb/\
 Bk ((((y.alloc (.cells ca ta)).alloc (.cells cb tb)).alloc (.cells cc tc)).alloc (.cells cd td)) (y.heap.size+1+1) tc cc/\Bk ((((y.alloc (.cells ca ta)).alloc (.cells cb tb)).alloc (.cells cc tc)).alloc (.cells cd td)) (y.heap.size+1+1+1) td cd/\
 Below y.heap.size y ((((y.alloc (.cells ca ta)).alloc (.cells cb tb)).alloc (.cells cc tc)).alloc (.cells cd td)):=by
 have s1:(y.alloc (.cells ca ta)).heap.size=y.heap.size+1:=World.size_alloc _ _
 have s2:((y.alloc (.cells ca ta)).alloc (.cells cb tb)).heap.size=y.heap.size+1+1:=by rw[World.size_alloc,s1]
 have s3:(((y.alloc (.cells ca ta)).alloc (.cells cb tb)).alloc (.cells cc tc)).heap.size=y.heap.size+1+1+1:=by rw[World.size_alloc,s2]
 refine⟨(((Bk.made y ta ca).alloc _).alloc _).alloc _,?_,?_,?_,?_⟩
 ·have h:=((Bk.made (y.alloc (.cells ca ta)) tb cb).alloc (.cells cc tc)).alloc (.cells cd td)
  rw[s1] at h;exact h
 ·have h:=(Bk.made ((y.alloc (.cells ca ta)).alloc (.cells cb tb)) tc cc).alloc (.cells cd td)
  rw[s2] at h;exact h
 ·have h:=Bk.made (((y.alloc (.cells ca ta)).alloc (.cells cb tb)).alloc (.cells cc tc)) td cd
  rw[s3] at h;exact h
 ·exact((((D y.heap.size y).alloc (C _) _).alloc (by rw[s1];omega) _).alloc (by rw[s2];omega) _).alloc (by rw[s3];omega) _
theorem jU (n:Nat):madeCells #[Q .u32 0] n=words (List.replicate n 0):=nr n
end
end
