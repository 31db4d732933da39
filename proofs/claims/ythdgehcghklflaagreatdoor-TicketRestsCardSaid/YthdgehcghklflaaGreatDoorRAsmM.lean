import Derived.Test.YthdgehcghklflaaGreatDoorRMem
import Derived.Test.YthdgehcghklflaaGreatDoorRPrgM
import Derived.Test.YthdgehcghklflaaGreatDoorRInstP
import Derived.Test.YthdgehcghklflaaGreatDoorRWdA
import Derived.Test.YthdgehcghklflaaGreatDoorRFlowK
import Derived.Test.YthdgehcghklflaaGreatDoorRRefP
import Derived.Laws.RangeAny
import Derived.Lib.OthersKept
import Derived.BigRegionIn
set_option linter.unusedVariables false
set_option maxHeartbeats 1000000
open Go.Value renaming int->I,pointer->S
open Go.IntKind renaming i64->Q
open Option renaming none->O,some->Z
open Bool renaming false->V,true->P
open Go.Obj renaming cells->R
open Go.Lib renaming hid->U
open Go.RowKit.Below renaming refl->H
open Nat renaming le_refl->G
namespace Go.Proofs.YthdgehcghklflaaGreatDoor
section
def lh (c:UInt8):Bool:=decide (97<=c.toNat) && decide (c.toNat<=122)
def digB (c:UInt8):Bool:=decide (48<=c.toNat) && decide (c.toNat<=57)
def cf (s:List UInt8):Bool:=decide (1<=s.length) && (decide (s.length<=16) && (lh (s.getD 0 0) && s.all fun c=>lh c || digB c))
def bD (i:aK):Bool:=(decide (8<=i.op) && decide (i.op<=10)) || (decide (i.op=21) && decide (0<=i.pl))
def eI (i:aK):Bool:=decide (i.op=8\/i.op=9\/i.op=10) || (decide (i.op=21) && decide (i.pl≠-1))
def xD (n:Nat)(c:UInt8):Bool:=lh c || (digB c && decide (n≠0))
def jp:List UInt8->Nat->Bool
 | [],_=>P
 | c :: r,n=>xD n c && jp r (n+1)
theorem qX:∀ (s:List UInt8) (n:Nat),0<n->jp s n=s.all fun c=>lh c || digB c
 | [],_,_=>rfl
 | c :: r,n,h=>by
  have hn:decide (n≠0)=P:=by simpa using Nat.ne_of_gt h
  rw[jp,qX r (n+1) (by omega),List.all_cons,xD,hn,Bool.and_true]
theorem vN (s:List UInt8)(h0:1<=s.length)(h1:s.length<=16):cf s=jp s 0:=by
 cases s with
 | nil=>simp at h0
 | cons c r=>
  unfold cf
  rw[jp,qX r 1 (by omega)]
  simp only[h0,h1,decide_true,Bool.true_and,List.getD_cons_zero,List.all_cons,xD]
  cases lh c <;> simp
theorem rM (ws:List (List UInt8)):0<=(aE ws).k/\(aE ws).k<4294967296:=by
 have hk:0<=lr ws.tail/\lr ws.tail<4294967296:=by unfold lr;split <;> omega
 unfold aE cQ
 generalize lr ws.tail=k at *
 repeat' split
 all_goals (simp only;omega)
def qh (s:List UInt8):Option aK:=if jR s=P then Z (aE (aq s)) else O
theorem iS (s:List UInt8)(i:aK):qh s=Z i↔au i 1073741824=P/\0<=i.k/\i.k<4294967296/\aj i=s:=by
 unfold qh
 constructor
 ·intro h
  split at h
  ·rename_i hp
   injection h with h
   subst h
   have hp2:=hp
   unfold jR at hp2
   simp only[Bool.and_eq_true,decide_eq_true_eq] at hp2
   exact⟨hp2.2.1,(rM _).1,(rM _).2,hp2.2.2⟩
  ·cases h
 ·rintro⟨hr,k0,k1,rfl⟩
  rw[if_pos (qy i hr k0 k1),(kM i hr k0 k1).2]
def dB (s:List UInt8):List UInt8:=(aq s).getLastD []
def dE (s:List UInt8):List UInt8:=s.take (s.length-(dB s).length)
def dP (s:List UInt8):Option (aK×List UInt8):=
 match qh (dE s++[48]) with
 | some i=>if bD i=P/\cf (dB s)=P then Z (i,dB s)
  else match qh s with
   | some j=>if bD j=P then O else Z (j,[])
   | none=>O
 | none=>match qh s with
  | some j=>if bD j=P then O else Z (j,[])
  | none=>O
def qk (s:List UInt8):Bool:=!s.isEmpty && (decide (s.getLastD 0=58) && cf s.dropLast)
def bE:List UInt8->List (List UInt8)
 | []=>[[]]
 | c :: r=>if c=10 then [] :: bE r else fR c (bE r)
def qd:List (List UInt8)->Int->List (List UInt8×Int)->List (aK×List UInt8×Int)->(Int×Int) ⊕ (List (List UInt8×Int)×List (aK×List UInt8×Int))
 | [],_,ls,rs=>.inr (ls,rs)
 | s :: more,n,ls,rs=>
  if qk s=P then
   if (ls.any fun x=>x.1==s.dropLast)=P then .inl (n,2) else qd more (n+1) (ls++[(s.dropLast,(rs.length:Int))]) rs
  else match dP s with
   | none=>.inl (n,8)
   | some (i,nm)=>if 64<=rs.length then .inl (n,9) else qd more (n+1) ls (rs++[(i,nm,n)])
def aN (ls:List (List UInt8×Int))(s:List UInt8)(n:Int):Int:=
 match ls.find? fun x=>x.1==s && decide (x.2<n) with
 | some x=>x.2
 | none=>-1
def fA (ls:List (List UInt8×Int))(n:Int):List (aK×List UInt8×Int)->(Int×Int) ⊕ List aK
 | []=>.inr []
 | (i,nm,row) :: more=>
  if nm=[] then
   match fA ls n more with
   | .inl e=>.inl e
   | .inr l=>.inr (i :: l)
  else if aN ls nm n<0 then .inl (row,10)
  else match fA ls n more with
   | .inl e=>.inl e
   | .inr l=>.inr ({ i with pl:=aN ls nm n } :: l)
def dx:List UInt8:=[108,111,99,107]
def bn:List UInt8:=[117,110,108,111,99,107]
def eb (text:List UInt8):fy×Int×Int:=
 match qd (bE text).dropLast 1 [] [] with
 | .inl (n,e)=>(fy.zero,n,e)
 | .inr (ls,rs)=>
  if (bE text).getLastD []≠[] then (fy.zero,((bE text).length:Int),8)
  else match fA ls rs.length rs with
   | .inl (n,e)=>(fy.zero,n,e)
   | .inr l=>if aN ls dx rs.length<0\/aN ls bn rs.length<0 then (fy.zero,0,10)
    else (⟨l,aN ls dx rs.length,aN ls bn rs.length⟩,0,0)
def dJ (c:fy)(at_:Int):List UInt8:=if at_=c.lo then dx else if at_=c.un then bn else 108 :: Lib.itoa at_
def zP (c:fy)(k:Int):Bool:=c.l.any fun x=>bD x && decide (x.pl=k)
def eN (i:aK):List UInt8:=bF i.op++aA i (db i.op).dropLast++(if i.op=21 then [32,101,108,115,101,32] else [32])
def bG (c:fy)(i:aK):List UInt8:=if bD i=P then eN i++dJ c i.pl else aj i
def bT (c:fy)(k:Int):List (List UInt8):=
 (if k=c.lo then [dx] else [])++((if k=c.un then [bn] else [])++(if zP c k=P/\k≠c.lo/\k≠c.un then [dJ c k] else []))
def eX (c:fy):List aK->Int->List (List UInt8)
 | [],_=>[]
 | i :: more,k=>(bT c k).map (fun s=>s++[58])++bG c i :: eX c more (k+1)
def pU (c:fy):List UInt8:=(eX c c.l 0).flatMap fun s=>s++[10]
-- words
theorem wZ (c:UInt8)(a b:List (List UInt8))(h:a≠[]):fR c (a++b)=fR c a++b:=by
 cases a with
 | nil=>exact absurd rfl h
 | cons x y=>rfl
theorem nJ (s:List UInt8):aq s≠[]:=by
 have:=fJ s
 intro h
 rw[h] at this
 simp at this
theorem fK:∀ (a b:List UInt8),aq (a++32 :: b)=aq a++aq b
 | [],b=>by simp[aq]
 | c :: a,b=>by
  have ih:=fK a b
  show aq (c :: (a++32 :: b))=_
  by_cases hc:c=32
  ·rw[aq,if_pos hc,ih,aq,if_pos hc];rfl
  ·rw[aq,if_neg hc,ih,aq,if_neg hc,wZ _ _ _ (nJ a)]
theorem kj (a b:List UInt8)(h:Bf b):dB (a++32 :: b)=b:=by
 unfold dB
 rw[fK,cJ b h]
 simp
theorem ko (a b:List UInt8)(h:Bf b):dE (a++32 :: b)=a++[32]:=by
 unfold dE
 rw[kj a b h]
 have e:(a++32 :: b).length-b.length=(a++[32]).length:=by simp;omega
 have e2:a++32 :: b=(a++[32])++b:=by simp
 rw[e,e2,List.take_left]
theorem pG {s:List UInt8}(h:cf s=P):Bf s:=by
 unfold cf at h
 simp only[Bool.and_eq_true] at h
 intro c hc e
 have:=List.all_eq_true.1 h.2.2.2 c hc
 subst e
 revert this
 decide
-- the name of an op
theorem me (op:Int)(h:db op≠[]):eP (bF op) 23=op:=by
 rcases cj op with rfl|rfl|rfl|rfl|rfl|rfl|rfl|rfl|rfl|rfl|rfl|rfl|rfl|rfl|rfl|rfl|rfl|rfl|rfl|rfl|rfl | hn
 all_goals first | decide | exact absurd (dr hn).1 h
theorem jx {i:aK}{p:Int}(h:au i p=P):db i.op≠[]:=by
 unfold au at h
 simp only[Bool.and_eq_true,Bool.not_eq_true',List.isEmpty_eq_false_iff] at h
 exact h.1
theorem CM {i j:aK}{p q:Int}(hi:au i p=P)(hj:au j q=P)(h:bF i.op=bF j.op):i.op=j.op:=by
 rw[<-me i.op (jx hi),h,me j.op (jx hj)]
theorem D1 (op:Int):Bf (bF op):=by
 rcases cj op with rfl|rfl|rfl|rfl|rfl|rfl|rfl|rfl|rfl|rfl|rfl|rfl|rfl|rfl|rfl|rfl|rfl|rfl|rfl|rfl|rfl | hn
 all_goals first | (unfold Bf;decide) | (rw[(dr hn).2];unfold Bf;simp)
theorem lZ {i:aK}{p q:Int}(hq:p<=q)(h:au i p=P):au i q=P:=by
 unfold au at *
 simp only[Bool.and_eq_true,List.all_eq_true] at *
 refine⟨h.1,fun c hc=>?_,h.2.2⟩
 have:=h.2.1 c hc
 unfold nH dV at *
 simp only[Bool.and_eq_true,decide_eq_true_eq] at *
 refine⟨this.1,?_⟩
 have h2:=this.2
 generalize (c.toNat:Int)=x at *
 generalize ba i x=y at *
 repeat' split at h2
 all_goals first | (simp_all;done) | (simp_all;omega)
theorem fO {i:aK}(h:bD i=P):i.op=8\/i.op=9\/i.op=10\/(i.op=21/\0<=i.pl):=by
 unfold bD at h
 simp only[Bool.or_eq_true,Bool.and_eq_true,decide_eq_true_eq] at h
 omega
theorem lM {i:aK}{p:Int}(hr:au i p=P)(h:bD i=P):0<=i.pl/\i.pl<p:=by
 obtain⟨op,d,s,t,u,a,k,pl⟩:=i
 unfold au at hr
 rcases fO h with e | e | e | ⟨e,e2⟩ <;> (simp only at e;subst e;simp[db,nH,eM,dV,ba] at hr;simp only at *)
 ·exact hr.1.2.2
 ·exact hr.1.2.2
 ·exact hr.1
 ·have:=hr.1.2.2.2.2.2.2
  split at this <;> omega
theorem yI (i:aK)(h:bD i=P)(p:Int):eN { i with pl:=p }=eN i:=by
 obtain⟨op,d,s,t,u,a,k,pl⟩:=i
 rcases fO h with e | e | e | ⟨e,e2⟩ <;> (simp only at e;subst e;simp[eN,db,aA,aX,ba])
theorem vj (i:aK)(h:bD i=P)(h0:0<=i.pl):aj i=eN i++Lib.itoa i.pl:=by
 obtain⟨op,d,s,t,u,a,k,pl⟩:=i
 rcases fO h with e | e | e | ⟨e,e2⟩
 ·simp only at e;subst e;simp[aj,eN,db,aA,aX,ba]
 ·simp only at e;subst e;simp[aj,eN,db,aA,aX,ba]
 ·simp only at e;subst e;simp[aj,eN,db,aA,aX,ba]
 ·simp only at e e2
  subst e
  have hne:pl≠-1:=by omega
  simp[aj,eN,db,aA,aX,ba,hne]
theorem oC (i:aK):∃ a,eN i=a++[32]:=by
 unfold eN
 split
 ·exact⟨bF i.op++aA i (db i.op).dropLast++[32,101,108,115,101],by simp⟩
 ·exact⟨bF i.op++aA i (db i.op).dropLast,rfl⟩
theorem sx {i:aK}{p q:Int}(hr:au i p=P)(h:bD i=P)(hq:0<q):au { i with pl:=0 } q=P:=by
 obtain⟨op,d,s,t,u,a,k,pl⟩:=i
 unfold au at *
 rcases fO h with e | e | e | ⟨e,e2⟩ <;> (simp only at e;subst e;simp[db,nH,eM,dV,ba,qN,oV,cF] at hr ⊢)
 ·refine⟨⟨hr.1.1,hr.1.2.1,hq⟩,hr.2⟩
 ·refine⟨⟨hr.1.1,hr.1.2.1,hq⟩,hr.2⟩
 ·refine⟨hq,hr.2⟩
 ·obtain⟨⟨q1,q2,q3,q4,q5,q6⟩,q7⟩:=hr
  refine⟨⟨q1,q2,q3,q4,q5,?_⟩,q7⟩
  split <;> omega
theorem oE {i:aK}(h:bD i=P):bD { i with pl:=0 }=P:=by
 unfold bD at *
 simp only[Bool.or_eq_true,Bool.and_eq_true,decide_eq_true_eq] at *
 omega
theorem vX:Lib.itoa 0=[48]:=by
 rw[show (0:Int)=((0:Nat):Int) from rfl,az,Lib.decDigits,dif_pos (by decide)]
 rfl
theorem vT (i:aK){p:Int}(hr:au i p=P)(hp:p<=1073741824)(k0:0<=i.k)(k1:i.k<4294967296)(h:bD i=P)(nm:List UInt8)(hn:cf nm=P):
 dP (eN i++nm)=Z ({ i with pl:=0 },nm):=by
 obtain⟨a,ha⟩:=oC i
 have hs:eN i++nm=a++32 :: nm:=by rw[ha];simp
 have h1:dB (eN i++nm)=nm:=by rw[hs];exact kj a nm (pG hn)
 have h2:dE (eN i++nm)=eN i:=by rw[hs,ko a nm (pG hn),ha]
 have h3:qh (eN i++[48])=Z { i with pl:=0 }:=by
  rw[iS]
  refine⟨sx hr h (by decide),k0,k1,?_⟩
  rw[vj _ (oE h) (Int.le_refl 0),yI i h 0]
  show eN i++Lib.itoa 0=_
  rw[vX]
 unfold dP
 rw[h2,h3,h1]
 simp only
 rw[if_pos ⟨oE h,hn⟩]
theorem jc:∀ s:List UInt8,Bf s\/∃ a b,Bf b/\s=a++32 :: b
 | []=>.inl (by unfold Bf;simp)
 | c :: r=>by
  rcases jc r with h | ⟨a,b,hb,rfl⟩
  ·by_cases hc:c=32
   ·exact .inr ⟨[],r,h,by rw[hc];rfl⟩
   ·refine .inl fun x hx=>?_
    rcases List.mem_cons.1 hx with rfl | hx
    ·exact hc
    ·exact h x hx
  ·exact .inr ⟨c :: a,b,hb,rfl⟩
theorem lV {i:aK}{p:Int}(hr:au i p=P):∃ r,aj i=bF i.op++32 :: r:=by
 have hh:=jx hr
 obtain⟨op,d,s,t,u,a,k,pl⟩:=i
 simp only at hh
 rcases cj op with rfl|rfl|rfl|rfl|rfl|rfl|rfl|rfl|rfl|rfl|rfl|rfl|rfl|rfl|rfl|rfl|rfl|rfl|rfl|rfl|rfl | hn
 all_goals first
  | exact absurd (dr hn).1 hh
  | (unfold aj aA;simp only[db];simp[aX,ba])
theorem nR {i:aK}{p:Int}(hr:au i p=P):(aq (aj i)).head?=Z (bF i.op):=by
 obtain⟨r,h⟩:=lV hr
 rw[h,fK,cJ _ (D1 _)]
 rfl
theorem lW {i:aK}{p:Int}(hr:au i p=P)(hp:p<=1073741824)(k0:0<=i.k)(k1:i.k<4294967296)(h:i.op=21):(i.pl=-1/\(aq (aj i)).length=6)\/(0<=i.pl/\(aq (aj i)).length=8):=by
 obtain⟨hd,hs,ht,hu,ha⟩:=ee i _ hr
 obtain⟨op,d,s,t,u,a,k,pl⟩:=i
 simp only at hd hs ht hu ha k0 k1 h
 subst h
 have hr2:=lZ hp hr
 have hr3:=gG d s t u a k pl 1073741824 hd hs ht hu ha k0 k1
 rw[hr2] at hr3
 simp[df] at hr3
 obtain⟨dn,rfl⟩:∃ n:Nat,d=n:=⟨d.toNat,by omega⟩
 obtain⟨sn,rfl⟩:∃ n:Nat,s=n:=⟨s.toNat,by omega⟩
 obtain⟨tn,rfl⟩:∃ n:Nat,t=n:=⟨t.toNat,by omega⟩
 obtain⟨un,rfl⟩:∃ n:Nat,u=n:=⟨u.toNat,by omega⟩
 obtain⟨an,rfl⟩:∃ n:Nat,a=n:=⟨a.toNat,by omega⟩
 obtain⟨kn,rfl⟩:∃ n:Nat,k=n:=⟨k.toNat,by omega⟩
 obtain rfl:un=0:=by omega
 by_cases hm:pl=-1
 ·subst hm
  refine .inl ⟨rfl,?_⟩
  by_cases hk:kn=0
  ·subst hk
   exact congrArg List.length (fZ dn sn tn an 0)
  ·obtain rfl:kn=1:=by omega
   exact congrArg List.length (fX dn sn tn an 0)
 ·obtain⟨pn,rfl⟩:∃ n:Nat,pl=n:=⟨pl.toNat,by omega⟩
  refine .inr ⟨by simp,?_⟩
  by_cases hk:kn=0
  ·subst hk
   exact congrArg List.length (fY dn sn tn an pn)
  ·obtain rfl:kn=1:=by omega
   exact congrArg List.length (fW dn sn tn an pn)
theorem vR (i:aK){p:Int}(hr:au i p=P)(hp:p<=1073741824)(k0:0<=i.k)(k1:i.k<4294967296)(h:bD i=V):dP (aj i)=Z (i,[]):=by
 have hr2:=lZ hp hr
 have h0:qh (aj i)=Z i:=(iS _ _).2 ⟨hr2,k0,k1,rfl⟩
 unfold dP
 cases hj:qh (dE (aj i)++[48]) with
 | none=>simp only[h0,h];rfl
 | some j=>
  simp only
  rw[if_neg,h0]
  ·simp only[h];rfl
  ·rintro⟨hg,-⟩
   obtain⟨jr,j0,j1,jt⟩:=(iS _ _).1 hj
   rcases jc (aj i) with hb | ⟨a,b,hb,hs⟩
   ·obtain⟨r,hr3⟩:=lV hr
    rw[hr3] at hb
    exact hb 32 (by simp) rfl
   ·rw[hs,ko a b hb] at jt
    have jt2:aj j=a++32 :: [48]:=by rw[jt];simp
    have w1:aq (aj i)=aq a++[b]:=by rw[hs,fK,cJ b hb]
    have w2:aq (aj j)=aq a++[[48]]:=by rw[jt2,fK,cJ [48] (by simp)]
    have e1:=nR hr
    have e2:=nR jr
    rw[w1] at e1
    rw[w2] at e2
    have hop:i.op=j.op:=by
     refine CM hr jr ?_
     cases hw:aq a with
     | nil=>exact absurd hw (nJ a)
     | cons x y=>
      rw[hw] at e1 e2
      simp at e1 e2
      rw[<-e1,<-e2]
    rcases fO hg with e | e | e | ⟨e,e3⟩
    ·unfold bD at h;rw[hop,e] at h;revert h;simp
    ·unfold bD at h;rw[hop,e] at h;revert h;simp
    ·unfold bD at h;rw[hop,e] at h;revert h;simp
    ·have c1:=lW hr hp k0 k1 (hop.trans e)
     have c2:=lW jr (Int.le_refl _) j0 j1 e
     rw[w1] at c1
     rw[w2] at c2
     simp only[List.length_append,List.length_cons,List.length_nil] at c1 c2
     have:¬ 0<=i.pl:=by
      unfold bD at h
      rw[hop,e] at h
      simp at h
      omega
     omega
theorem B1 {s a b:List UInt8}(h:s=a++32 :: b)(hb:b≠[]):qk s=V:=by
 rw[Bool.eq_false_iff]
 intro hl
 unfold qk at hl
 simp only[Bool.and_eq_true] at hl
 have hn:=pG hl.2.2
 refine hn 32 ?_ rfl
 rw[h,List.dropLast_append_of_ne_nil (by simp)]
 cases b with
 | nil=>exact absurd rfl hb
 | cons x y=>simp
theorem CO {s:List UInt8}(h:cf s=P):qk (s++[58])=P:=by
 unfold qk
 simp[h]
inductive ql where
 | lab (nm:List UInt8)
 | ins (i:aK) (nm s:List UInt8)
def ql.text:ql->List UInt8
 | .lab nm=>nm++[58]
 | .ins _ _ s=>s
def ql.Ok:ql->Prop
 | .lab nm=>cf nm=P
 | .ins i nm s=>qk s=V/\dP s=Z (i,nm)
def dg:List ql->Int->List (List UInt8×Int)
 | [],_=>[]
 | .lab nm :: m,k=>(nm,k) :: dg m k
 | .ins _ _ _ :: m,k=>dg m (k+1)
def cc:List ql->Int->List (aK×List UInt8×Int)
 | [],_=>[]
 | .lab _ :: m,n=>cc m (n+1)
 | .ins i nm _ :: m,n=>(i,nm,n) :: cc m (n+1)
def cT:List ql->List (List UInt8)
 | []=>[]
 | .lab nm :: m=>nm :: cT m
 | .ins _ _ _ :: m=>cT m
theorem ja:∀ (toks:List ql) (k:Int),(dg toks k).map (·.1)=cT toks
 | [],_=>rfl
 | .lab nm :: m,k=>by simp[dg,cT,ja m k]
 | .ins _ _ _ :: m,k=>by simp[dg,cT,ja m (k+1)]
theorem kz:∀ (toks:List ql) (n:Int) (ls:List (List UInt8×Int)) (rs:List (aK×List UInt8×Int)),(∀ t∈toks,t.Ok)->(ls.map (·.1)++cT toks).Nodup->rs.length+(cc toks n).length<=64->
 qd (toks.map ql.text) n ls rs=.inr (ls++dg toks rs.length,rs++cc toks n)
 | [],n,ls,rs,_,_,_=>by simp[qd,dg,cc]
 | .lab nm :: m,n,ls,rs,hok,hnd,hc=>by
  have h1:cf nm=P:=hok _ List.mem_cons_self
  have hany:(ls.any fun x=>x.1==nm)=V:=by
   rw[Bool.eq_false_iff]
   intro h
   obtain⟨x,hx,he⟩:=List.any_eq_true.1 h
   have he2:x.1=nm:=by simpa using he
   have:=(List.nodup_append.1 hnd).2.2 x.1 (List.mem_map.2 ⟨x,hx,rfl⟩) nm (by simp[cT])
   exact this he2
  have ih:=kz m (n+1) (ls++[(nm,(rs.length:Int))]) rs (fun t ht=>hok t (List.mem_cons_of_mem _ ht)) (by simpa [cT] using hnd) (by simpa [cc] using hc)
  simp only[List.map_cons,ql.text,qd,CO h1,if_pos,List.dropLast_concat,hany]
  rw[if_neg (by decide),ih]
  simp[dg,cc]
 | .ins i nm s :: m,n,ls,rs,hok,hnd,hc=>by
  obtain⟨h1,h2⟩:qk s=V/\dP s=Z (i,nm):=hok _ List.mem_cons_self
  have hc2:rs.length+((cc m (n+1)).length+1)<=64:=by simpa [cc] using hc
  have ih:=kz m (n+1) ls (rs++[(i,nm,n)]) (fun t ht=>hok t (List.mem_cons_of_mem _ ht)) (by simpa [cT] using hnd) (by simp;omega)
  simp only[List.map_cons,ql.text,qd,h1,h2]
  rw[if_neg (by decide),if_neg (by omega),ih]
  simp[dg,cc]
theorem rH:∀ (ls:List (List UInt8×Int)) (s:List UInt8) (p n:Int),(ls.map (·.1)).Nodup->(s,p)∈ls->p<n->aN ls s n=p
 | [],s,p,n,_,h,_=>by simp at h
 | (x,q) :: m,s,p,n,hnd,h,hp=>by
  unfold aN
  by_cases e:(s,p)=(x,q)
  ·injection e with e1 e2
   subst e1 e2
   simp[hp]
  ·have hm:(s,p)∈m:=by
    rcases List.mem_cons.1 h with h | h
    ·exact absurd h e
    ·exact h
   have hne:x≠s:=by
    rintro rfl
    have h2:x ∉ m.map (·.1):=(List.nodup_cons.1 hnd).1
    exact h2 (List.mem_map.2 ⟨(x,p),hm,rfl⟩)
   have ih:=rH m s p n (List.nodup_cons.1 hnd).2 hm hp
   unfold aN at ih
   rw[List.find?_cons_of_neg (by simp[hne])]
   exact ih
theorem rX (ls:List (List UInt8×Int))(n:Int):∀ (rs:List (aK×List UInt8×Int)),(∀ r∈rs,r.2.1=[]\/0<=aN ls r.2.1 n)->
 fA ls n rs=.inr (rs.map fun r=>if r.2.1=[] then r.1 else { r.1 with pl:=aN ls r.2.1 n })
 | [],_=>rfl
 | (i,nm,row) :: m,h=>by
  have ih:=rX ls n m fun r hr=>h r (List.mem_cons_of_mem _ hr)
  have h1:=h _ List.mem_cons_self
  simp only at h1
  unfold fA
  by_cases e:nm=[]
  ·rw[if_pos e,ih]
   simp[e]
  ·rw[if_neg e,if_neg (by rcases h1 with h1 | h1;exact absurd h1 e;omega),ih]
   simp[e]
-- lines
theorem sM:∀ s:List UInt8,bE s≠[]
 | []=>by simp[bE]
 | c :: r=>by
  unfold bE
  split
  ·simp
  ·cases h:bE r with
   | nil=>simp[fR]
   | cons a b=>simp[fR]
theorem ie:∀ (t r:List UInt8),Nl t->bE (t++10 :: r)=t :: bE r
 | [],r,_=>by simp[bE]
 | c :: t,r,h=>by
  have ih:=ie t r fun d hd=>h d (List.mem_cons_of_mem _ hd)
  show bE (c :: (t++10 :: r))=_
  rw[bE,if_neg (h c List.mem_cons_self),ih]
  rfl
theorem jm:∀ (l:List (List UInt8)),(∀ s∈l,Nl s)->bE (l.flatMap fun s=>s++[10])=l++[[]]
 | [],_=>rfl
 | s :: m,h=>by
  have ih:=jm m fun x hx=>h x (List.mem_cons_of_mem _ hx)
  rw[List.flatMap_cons,List.append_assoc]
  show bE (s++10 :: (m.flatMap fun s=>s++[10]))=_
  rw[ie s _ (h s List.mem_cons_self),ih]
  rfl
def kY (c:fy)(i:aK):aK×List UInt8:=if bD i=P then ({ i with pl:=0 },dJ c i.pl) else (i,[])
def Dj (ls:List (List UInt8×Int))(n:Int)(q:aK×List UInt8):aK:=if q.2=[] then q.1 else { q.1 with pl:=aN ls q.2 n }
theorem rx (c:fy)(k:Int):dJ c k≠[]:=by
 unfold dJ dx bn
 split
 ·simp
 ·split <;> simp
theorem yz (c:fy)(i:aK)(hi:i∈c.l)(hg:bD i=P):dJ c i.pl∈bT c i.pl:=by
 by_cases h1:i.pl=c.lo
 ·rw[show dJ c i.pl=dx by unfold dJ;rw[if_pos h1]]
  unfold bT
  simp[h1]
 ·by_cases h2:i.pl=c.un
  ·rw[show dJ c i.pl=bn by unfold dJ;rw[if_neg h1,if_pos h2]]
   unfold bT
   refine List.mem_append.2 (.inr (List.mem_append.2 (.inl ?_)))
   rw[if_pos h2]
   exact List.mem_cons_self
  ·have hw:zP c i.pl=P:=by
    unfold zP
    rw[List.any_eq_true]
    exact⟨i,hi,by simp[hg]⟩
   unfold bT
   simp[h1,h2,hw]
theorem zh (c:fy)(hc:iZ c=P)(toks:List ql)(hok:∀ t∈toks,t.Ok)(hnd:(cT toks).Nodup)(hnl:∀ t∈toks,Nl t.text)
 (hrows:(cc toks 1).map (fun r=>(r.1,r.2.1))=c.l.map (kY c)) (hl:∀ (j:Int) (x:List UInt8),0<=j->j<c.l.length->x∈bT c j->(x,j)∈dg toks 0):
 eb ((toks.map ql.text).flatMap fun s=>s++[10])=(c,0,0):=by
 unfold iZ at hc
 simp only[Bool.and_eq_true,decide_eq_true_eq,List.all_eq_true] at hc
 obtain⟨c1,c2,c3,c4,c5,c6,c7⟩:=hc
 have hlen:(cc toks 1).length=c.l.length:=by
  have:=congrArg List.length hrows
  simpa using this
 have hp:=jm (toks.map ql.text) (by
  intro s hs
  obtain⟨t,ht,rfl⟩:=List.mem_map.1 hs
  exact hnl t ht)
 have h1:=kz toks 1 [] [] hok (by simpa using hnd) (by simpa [hlen] using c2)
 simp only[List.nil_append,List.length_nil,Int.ofNat_zero] at h1
 have hfnd:∀ (j:Int) (x:List UInt8),0<=j->j<c.l.length->x∈bT c j->aN (dg toks 0) x c.l.length=j:=fun j x j0 j1 hx=>
  rH _ _ _ _ (by rw[ja];exact hnd) (hl j x j0 j1 hx) j1
 have hlo:aN (dg toks 0) dx c.l.length=c.lo:=hfnd c.lo dx c3 c5 (by unfold bT;simp)
 have hun:aN (dg toks 0) bn c.l.length=c.un:=hfnd c.un bn c4 c6 (by unfold bT;simp)
 have hgo:∀ i∈c.l,bD i=P->aN (dg toks 0) (dJ c i.pl) c.l.length=i.pl:=fun i hi hg=>
  hfnd i.pl _ (lM (c7 i hi) hg).1 (lM (c7 i hi) hg).2 (yz c i hi hg)
 have h2:fA (dg toks 0) c.l.length (cc toks 1)=.inr c.l:=by
  have e:∀ r∈cc toks 1,∃ i∈c.l,(r.1,r.2.1)=kY c i:=fun r hr=>by
   have:(r.1,r.2.1)∈c.l.map (kY c):=by rw[<-hrows];exact List.mem_map.2 ⟨r,hr,rfl⟩
   obtain⟨i,hi,he⟩:=List.mem_map.1 this
   exact⟨i,hi,he.symm⟩
  rw[rX]
  ·congr 1
   have e2:(cc toks 1).map (fun r=>if r.2.1=[] then r.1 else { r.1 with pl:=aN (dg toks 0) r.2.1 c.l.length }) =
    ((cc toks 1).map fun r=>(r.1,r.2.1)).map (Dj (dg toks 0) c.l.length):=by
    rw[List.map_map];rfl
   rw[e2,hrows,List.map_map]
   conv=>rhs;rw[<-List.map_id c.l]
   refine List.map_congr_left fun i hi=>?_
   show Dj (dg toks 0) c.l.length (kY c i)=i
   by_cases hg:bD i=P
   ·rw[show kY c i=({ i with pl:=0 },dJ c i.pl) from if_pos hg]
    unfold Dj
    simp only
    rw[if_neg (rx c _),hgo i hi hg]
   ·rw[show kY c i=(i,[]) from if_neg hg]
    rfl
  ·intro r hr
   obtain⟨i,hi,he⟩:=e r hr
   unfold kY at he
   by_cases hg:bD i=P
   ·rw[if_pos hg] at he
    injection he with e3 e4
    right
    rw[e4,hgo i hi hg]
    exact(lM (c7 i hi) hg).1
   ·rw[if_neg hg] at he
    injection he with e3 e4
    exact .inl e4
 unfold eb
 rw[hp,List.dropLast_concat,h1]
 simp only[List.getLastD_concat,hlen,h2,hlo,hun]
 rw[if_neg (by simp),if_neg (by omega)]
theorem lL {n:Int}(h:0<=n):Lib.itoa n=Lib.decDigits n.toNat:=by unfold Lib.itoa;rw[if_neg (by omega)]
theorem yG {m n:Int}(hm:0<=m)(hn:0<=n)(h:Lib.itoa m=Lib.itoa n):m=n:=by
 rw[lL hm,lL hn] at h
 have h1:=ig m.toNat
 rw[h,ig n.toNat] at h1
 injection h1 with h1
 omega
theorem mi {n:Int}(h:0<=n):∀ c∈Lib.itoa n,digB c=P:=by
 rw[lL h]
 intro c hc
 have:=kq n.toNat c hc
 unfold digB
 simp[this]
theorem Bn (n:Int):Nl (Lib.itoa n):=by
 have key:∀ k:Nat,Nl (Lib.decDigits k):=fun k c hc e=>by
  have:=kq k c hc
  rw[e] at this
  revert this
  decide
 unfold Lib.itoa
 split
 ·intro c hc
  rcases List.mem_cons.1 hc with rfl | hc
  ·decide
  ·exact key _ c hc
 ·exact key _
theorem mh {n:Int}(h0:0<=n)(h1:n<64):cf (108 :: Lib.itoa n)=P:=by
 have hd:=mi h0
 have hl:(Lib.itoa n).length<=2:=by
  rw[lL h0]
  exact oK 1 n.toNat (by omega)
 unfold cf
 simp only[Bool.and_eq_true,decide_eq_true_eq,List.all_eq_true,List.length_cons]
 refine⟨by omega,by omega,(show lh 108=P by decide),fun c hc=>?_⟩
 rcases List.mem_cons.1 hc with rfl | hc
 ·decide
 ·simp[hd c hc]
theorem sU (c:fy){k:Int}(h0:0<=k)(h1:k<64):cf (dJ c k)=P:=by
 unfold dJ
 split
 ·decide
 ·split
  ·decide
  ·exact mh h0 h1
theorem jd {c:fy}{k:Int}{x:List UInt8}(h:x∈bT c k):(x=dx/\k=c.lo)\/(x=bn/\k=c.un)\/(x=108 :: Lib.itoa k/\k≠c.lo/\k≠c.un):=by
 unfold bT at h
 rcases List.mem_append.1 h with h | h
 ·split at h
  ·exact .inl ⟨by simpa using h,by assumption⟩
  ·simp at h
 ·rcases List.mem_append.1 h with h | h
  ·split at h
   ·exact .inr (.inl ⟨by simpa using h,by assumption⟩)
   ·simp at h
  ·split at h
   ·rename_i hw
    refine .inr (.inr ⟨?_,hw.2⟩)
    have:x=dJ c k:=by simpa using h
    rw[this]
    unfold dJ
    rw[if_neg hw.2.1,if_neg hw.2.2]
   ·simp at h
theorem vV {c:fy}{k:Int}{x:List UInt8}(h:x∈bT c k)(h0:0<=k)(h1:k<64):cf x=P:=by
 rcases jd h with ⟨rfl,-⟩ | ⟨rfl,-⟩ | ⟨rfl,-⟩
 ·decide
 ·decide
 ·exact mh h0 h1
theorem uF {n:Int}(h:0<=n):dx≠108 :: Lib.itoa n:=by
 intro e
 unfold dx at e
 injection e with _ e
 have:=mi h 111 (by rw[<-e];simp)
 revert this
 decide
theorem nK (n:Int):bn≠108 :: Lib.itoa n:=by
 intro e
 unfold bn at e
 injection e with e _
 revert e
 decide
theorem sX {c:fy}{j k:Int}{x:List UInt8}(j0:0<=j)(k0:0<=k)(hj:x∈bT c j)(hk:x∈bT c k):j=k:=by
 rcases jd hj with ⟨e1,h1⟩ | ⟨e1,h1⟩ | ⟨e1,h1⟩ <;> rcases jd hk with ⟨e2,h2⟩ | ⟨e2,h2⟩ | ⟨e2,h2⟩
 ·omega
 ·rw[e1] at e2;exact absurd e2 (by decide)
 ·rw[e1] at e2;exact absurd e2 (uF k0)
 ·rw[e1] at e2;exact absurd e2 (by decide)
 ·omega
 ·rw[e1] at e2;exact absurd e2 (nK k)
 ·rw[e2] at e1;exact absurd e1 (uF j0)
 ·rw[e2] at e1;exact absurd e1 (nK j)
 ·rw[e1] at e2
  injection e2 with _ e2
  exact yG j0 k0 e2
theorem sY (c:fy)(k:Int):(bT c k).Nodup:=by
 have hne:dx≠bn:=by decide
 unfold bT
 by_cases h1:k=c.lo
 ·by_cases h2:k=c.un
  ·rw[if_pos h1,if_pos h2,if_neg (fun h=>h.2.1 h1)];simp[hne]
  ·rw[if_pos h1,if_neg h2,if_neg (fun h=>h.2.1 h1)];simp
 ·by_cases h2:k=c.un
  ·rw[if_neg h1,if_pos h2,if_neg (fun h=>h.2.2 h2)];simp
  ·rw[if_neg h1,if_neg h2];split <;> simp
def bK (c:fy):List aK->Int->List ql
 | [],_=>[]
 | i :: more,k=>(bT c k).map ql.lab++ql.ins (kY c i).1 (kY c i).2 (bG c i) :: bK c more (k+1)
theorem nO (c:fy):∀ (l:List aK) (k:Int),(bK c l k).map ql.text=eX c l k
 | [],_=>rfl
 | i :: m,k=>by
  simp only[bK,eX,List.map_append,List.map_map,List.map_cons,nO c m (k+1)]
  rfl
theorem kf:∀ (a b:List ql),cT (a++b)=cT a++cT b
 | [],b=>rfl
 | .lab nm :: a,b=>by simp[cT,kf a b]
 | .ins _ _ _ :: a,b=>by simp[cT,kf a b]
theorem oo:∀ l:List (List UInt8),cT (l.map ql.lab)=l
 | []=>rfl
 | x :: l=>by simp[cT,oo l]
theorem mg (c:fy)(i:aK)(m:List aK)(k:Int):cT (bK c (i :: m) k)=bT c k++cT (bK c m (k+1)):=by
 rw[bK,kf,oo]
 rfl
theorem om (c:fy):∀ (l:List aK) (k:Int) (x:List UInt8),x∈cT (bK c l k)->∃ j,k<=j/\j<k+l.length/\x∈bT c j
 | [],k,x,h=>by simp[bK,cT] at h
 | i :: m,k,x,h=>by
  rw[mg] at h
  rcases List.mem_append.1 h with h | h
  ·exact⟨k,Int.le_refl _,by simp;omega,h⟩
  ·obtain⟨j,h1,h2,h3⟩:=om c m (k+1) x h
   exact⟨j,by omega,by simp;omega,h3⟩
theorem kG (c:fy):∀ (l:List aK) (k:Int),0<=k->(cT (bK c l k)).Nodup
 | [],k,_=>by simp[bK,cT]
 | i :: m,k,h=>by
  rw[mg,List.nodup_append]
  refine⟨sY c k,kG c m (k+1) (by omega),fun x hx y hy e=>?_⟩
  subst e
  obtain⟨j,h1,h2,h3⟩:=om c m (k+1) x hy
  have:=sX h (by omega) hx h3
  omega
theorem km:∀ (a b:List ql) (k:Int),dg (a++b) k=dg a k++dg b (k+(cc a 0).length)
 | [],b,k=>by simp[dg,cc]
 | .lab nm :: a,b,k=>by
  have:(cc a (0+1)).length=(cc a 0).length:=rows_len a _ _
  simp only[List.cons_append,dg,cc,km a b k,this]
 | .ins _ _ _ :: a,b,k=>by
  have:(cc a (0+1)).length=(cc a 0).length:=rows_len a _ _
  simp only[List.cons_append,dg,cc,km a b (k+1),List.length_cons,this]
  congr 2
  simp
  omega
where
 rows_len:∀ (a:List ql) (m n:Int),(cc a m).length=(cc a n).length
  | [],_,_=>rfl
  | .lab _ :: a,m,n=>by simp only[cc];exact rows_len a _ _
  | .ins _ _ _ :: a,m,n=>by simp only[cc,List.length_cons];rw[rows_len a _ _]
theorem qW (l:List (List UInt8))(n:Int):cc (l.map ql.lab) n=[]:=by
 induction l generalizing n with
 | nil=>rfl
 | cons x l ih=>simp only[List.map_cons,cc];exact ih _
theorem vW (l:List (List UInt8))(k:Int):dg (l.map ql.lab) k=l.map fun x=>(x,k):=by
 induction l with
 | nil=>rfl
 | cons x l ih=>simp only[List.map_cons,dg,ih]
theorem sZ (c:fy)(i:aK)(m:List aK)(k q:Int):dg (bK c (i :: m) k) q=(bT c k).map (fun x=>(x,q))++dg (bK c m (k+1)) (q+1):=by
 rw[bK,km,qW,vW]
 simp[dg]
theorem rp (c:fy):∀ (l:List aK) (k j:Int) (x:List UInt8),k<=j->j<k+l.length->x∈bT c j->(x,j)∈dg (bK c l k) k
 | [],k,j,x,h1,h2,_=>by simp at h2;omega
 | i :: m,k,j,x,h1,h2,h=>by
  rw[sZ]
  by_cases e:j=k
  ·subst e
   exact List.mem_append.2 (.inl (List.mem_map.2 ⟨x,h,rfl⟩))
  ·exact List.mem_append.2 (.inr (rp c m (k+1) j x (by omega) (by simp at h2;omega) h))
theorem ka:∀ (a b:List ql) (n:Int),cc (a++b) n=cc a n++cc b (n+a.length)
 | [],b,n=>by simp[cc]
 | .lab nm :: a,b,n=>by
  simp only[List.cons_append,cc,ka a b (n+1),List.length_cons]
  congr 2
  simp
  omega
 | .ins _ _ _ :: a,b,n=>by
  simp only[List.cons_append,cc,ka a b (n+1),List.length_cons]
  congr 3
  simp
  omega
theorem nU (c:fy):∀ (l:List aK) (k n:Int),(cc (bK c l k) n).map (fun r=>(r.1,r.2.1))=l.map (kY c)
 | [],_,_=>rfl
 | i :: m,k,n=>by
  rw[bK,ka,qW]
  simp[cc,nU c m]
theorem B0 (op:Int):Nl (bF op):=by
 rcases cj op with rfl|rfl|rfl|rfl|rfl|rfl|rfl|rfl|rfl|rfl|rfl|rfl|rfl|rfl|rfl|rfl|rfl|rfl|rfl|rfl|rfl | hn
 all_goals first | (unfold Nl;decide) | (rw[(dr hn).2];unfold Nl;simp)
theorem AR (i:aK)(x:Int):Nl (aX i x):=by
 have key:∀ (a:List UInt8) (n:Int),(∀ y∈a,y≠10)->Nl (a++Lib.itoa n):=fun a n ha=>Nl.app ha (Bn n)
 have k1:∀ n:Int,Nl (32 :: Lib.itoa n):=fun n=>key [32] n (by decide)
 unfold aX
 repeat' split
 all_goals first
  | exact k1 _
  | exact key _ _ (by decide)
  | (unfold Nl;decide)
theorem mR (i:aK):∀ l:List UInt8,Nl (aA i l)
 | []=>by unfold Nl aA;simp
 | x :: l=>by
  have:aA i (x :: l)=aX i x.toNat++aA i l:=by simp[aA]
  rw[this]
  exact Nl.app (AR i _) (mR i l)
theorem An (i:aK):Nl (aj i):=Nl.app (B0 _) (mR i _)
theorem Bs (i:aK):Nl (eN i):=by
 unfold eN
 refine Nl.app (Nl.app (B0 _) (mR i _)) ?_
 split <;> (unfold Nl;decide)
theorem uE {s:List UInt8}(h:cf s=P):Nl s:=by
 unfold cf at h
 simp only[Bool.and_eq_true] at h
 intro c hc e
 have:=List.all_eq_true.1 h.2.2.2 c hc
 subst e
 revert this
 decide
theorem Bo (n:Int):Lib.itoa n≠[]:=by
 unfold Lib.itoa
 split
 ·simp
 ·obtain⟨c,r,h,-⟩:=iy n.toNat
  rw[h]
  simp
theorem vh {i:aK}{p:Int}(hr:au i p=P):∃ r,aj i=bF i.op++32 :: r/\r≠[]:=by
 have hh:=jx hr
 have hi:=Bo
 obtain⟨op,d,s,t,u,a,k,pl⟩:=i
 simp only at hh
 rcases cj op with rfl|rfl|rfl|rfl|rfl|rfl|rfl|rfl|rfl|rfl|rfl|rfl|rfl|rfl|rfl|rfl|rfl|rfl|rfl|rfl|rfl | hn
 all_goals first
  | exact absurd (dr hn).1 hh
  | (unfold aj aA;simp only[db];simp[aX,ba,hi])
theorem Cz (c:fy)(i:aK)(hr:au i c.l.length=P)(hc:c.l.length<=64)(k0:0<=i.k)(k1:i.k<4294967296):(ql.ins (kY c i).1 (kY c i).2 (bG c i)).Ok/\Nl (bG c i):=by
 unfold ql.Ok bG
 simp only
 by_cases hg:bD i=P
 ·have hp:=lM hr hg
  have hn:=sU c hp.1 (by omega:i.pl<64)
  rw[if_pos hg,show kY c i=({ i with pl:=0 },dJ c i.pl) from if_pos hg]
  obtain⟨a,ha⟩:=oC i
  exact⟨⟨B1 (a:=a) (b:=dJ c i.pl) (by rw[ha];simp) (rx c _),vT i hr (by omega) k0 k1 hg _ hn⟩,Nl.app (Bs i) (uE hn)⟩
 ·rw[if_neg hg,show kY c i=(i,[]) from if_neg hg]
  obtain⟨r,h1,h2⟩:=vh hr
  exact⟨⟨B1 h1 h2,vR i hr (by omega) k0 k1 (by simpa using hg)⟩,An i⟩
theorem uh (c:fy)(hc:c.l.length<=64):∀ (l:List aK) (k:Int),0<=k->k+l.length<=64->(∀ i∈l,au i c.l.length=P/\0<=i.k/\i.k<4294967296)->∀ t∈bK c l k,t.Ok/\Nl t.text
 | [],k,_,_,_,t,ht=>by simp[bK] at ht
 | i :: m,k,h0,h1,h,t,ht=>by
  rw[bK] at ht
  simp only[List.length_cons] at h1
  rcases List.mem_append.1 ht with ht | ht
  ·obtain⟨x,hx,rfl⟩:=List.mem_map.1 ht
   have hn:=vV hx h0 (by omega)
   exact⟨hn,Nl.app (uE hn) (by unfold Nl;decide)⟩
  ·rcases List.mem_cons.1 ht with rfl | ht
   ·obtain⟨a,b,d⟩:=h i List.mem_cons_self
    exact Cz c i a hc b d
   ·exact uh c hc m (k+1) (by omega) (by omega) (fun i hi=>h i (List.mem_cons_of_mem _ hi)) t ht
theorem vz {c:fy}(h:iZ c=P):c.l.length<=64/\∀ i∈c.l,au i c.l.length=P:=by
 unfold iZ at h
 simp only[Bool.and_eq_true,decide_eq_true_eq,List.all_eq_true] at h
 exact⟨h.2.1,h.2.2.2.2.2.2⟩
theorem wU (c:fy)(hc:iZ c=P)(hk:∀ i∈c.l,0<=i.k/\i.k<4294967296):eb (pU c)=(c,0,0):=by
 obtain⟨h1,h2⟩:=vz hc
 have hok:=uh c h1 c.l 0 (by omega) (by omega) fun i hi=>⟨h2 i hi,hk i hi⟩
 unfold pU
 rw[<-nO]
 exact zh c hc _ (fun t ht=>(hok t ht).1) (kG c _ _ (by omega)) (fun t ht=>(hok t ht).2) (nU c _ _ _)
  fun j x j0 j1 hx=>rp c c.l 0 j x j0 (by omega) hx
theorem yL {ls:List (List UInt8×Int)}{s:List UInt8}{n:Int}(h:0<=aN ls s n):aN ls s n<n:=by
 unfold aN at *
 split at h
 ·rename_i x hx
  have:=List.find?_some hx
  simp only[Bool.and_eq_true,decide_eq_true_eq] at this
  exact this.2
 ·omega
def dF (ls:List (List UInt8×Int))(rs:List (aK×List UInt8×Int)):fy×Int×Int:=
 match fA ls rs.length rs with
 | .inl (n,e)=>(fy.zero,n,e)
 | .inr l=>if aN ls dx rs.length<0\/aN ls bn rs.length<0 then (fy.zero,0,10)
  else (⟨l,aN ls dx rs.length,aN ls bn rs.length⟩,0,0)
def gJ (t:List UInt8)(n:Int)(ls:List (List UInt8×Int))(rs:List (aK×List UInt8×Int)):fy×Int×Int:=
 match qd (bE t).dropLast n ls rs with
 | .inl (m,e)=>(fy.zero,m,e)
 | .inr (ls,rs)=>if (bE t).getLastD []≠[] then (fy.zero,n+(bE t).length-1,8) else dF ls rs
theorem oM (text:List UInt8):eb text=gJ text 1 [] []:=by
 have e:(1:Int)+((bE text).length:Int)-1=((bE text).length:Int):=by omega
 unfold eb gJ dF
 rw[e]
theorem nu {α:Type}(x:α)(l:List α)(h:l≠[]):(x :: l).dropLast=x :: l.dropLast:=by
 cases l with
 | nil=>exact absurd rfl h
 | cons a b=>rfl
theorem lA {α:Type}(x d:α)(l:List α)(h:l≠[]):(x :: l).getLastD d=l.getLastD d:=by
 cases l with
 | nil=>exact absurd rfl h
 | cons a b=>rfl
theorem eU (s r:List UInt8)(h:Nl s)(n:Int)(ls:List (List UInt8×Int))(rs:List (aK×List UInt8×Int)):
 gJ (s++10 :: r) n ls rs =
  if qk s=P then (if (ls.any fun x=>x.1==s.dropLast)=P then (fy.zero,n,2) else gJ r (n+1) (ls++[(s.dropLast,(rs.length:Int))]) rs)
  else match dP s with
   | none=>(fy.zero,n,8)
   | some (i,nm)=>if 64<=rs.length then (fy.zero,n,9) else gJ r (n+1) ls (rs++[(i,nm,n)]):=by
 have hp:=ie s r h
 have hne:=sM r
 have e:n+((bE (s++10 :: r)).length:Int)-1=n+1+((bE r).length:Int)-1:=by
  rw[hp]
  simp
  omega
 unfold gJ
 rw[e,hp,nu _ _ hne,lA _ _ _ hne]
 simp only[qd]
 by_cases h1:qk s=P
 ·simp only[h1,if_true]
  by_cases h2:(ls.any fun x=>x.1==s.dropLast)=P
  ·simp only[h2,if_true]
  ·simp only[h2]
   rfl
 ·simp only[h1]
  cases hl:dP s with
  | none=>simp
  | some q=>
   obtain⟨i,nm⟩:=q
   simp only
   by_cases h3:64<=rs.length
   ·simp[h3]
   ·simp[h3]
theorem iK (s:List UInt8)(h:Nl s)(n:Int)(ls:List (List UInt8×Int))(rs:List (aK×List UInt8×Int)):gJ s n ls rs=if s≠[] then (fy.zero,n,8) else dF ls rs:=by
 have hp:∀ t:List UInt8,Nl t->bE t=[t]:=by
  intro t
  induction t with
  | nil=>intro _;rfl
  | cons c t ih=>
   intro ht
   rw[bE,if_neg (ht c List.mem_cons_self),ih fun d hd=>ht d (List.mem_cons_of_mem _ hd)]
   rfl
 unfold gJ
 rw[hp s h]
 simp[qd]
theorem wX (ls:List (List UInt8×Int))(n:Int)(i:aK)(row:Int)(more:List (aK×List UInt8×Int)):
 fA ls n ((i,[],row) :: more)=match fA ls n more with | .inl e=>.inl e | .inr l=>.inr (i :: l):=by
 simp only[fA]
 rfl
theorem oN (ls:List (List UInt8×Int))(n:Int)(i:aK)(nm:List UInt8)(hn:nm≠[])(row:Int)(more:List (aK×List UInt8×Int)):
 fA ls n ((i,nm,row) :: more)=if aN ls nm n<0 then .inl (row,10) else match fA ls n more with | .inl e=>.inl e | .inr l=>.inr ({ i with pl:=aN ls nm n } :: l):=by
 simp only[fA]
 rw[if_neg hn]
theorem pY (n:Int)(h0:0<=n)(h9:n<10):Lib.itoa n=[(48:UInt8)+UInt8.ofNat n.toNat]:=by
 obtain rfl|rfl|rfl|rfl|rfl|rfl|rfl|rfl|rfl|rfl:n=0\/n=1\/n=2\/n=3\/n=4\/n=5\/n=6\/n=7\/n=8\/n=9:=by omega
 all_goals
  unfold Lib.itoa
  rw[if_neg (by decide),Lib.decDigits,dif_pos (by decide)]
  decide
theorem xN:bG dD ⟨20,1,0,0,0,0,1,0⟩=[102,97,100,100,32,114,49,32,48,32,114,48,32,49]/\bG dD ⟨12,0,0,0,0,0,1,0⟩=[109,97,114,107,32,49]/\bG dD ⟨21,2,0,1,0,1,0,-1⟩=[97,119,97,105,116,32,114,50,32,49,32,114,48,32,101,113,32,114,49]/\bG dD ⟨12,0,0,0,0,0,2,0⟩=[109,97,114,107,32,50]/\bG dD ⟨13,0,0,0,0,0,1,0⟩=[100,111,110,101,32,49]/\bG dD ⟨3,1,1,0,0,0,1,0⟩=[97,100,100,107,32,114,49,32,114,49,32,49]/\bG dD ⟨17,0,0,1,0,1,0,0⟩=[115,116,111,114,101,32,49,32,114,48,32,114,49]/\bG dD ⟨12,0,0,0,0,0,4,0⟩=[109,97,114,107,32,52]/\bG dD ⟨13,0,0,0,0,0,2,0⟩=[100,111,110,101,32,50]:=by
 have d0:Lib.itoa 0=[48]:=pY 0 (by decide) (by decide)
 have d1:Lib.itoa 1=[49]:=pY 1 (by decide) (by decide)
 have d2:Lib.itoa 2=[50]:=pY 2 (by decide) (by decide)
 have d4:Lib.itoa 4=[52]:=pY 4 (by decide) (by decide)
 refine⟨?_,?_,?_,?_,?_,?_,?_,?_,?_⟩
 all_goals
  unfold bG
  rw[if_neg (by decide)]
  simp[aj,aA,aX,db,bF,ba,d0,d1,d2,d4]
theorem xM:pU dD=fB:=by
 obtain⟨h0,h1,h2,h3,h4,h5,h6,h7,h8⟩:=xN
 have l0:bT dD 0=[dx]:=by decide
 have l1:bT dD (0+1)=[]:=by decide
 have l2:bT dD (0+1+1)=[]:=by decide
 have l3:bT dD (0+1+1+1)=[]:=by decide
 have l4:bT dD (0+1+1+1+1)=[]:=by decide
 have l5:bT dD (0+1+1+1+1+1)=[bn]:=by decide
 have l6:bT dD (0+1+1+1+1+1+1)=[]:=by decide
 have l7:bT dD (0+1+1+1+1+1+1+1)=[]:=by decide
 have l8:bT dD (0+1+1+1+1+1+1+1+1)=[]:=by decide
 have e:eX dD dD.l 0=[dx++[58],bG dD ⟨20,1,0,0,0,0,1,0⟩,bG dD ⟨12,0,0,0,0,0,1,0⟩,bG dD ⟨21,2,0,1,0,1,0,-1⟩,bG dD ⟨12,0,0,0,0,0,2,0⟩,bG dD ⟨13,0,0,0,0,0,1,0⟩,bn++[58],bG dD ⟨3,1,1,0,0,0,1,0⟩,bG dD ⟨17,0,0,1,0,1,0,0⟩,bG dD ⟨12,0,0,0,0,0,4,0⟩,bG dD ⟨13,0,0,0,0,0,2,0⟩]:=by
  show eX dD EF 0=_
  unfold EF
  simp only[eX,l0,l1,l2,l3,l4,l5,l6,l7,l8,List.map_nil,List.map_cons,List.nil_append,List.cons_append]
 unfold pU
 rw[e,h0,h1,h2,h3,h4,h5,h6,h7,h8]
 rfl
theorem mL:iZ dD=P:=by decide
theorem zp:∀ i∈dD.l,0<=i.k/\i.k<4294967296:=by decide
theorem zq:eb fB=(dD,0,0):=by
 rw[<-xM]
 exact wU dD mL zp
end
section
open Go.ChangeShapes Go.WideShapes Go.ChangeAt Go.RowKit
theorem je {w:World}{k:Nat}{s:ByteArray}{p:Nat}(h:w.heap[k]?=Z (.stringIter s p)):w.iterPos k=p:=by simp[World.iterPos,h]
theorem vt (s:List UInt8)(n:Nat)(h:n<s.length):jp (s.drop n) n=(xD n (s.getD n 0) && jp (s.drop (n+1)) (n+1)):=by
 rw[List.drop_eq_getElem_cons h,jp]
 simp[List.getD_eq_getElem?_getD,h]
def Dq (n c:Nat):Bool:=(decide (97<=c) && decide (c<=122)) || ((decide (48<=c) && decide (c<=57)) && decide (n≠0))
theorem CL (n:Nat)(c:UInt8):xD n c=Dq n c.toNat:=rfl
theorem uD {n c:Nat}(h:Dq n c=P):(97<=c/\c<=122)\/(48<=c/\c<=57/\n≠0):=by
 unfold Dq at h
 simp only[Bool.or_eq_true,Bool.and_eq_true,decide_eq_true_eq] at h
 omega
theorem CJ {n c:Nat}(h:Dq n c=V):c<48\/(48<=c/\c<=57/\n=0)\/(57<c/\c<97)\/122<c:=by
 unfold Dq at h
 simp only[Bool.or_eq_false_iff,Bool.and_eq_false_iff,decide_eq_false_iff_not] at h
 omega
theorem uR (s:List UInt8)(w:World):
 Calls Tryz.prog 96 #[bs s] w fun e w'=>e=.returned (.bool (cf s))/\Below w.heap.size w w':=by
 have hsz:(⟨s.toArray⟩:ByteArray).size=s.length:=by show s.toArray.size=_;simp
 unfold bs
 by_cases h0:s=[]
 ·subst h0
  go_enter Tryz.func96,Tryz.ntmps96
  go_wp2
  go_ret
  exact⟨rfl,H _ _⟩
 by_cases h1:16<s.length
 ·have e:cf s=V:=by
   unfold cf
   have:decide (s.length<=16)=V:=by simp;omega
   simp[this]
  rw[e]
  have q0:(s==[])=V:=by simpa using h0
  have q1:(16:Int)<s.length:=by omega
  go_enter Tryz.func96,Tryz.ntmps96
  go_wp2
  go_ret
  exact⟨rfl,H _ _⟩
 have q0:(s==[])=V:=by simpa using h0
 have q1:¬ (16:Int)<s.length:=by omega
 have hl:1<=s.length:=by cases s with
  | nil=>exact absurd rfl h0
  | cons=>simp
 have HN:=U (vN s hl (by omega))
 generalize cf s=r at *
 go_enter Tryz.func96,Tryz.ntmps96
 go_wp2
 go_loopw [2] (fun v wr=>∃ n:Nat,v=.bool V/\n<=s.length/\wr.heap[w.heap.size]?=Z (.stringIter ⟨s.toArray⟩ n)/\Below w.heap.size w wr/\Hid (r=jp (s.drop n) n))
  (fun v wr=>s.length-wr.iterPos w.heap.size)
 case atStart=>exact⟨0,rfl,by omega,World.iter_heap w _ 0,(H _ _).alloc (G _) _,U (by simpa using HN.out)⟩
 case round=>
  obtain⟨n,rfl,hn,hit,hb,HR⟩:=hrel
  have hpos:=je hit
  by_cases hp:n<s.length
  ·have hnx:∀ ty,(Instr.next (S (Z ⟨w.heap.size,0,O⟩)) P ty).run Tryz.prog wr=_:=fun ty=>Lib.run_next_any_at wr w.heap.size ⟨s.toArray⟩ n ty hit (by omega)
   have hg:(⟨s.toArray⟩:ByteArray)[n]'(by omega)=s.getD n 0:=by
    simp[ByteArray.getElem_eq_getElem_data,hp]
   have HD:=U (vt s n hp)
   have HK:Hid (xD n (s.getD n 0)=Dq n (s.getD n 0).toNat):=U (CL _ _)
   have hit2:=Lib.iterAt_heap wr w.heap.size ⟨s.toArray⟩ n (n+(Utf8.decode ⟨s.toArray⟩ n).2) hit
   have hb2:=Lib.below_iterAt hb (k:=w.heap.size) (G _) ⟨s.toArray⟩ (n+(Utf8.decode ⟨s.toArray⟩ n).2)
   by_cases hc:(s.getD n 0).toNat<128
   ·have hd:=decode_ascii ⟨s.toArray⟩ n (by omega) (by rw[hg];exact hc)
    rw[hg] at hd
    rw[hd] at hnx hit2 hb2
    simp only at hnx hit2 hb2
    clear hd hg hc
    generalize wr.iterAt w.heap.size ⟨s.toArray⟩ (n+1)=W1 at *
    rw[HK.out] at HD
    clear HK
    generalize (s.getD n 0).toNat=c at *
    clear hit
    cases ho:Dq n c with
    | true=>
     have HR2:Hid (r=jp (s.drop (n+1)) (n+1)):=U (by rw[HR.out,HD.out,ho];simp)
     rcases uD ho with ⟨k1,k2⟩ | ⟨k1,k2,k3⟩
     ·have z1:(97:Int)<=(c:Int):=by omega
      have z2:(c:Int)<=122:=by omega
      clear HR HD ho k1 k2
      go_wp2
      all_goals (
       go_roundw
       case rel=>exact⟨n+1,rfl,by omega,hit2,hb2,HR2⟩
       case measure=>rw[je hit2,hpos];omega)
     ·have z1:¬ (97:Int)<=(c:Int):=by omega
      have z2:(48:Int)<=(c:Int):=by omega
      have z3:(c:Int)<=57:=by omega
      have z4:((n:Int)==0)=V:=by simp;omega
      clear HR HD ho k1 k2
      go_wp2
      all_goals (
       go_roundw
       case rel=>exact⟨n+1,rfl,by omega,hit2,hb2,HR2⟩
       case measure=>rw[je hit2,hpos];omega)
    | false=>
     have HR2:Hid (r=V):=U (by rw[HR.out,HD.out,ho];simp)
     rcases CJ ho with k1 | ⟨k1,k2,k3⟩ | ⟨k1,k2⟩ | k1
     ·have z1:¬ (97:Int)<=(c:Int):=by omega
      have z2:¬ (48:Int)<=(c:Int):=by omega
      clear HR HD ho k1
      go_wp2
      go_ret
      exact⟨by rw[HR2.out];rfl,hb2⟩
     ·have z1:¬ (97:Int)<=(c:Int):=by omega
      have z2:(48:Int)<=(c:Int):=by omega
      have z3:(c:Int)<=57:=by omega
      have z4:((n:Int)==0)=P:=by simp;omega
      clear HR HD ho k1 k2
      go_wp2
      go_ret
      exact⟨by rw[HR2.out];rfl,hb2⟩
     ·have z1:¬ (97:Int)<=(c:Int):=by omega
      have z2:(48:Int)<=(c:Int):=by omega
      have z3:¬ (c:Int)<=57:=by omega
      clear HR HD ho k1 k2
      go_wp2
      go_ret
      exact⟨by rw[HR2.out];rfl,hb2⟩
     ·have z1:(97:Int)<=(c:Int):=by omega
      have z2:¬ (c:Int)<=122:=by omega
      have z3:(48:Int)<=(c:Int):=by omega
      have z4:¬ (c:Int)<=57:=by omega
      clear HR HD ho k1
      go_wp2
      go_ret
      exact⟨by rw[HR2.out];rfl,hb2⟩
   ·have hd:=(decode_high ⟨s.toArray⟩ n (by omega) (by rw[hg];omega)).1
    have HR2:Hid (r=V):=U (by
     rw[HR.out,HD.out,HK.out]
     have:Dq n (s.getD n 0).toNat=V:=by
      cases ho:Dq n (s.getD n 0).toNat with
      | false=>rfl
      | true=>rcases uD ho with ⟨k1,k2⟩ | ⟨k1,k2,k3⟩ <;> omega
     rw[this];simp)
    generalize (Utf8.decode ⟨s.toArray⟩ n).1=c at *
    generalize wr.iterAt w.heap.size ⟨s.toArray⟩ (n+(Utf8.decode ⟨s.toArray⟩ n).2)=W1 at *
    have z1:(97:Int)<=(c:Int):=by omega
    have z2:¬ (c:Int)<=122:=by omega
    have z3:(48:Int)<=(c:Int):=by omega
    have z4:¬ (c:Int)<=57:=by omega
    clear HR HD HK hd hc hg hit2 hit
    go_wp2
    go_ret
    exact⟨by rw[HR2.out];rfl,hb2⟩
  ·have hnx:∀ ty,(Instr.next (S (Z ⟨w.heap.size,0,O⟩)) P ty).run Tryz.prog wr=_:=fun ty=>Lib.run_next_end_at wr w.heap.size ⟨s.toArray⟩ n ty hit (by omega)
   have HR2:Hid (r=P):=U (by rw[HR.out,List.drop_of_length_le (by omega)];rfl)
   clear HR hit
   go_wp2
   go_ret
   exact⟨by rw[HR2.out];rfl,hb⟩
theorem qv (i:aK):(eI i=P/\(i.op=8\/i.op=9\/i.op=10))\/(i.op=21/\eI i=decide (i.pl≠-1))\/(eI i=V/\i.op≠8/\i.op≠9/\i.op≠10/\i.op≠21):=by
 unfold eI
 by_cases h:i.op=8\/i.op=9\/i.op=10
 ·exact .inl ⟨by simp[h],h⟩
 by_cases h2:i.op=21
 ·exact .inr (.inl ⟨h2,by simp[h2]⟩)
 ·exact .inr (.inr ⟨by simp[h,h2],by omega,by omega,by omega,h2⟩)
theorem wO (i:aK)(w:World):
 Calls Tryz.prog 141 #[iv i] w fun e w'=>e=.returned (.bool (eI i))/\Below w.heap.size w w':=by
 have hb:∀ cs:Array Value,Below w.heap.size w (w.alloc (.cells cs 119)):=fun cs=>(H _ _).alloc (G _) _
 have HP:=qv i
 generalize eI i=r at *
 obtain⟨op,d,s,t,u,a,k,pl⟩:=i
 simp only at HP
 unfold iv
 rcases HP with ⟨rfl,rfl|rfl|rfl⟩ | ⟨rfl,h⟩ | ⟨rfl,h1,h2,h3,h4⟩
 ·go_enter Tryz.func141,Tryz.ntmps141
  go_wp2
  go_ret
  exact⟨rfl,hb _⟩
 ·go_enter Tryz.func141,Tryz.ntmps141
  go_wp2
  go_ret
  exact⟨rfl,hb _⟩
 ·go_enter Tryz.func141,Tryz.ntmps141
  go_wp2
  go_ret
  exact⟨rfl,hb _⟩
 ·have HH:=U h
  clear h
  go_enter Tryz.func141,Tryz.ntmps141
  go_wp2
  go_ret
  refine⟨?_,hb _⟩
  rw[HH.out]
  congr 2
  simp[bne]
  by_cases e:pl=-1 <;> simp[e]
 ·have e1:(op==8)=V:=by simpa using h1
  have e2:(op==9)=V:=by simpa using h2
  have e3:(op==10)=V:=by simpa using h3
  have e4:(op==21)=V:=by simpa using h4
  go_enter Tryz.func141,Tryz.ntmps141
  go_wp2
  go_ret
  exact⟨rfl,hb _⟩
end
section
open Go.ChangeShapes Go.WideShapes Go.ChangeAt Go.RowKit Go.Shelf
attribute [local go_sem] Oper.semAt_some
theorem wN (s:List UInt8)(w:World):
 Calls Tryz.prog 59 #[bs s] w fun e w'=>e=.returned (.func (.func 93) #[] #[S (Z ⟨w.heap.size,0,O⟩)])/\w'=w.alloc (R #[bs s] 9):=by
 unfold bs
 go_enter Tryz.func59,Tryz.ntmps59
 go_wp2
 go_ret
 exact⟨rfl,rfl⟩
theorem qE (text:List UInt8)(b l:Nat)(W1:World)(hb:Bk W1 b 9 #[bs text])(hlen:text.length<1000000000):
 Dl Tryz.prog 93 #[S (Z ⟨b,0,O⟩)] (fun k=>#[I Q ((k:Int)+1),bs (d9 text k)]) (bu text).length l W1 (fun x=>W1.heap.size<=x/\x<W1.heap.size+5):=by
 intro J Jx hJ hJx hY h0
 have hc0:W1.cell? ⟨b,0,O⟩=Z (.string ⟨text.toArray⟩):=hb.cell 0
 have HL:=U (fun W=>callsIn_wide (n:=0) |>.2 (CS text W))
 refine callsIn_of_wp_marks Tryz.func93 rfl trivial ?_ rfl
 simp only[Tryz.ntmps93,List.size_toArray,List.length_cons,List.length_nil,Nat.reduceAdd,Nat.reduceSub,Array.replicate_succ,Array.replicate_zero,List.push_toArray,List.append_toArray,List.nil_append,List.cons_append]
 have y2:=Bk.alloc (Bk.made W1 192 #[.func (.yield l) #[] #[]]) (R #[I Q 0] 3)
 have n2:=Bk.made (W1.alloc (R #[.func (.yield l) #[] #[]] 192)) 3 #[I Q 0]
 have t2:=Bk.alloc (Bk.alloc hb (R #[.func (.yield l) #[] #[]] 192)) (R #[I Q 0] 3)
 have w2:ag W1 ((W1.alloc (R #[.func (.yield l) #[] #[]] 192)).alloc (R #[I Q 0] 3)) (fun _=>False):=((ag.refl _ _).alloc _).alloc _
 have s2:((W1.alloc (R #[.func (.yield l) #[] #[]] 192)).alloc (R #[I Q 0] 3)).heap.size=W1.heap.size+2:=by simp
 rw[World.size_alloc] at n2
 have hc2:((W1.alloc (R #[.func (.yield l) #[] #[]] 192)).alloc (R #[I Q 0] 3)).cell? ⟨b,0,O⟩=Z (.string ⟨text.toArray⟩):=t2.cell 0
 gi_wp2
 generalize (W1.alloc (R #[.func (.yield l) #[] #[]] 192)).alloc (R #[I Q 0] 3)=W2 at *
 refine⟨trivial,rfl,?_⟩
 refine(HL.out _).mono ?_
 rintro e W3 ⟨rfl,rfl⟩
 have y3:=y2.alloc (R #[bs text] 9)
 have n3:=n2.alloc (R #[bs text] 9)
 have t3:=Bk.made W2 9 #[bs text]
 have s3:(W2.alloc (R #[bs text] 9)).heap.size=W1.heap.size+3:=by simp[s2]
 have w3:ag W1 (W2.alloc (R #[bs text] 9)) (fun _=>False):=w2.alloc _
 rw[s2] at t3 ⊢
 generalize W2.alloc (R #[bs text] 9)=W3 at *
 clear hc2 t2 n2 y2 w2 s2 W2 HL hc0
 gi_wp2
 have e0:W3.heap.size=W1.heap.size+3:=s3
 refine lR (gf:=136) (lb:=#[S (Z ⟨W1.heap.size+2,0,O⟩)]) rfl (enters_of Tryz.func136 (by kernel_rfl) rfl)
  (encs:=fun k=>#[bs (d9 text k)]) (N:=(bu text).length) (T:=fun x=>x=W1.heap.size+2) (fun _=>rfl) (by omega) (by omega)
  (fun W4 hb4 hz4=>yH text _ _ W4 ((hb4.block _ (by omega)).trans t3) hlen)
  (fun k W=>J k W/\Bk W W1.heap.size 192 #[.func (.yield l) #[] #[]]/\Bk W (W1.heap.size+1) 3 #[I Q k])
  (fun c W=>c=.ret/\Jx W) ?calm ?calmx ⟨hJ 0 _ _ h0 (w3.wide (by simp)),y3,n3⟩
  (fun k=>{ tmps:=#[.func (.yield l) #[] #[],S (Z ⟨b,0,O⟩),S (Z ⟨W1.heap.size,0,O⟩),S (Z ⟨W1.heap.size+1,0,O⟩),.string ⟨(d9 text k).toArray⟩,.string ⟨text.toArray⟩,
   .func (.func 136) #[] #[S (Z ⟨W1.heap.size+2,0,O⟩)],.string ⟨(d9 text k).toArray⟩,undef,undef,undef,undef,undef,undef,undef],defers:=[] }) ?assign ?body ?done ?stop
 case calm=>
  rintro k A B ⟨j,y,n⟩ hw
  exact⟨hJ k A B j (hw.wide (by rintro i (rfl|rfl|rfl) _ <;> omega)),y.within hw (by omega),n.within hw (by omega)⟩
 case calmx=>
  rintro c A B ⟨rfl,j⟩ hw
  exact⟨rfl,hJx A B j (hw.wide (by rintro i (rfl|rfl|rfl) _ <;> omega))⟩
 case assign=>
  intro l2 k W K hK
  unfold bs
  gi_wp2
  exact hK
 case body=>
  rintro l2 k W hk ⟨hj,hy,hn⟩ hT
  have hkl:k<1000000000:=Nat.lt_of_lt_of_le hk (Nat.le_trans (kh text) (Nat.le_of_lt hlen))
  have hwr:wrap64 ((k:Int)+1)=(k:Int)+1:=by unfold wrap64;omega
  have cn:W.cell? ⟨W1.heap.size+1,0,O⟩=Z (I Q k):=hn.cell 0
  have fn:=hn.free 0
  have w1:ag W (W.setCell ⟨W1.heap.size+1,0,O⟩ (I Q ((k:Int)+1))) (fun x=>x=W1.heap.size+1):=(ag.refl _ _).put _ 0 _ (.inl rfl)
  have n1:Bk (W.setCell ⟨W1.heap.size+1,0,O⟩ (I Q ((k:Int)+1))) (W1.heap.size+1) 3 #[I Q ((k:Int)+1)]:=hn.put 0 _
  have y1:=hy.within w1 (by omega)
  have hj1:=hJ k _ _ hj (w1.wide (by rintro i rfl _;omega))
  obtain⟨fn2,tmps,assign,body,hyy,hR⟩:=hY k _ hk hj1 (by intro x hx;have:=w1.size;have:=hT (W3.heap.size+1) (.inr (.inl rfl));omega)
  unfold bs at hyy
  have cy:(W.setCell ⟨W1.heap.size+1,0,O⟩ (I Q ((k:Int)+1))).cell? ⟨W1.heap.size,0,O⟩=Z (.func (.yield l) #[] #[]):=y1.cell 0
  have cn1:(W.setCell ⟨W1.heap.size+1,0,O⟩ (I Q ((k:Int)+1))).cell? ⟨W1.heap.size+1,0,O⟩=Z (I Q ((k:Int)+1)):=n1.cell 0
  gi_wp2
  refine⟨rfl,RoundIn.mono (F:=Fence.wide) hR ?_⟩
  rintro e W5 ⟨hh,hQ⟩
  have hT5:gp (fun x=>x=W3.heap.size\/x=W3.heap.size+1\/x=W1.heap.size+2) W W5:=by
   refine⟨Nat.le_trans w1.size hh.1,?_⟩
   rintro x (rfl|rfl|rfl)
   ·exact(hh.2 _ ⟨by omega,by omega⟩).trans (w1.block _ (hT _ (.inl rfl)) (by omega))
   ·exact(hh.2 _ ⟨by omega,by omega⟩).trans (w1.block _ (hT _ (.inr (.inl rfl))) (by omega))
   ·exact(hh.2 _ ⟨by omega,by omega⟩).trans (w1.block _ (hT _ (.inr (.inr rfl))) (by omega))
  rcases hQ with ⟨rfl,hJ5⟩ | ⟨rfl,hJx5⟩
  ·gi_wp2
   exact⟨hT5,hJ5,(hh.2 _ ⟨by omega,by omega⟩).trans y1,(hh.2 _ ⟨by omega,by omega⟩).trans n1⟩
  ·gi_wp2
   exact⟨hT5,rfl,hJx5⟩
 case done=>
  rintro W ⟨hj,_,_⟩ hd
  gi_wp2
  refine⟨by simp,.inl ⟨_,_,rfl,run_takeDeferred hd,?_⟩⟩
  exact⟨_,results_none rfl _ _ _,⟨_,rfl⟩,.inl (hJ _ _ _ hj (cz _ _ _ _ ⟨by omega,by omega⟩))⟩
 case stop=>
  rintro c W ⟨rfl,hj⟩ hd
  gi_wp2
  refine⟨by simp,.inl ⟨_,_,rfl,run_takeDeferred hd,?_⟩⟩
  exact⟨_,results_none rfl _ _ _,⟨_,rfl⟩,.inr (hJx _ _ hj (cz _ _ _ _ ⟨by omega,by omega⟩))⟩
end
section
open Go.ChangeShapes Go.WideShapes Go.ChangeAt Go.RowKit
theorem DW (i:aK)(w:World):
 Calls Tryz.prog 103 #[iv i] w fun e w'=>e=.returned (.bool (bD i))/\Below w.heap.size w w':=by
 have HX:Hid (bD i=((decide (8<=i.op) && decide (i.op<=10)) || (decide (i.op=21) && decide (0<=i.pl)))):=U rfl
 generalize bD i=r at *
 obtain⟨op,d,s,t,u,a,k,pl⟩:=i
 unfold iv
 simp only at HX ⊢
 have k1:=Bk.made w 125 #[I Q op,I Q d,I Q s,I Q t,I Q u,I Q a,I .u32 k,I Q pl]
 have b0:Below w.heap.size w (w.alloc (R #[I Q op,I Q d,I Q s,I Q t,I Q u,I Q a,I .u32 k,I Q pl] 125)):=(H _ _).alloc (G _) _
 go_enter Tryz.func103,Tryz.ntmps103
 go_upto_region 1 with fail
 generalize w.alloc (R #[I Q op,I Q d,I Q s,I Q t,I Q u,I Q a,I .u32 k,I Q pl] 125)=x at *
 obtain⟨c0,c7⟩:x.cell? ⟨w.heap.size,0,O⟩=Z (I Q op)/\x.cell? ⟨w.heap.size,7,O⟩=Z (I Q pl):=⟨k1.cell 0,k1.cell 7⟩
 by_cases h1:8<=op
 ·by_cases h2:op<=10
  ·have HQ:Hid (r=P):=U (by rw[HX.out];simp[h1,h2])
   clear HX
   go_wp2
   go_ret
   exact⟨by rw[HQ.out];rfl,b0⟩
  ·by_cases h3:op=21
   ·have e3:(op==21)=P:=by simpa using h3
    by_cases h4:0<=pl
    ·have HQ:Hid (r=P):=U (by rw[HX.out];simp[h3,h4])
     subst h3
     clear HX
     go_wp2
     go_ret
     exact⟨by rw[HQ.out];rfl,b0⟩
    ·have HQ:Hid (r=V):=U (by rw[HX.out];simp[h2,h4])
     subst h3
     clear HX
     go_wp2
     go_ret
     exact⟨by rw[HQ.out];rfl,b0⟩
   ·have e3:(op==21)=V:=by simpa using h3
    have HQ:Hid (r=V):=U (by rw[HX.out];simp[h2,h3])
    clear HX h3
    go_wp2
    go_ret
    exact⟨by rw[HQ.out];rfl,b0⟩
 ·have h3:¬ op=21:=by omega
  have e3:(op==21)=V:=by simpa using h3
  have HQ:Hid (r=V):=U (by rw[HX.out];simp[h1,h3])
  clear HX h3
  go_wp2
  go_ret
  exact⟨by rw[HQ.out];rfl,b0⟩
theorem zl (s:List UInt8)(f:UInt8->Bool)(n:Nat)(h:n<s.length):(s.drop n).all f=(f (s.getD n 0) && (s.drop (n+1)).all f):=by
 rw[List.drop_eq_getElem_cons h,List.all_cons]
 simp[List.getD_eq_getElem?_getD,h]
theorem uq (s:List UInt8)(w:World):
 Calls Tryz.prog 62 #[bs s] w fun e w'=>e=.returned (.bool (cf s))/\w'=w:=by
 have HX:Hid (cf s=(decide (1<=s.length) && (decide (s.length<=16) && (lh (s.getD 0 0) && s.all fun c=>lh c || digB c)))):=U rfl
 generalize cf s=r at *
 unfold bs
 by_cases h1:1<=s.length
 ·have i1:¬ (s.length:Int)<1:=by omega
  by_cases h2:s.length<=16
  ·have i2:¬ (16:Int)<s.length:=by omega
   have hix:=fun W=>eA s 0 (by omega) W
   simp only[Int.natCast_zero] at hix
   have HL:Hid (lh (s.getD 0 0)=(decide (97<=(s.getD 0 0).toNat) && decide ((s.getD 0 0).toNat<=122))):=U rfl
   generalize (s.getD 0 0)=c0 at *
   by_cases h3:97<=c0.toNat
   ·by_cases h4:c0.toNat<=122
    ·have HR:Hid (r=(s.drop 0).all fun c=>lh c || digB c):=U (by rw[HX.out,HL.out];simp[h1,h2,h3,h4])
     clear HX HL
     generalize c0.toNat=q0 at *
     have z1:¬ (q0:Int)<97:=by omega
     have z2:¬ (122:Int)<q0:=by omega
     go_enter Tryz.func62,Tryz.ntmps62
     go_wp2
     clear hix z1 z2
     go_loopw [2,3] (fun v i wr=>∃ n:Nat,v=.bool V/\i=I Q n/\n<=s.length/\wr=w/\Hid (r=(s.drop n).all fun c=>lh c || digB c)) (fun _ i _=>s.length-(intOf i).toNat)
     case atStart=>exact⟨0,rfl,rfl,by omega,rfl,HR⟩
     case round=>
      obtain⟨n,rfl,rfl,hn,rfl,HA⟩:=hrel
      by_cases hlt:n<s.length
      ·have hii:(n:Int)<s.length:=by omega
       have hix:=fun W=>eA s n hlt W
       have HD:=U (zl s (fun c=>lh c || digB c) n hlt)
       have HL:Hid ((lh (s.getD n 0) || digB (s.getD n 0))=((decide (97<=(s.getD n 0).toNat) && decide ((s.getD n 0).toNat<=122)) || (decide (48<=(s.getD n 0).toNat) && decide ((s.getD n 0).toNat<=57)))):=U rfl
       generalize s.getD n 0=ch at *
       simp only[HL.out] at HD
       clear HL
       generalize ch.toNat=c at *
       by_cases y1:(97<=c/\c<=122)\/(48<=c/\c<=57)
       ·have HB:Hid (r=(s.drop (n+1)).all fun c=>lh c || digB c):=U (by
         rw[HA.out,HD.out]
         rcases y1 with ⟨a,b⟩ | ⟨a,b⟩ <;> simp[a,b])
        clear HA HD
        rcases y1 with ⟨a,b⟩ | ⟨a,b⟩
        ·have z1:(97:Int)<=c:=by omega
         have z2:(c:Int)<=122:=by omega
         go_wp2
         all_goals (
          go_roundw
          case rel=>exact⟨n+1,rfl,by go_num,by omega,by trivial,HB⟩
          case measure=>
           show s.length-((n:Int)+1).toNat<s.length-(n:Int).toNat
           omega)
        ·have z1:¬ (97:Int)<=c:=by omega
         have z2:(48:Int)<=c:=by omega
         have z3:(c:Int)<=57:=by omega
         go_wp2
         all_goals (
          go_roundw
          case rel=>exact⟨n+1,rfl,by go_num,by omega,by trivial,HB⟩
          case measure=>
           show s.length-((n:Int)+1).toNat<s.length-(n:Int).toNat
           omega)
       ·have HB:Hid (r=V):=U (by
         rw[HA.out,HD.out]
         have:((decide (97<=c) && decide (c<=122)) || (decide (48<=c) && decide (c<=57)))=V:=by
          simp only[Bool.or_eq_false_iff,Bool.and_eq_false_iff,decide_eq_false_iff_not]
          omega
         rw[this];rfl)
        clear HA HD
        by_cases z1:(97:Int)<=c
        ·have z2:¬ (c:Int)<=122:=by omega
         have z3:(48:Int)<=c:=by omega
         have z4:¬ (c:Int)<=57:=by omega
         clear y1
         go_wp2
         go_ret
         exact⟨by rw[HB.out];rfl,rfl⟩
        ·by_cases z3:(48:Int)<=c
         ·have z4:¬ (c:Int)<=57:=by omega
          clear y1
          go_wp2
          go_ret
          exact⟨by rw[HB.out];rfl,rfl⟩
         ·clear y1
          go_wp2
          go_ret
          exact⟨by rw[HB.out];rfl,rfl⟩
      ·have hii:¬ (n:Int)<s.length:=by omega
       have HB:Hid (r=P):=U (by rw[HA.out,List.drop_eq_nil_of_le (by omega)];rfl)
       clear HA
       go_wp2
       go_ret
       exact⟨by rw[HB.out];rfl,rfl⟩
    ·have HR:Hid (r=V):=U (by rw[HX.out,HL.out];simp[h4])
     clear HX HL
     generalize c0.toNat=q0 at *
     have z1:¬ (q0:Int)<97:=by omega
     have z2:(122:Int)<q0:=by omega
     go_enter Tryz.func62,Tryz.ntmps62
     go_wp2
     go_ret
     exact⟨by rw[HR.out];rfl,rfl⟩
   ·have HR:Hid (r=V):=U (by rw[HX.out,HL.out];simp[h3])
    clear HX HL
    generalize c0.toNat=q0 at *
    have z1:(q0:Int)<97:=by omega
    go_enter Tryz.func62,Tryz.ntmps62
    go_wp2
    go_ret
    exact⟨by rw[HR.out];rfl,rfl⟩
  ·have i2:(16:Int)<s.length:=by omega
   have HR:Hid (r=V):=U (by rw[HX.out];simp[h2])
   clear HX
   go_enter Tryz.func62,Tryz.ntmps62
   go_wp2
   go_ret
   exact⟨by rw[HR.out];rfl,rfl⟩
 ·have i1:(s.length:Int)<1:=by omega
  have HR:Hid (r=V):=U (by rw[HX.out];simp[h1])
  clear HX
  go_enter Tryz.func62,Tryz.ntmps62
  go_wp2
  go_ret
  exact⟨by rw[HR.out];rfl,rfl⟩
end
section
theorem BS {n:Nat}(h1:1<=n)(h64:n<=64):ia (gP n):=by
 refine⟨mL,zp,⟨by show 2<=8;omega,?_⟩,by show jh [1,1]<=8192;decide,h1,h64,by show 0<=8;omega⟩
 intro k hk
 have:k=0\/k=1:=by simp[gP] at hk;omega
 rcases this with rfl|rfl <;> (show 0<=(1:Int)/\(1:Int)<=4096;decide)
theorem Ct (n t:Nat):aG (qM n) t=0:=by
 unfold aG qM
 rw[List.getD_eq_getElem?_getD,List.getElem?_replicate]
 split <;> rfl
theorem Al (n:Nat):ip (qM n):=by
 intro x hx
 obtain⟨_,rfl⟩:=List.mem_replicate.1 hx
 omega
theorem lB (n:Nat):(qM n).length=n:=List.length_replicate
theorem Am {st:Int}(h0:0<=st)(h1:st<4294967296):ip [st,st]:=by
 intro x hx
 simp at hx
 subst hx
 exact⟨h0,h1⟩
end
section
open Go.ChangeShapes Go.WideShapes Go.ChangeAt Go.RowKit
def Aa (w:World)(a:Option Addr)(ls:List (List UInt8×Int)):Prop:=∀ j x,ls[j]?=Z x->∃ g,a=Z ⟨g,0,O⟩/\g<w.heap.size/\w.cell? ⟨g,j*2,O⟩=Z (bs x.1)/\w.cell? ⟨g,j*2+1,O⟩=Z (I Q x.2)
theorem Aa.below {w w':World}{a:Option Addr}{ls:List (List UInt8×Int)}(h:Aa w a ls)(hb:Below w.heap.size w w'):Aa w' a ls:=fun j x hx=>by
 obtain⟨g,e,h1,h2,h3⟩:=h j x hx
 exact⟨g,e,Nat.lt_of_lt_of_le h1 hb.size,(hb.cell (p:=⟨g,j*2,O⟩) h1).trans h2,(hb.cell (p:=⟨g,j*2+1,O⟩) h1).trans h3⟩
theorem tg (ls:List (List UInt8×Int))(s:List UInt8)(n:Int)(j:Nat)(h:j<ls.length):aN (ls.drop j) s n=if (ls[j].1==s && decide (ls[j].2<n))=P then ls[j].2 else aN (ls.drop (j+1)) s n:=by
 unfold aN
 rw[List.drop_eq_getElem_cons h,List.find?_cons]
 cases (ls[j].1==s && decide (ls[j].2<n)) <;> simp
theorem tQ (ls:List (List UInt8×Int))(s:List UInt8)(n:Int)(a:Option Addr)(cap:Nat)(w:World)(ha:Aa w a ls)(hl:ls.length<=1000000):
 Calls Tryz.prog 64 #[.slice a ls.length cap,bs s,I Q n] w fun e w'=>e=.returned (I Q (aN ls s n))/\Below w.heap.size w w':=by
 have HR:Hid (aN ls s n=aN (ls.drop 0) s n):=U rfl
 have HS:=U (fun j h=>tg ls s n j h)
 have HE:Hid (∀ j,¬ j<ls.length->aN (ls.drop j) s n=-1):=U fun j h=>by rw[List.drop_eq_nil_of_le (by omega)];rfl
 generalize aN ls s n=r at *
 unfold bs
 go_enter Tryz.func64,Tryz.ntmps64
 go_wp2
 go_loopw [6,11] (fun v i wr=>∃ j:Nat,v=I Q 0/\i=I Q j/\j<=ls.length/\Below w.heap.size w wr/\Hid (r=aN (ls.drop j) s n)) (fun _ i _=>ls.length-(intOf i).toNat)
 case atStart=>exact⟨0,rfl,rfl,Nat.zero_le _,H _ _,HR⟩
 case round=>
  clear HR
  obtain⟨j,rfl,rfl,hj,hb,HR⟩:=hrel
  by_cases hlt:j<ls.length
  ·have hji:(j:Int)<ls.length:=by omega
   obtain⟨g,rfl,hgl,e0,e1⟩:=(ha.below hb) j _ (List.getElem?_eq_getElem hlt)
   have HD:=U (HS.out j hlt)
   generalize ls[j]=x at *
   obtain⟨nm,at_⟩:=x
   simp only at e0 e1 HD
   unfold bs at e0
   go_upto_region 4 with fail
   have k1:=Bk.made wr 147 #[.string ⟨nm.toArray⟩,I Q at_]
   replace hb:=hb.alloc (o:=R #[.string ⟨nm.toArray⟩,I Q at_] 147) hb.size
   generalize wr.heap.size=q at *
   generalize wr.alloc (R #[.string ⟨nm.toArray⟩,I Q at_] 147)=y at *
   clear e0 e1
   obtain⟨y0,y1⟩:=k1.B7
   cases h1:(nm==s) with
   | true=>
    by_cases h2:at_<n
    ·have HQ:Hid (r=at_):=U (by rw[HR.out,HD.out,h1];simp[h2])
     obtain rfl:nm=s:=by simpa using h1
     clear HD HR HS HE h1
     go_wp2
     go_ret
     exact⟨by rw[HQ.out];rfl,hb⟩
    ·have HQ:Hid (r=aN (ls.drop (j+1)) s n):=U (by rw[HR.out,HD.out,h1];simp[h2])
     obtain rfl:nm=s:=by simpa using h1
     clear HD HR HS HE h1
     go_wp2
     go_roundw
     case rel=>exact⟨j+1,rfl,by go_num,by omega,hb,HQ⟩
     case measure=>
      show ls.length-((j:Int)+1).toNat<ls.length-(j:Int).toNat
      omega
   | false=>
    have HQ:Hid (r=aN (ls.drop (j+1)) s n):=U (by rw[HR.out,HD.out,h1];simp)
    clear HD HR HS HE
    go_wp2
    go_roundw
    case rel=>exact⟨j+1,rfl,by go_num,by omega,hb,HQ⟩
    case measure=>
     show ls.length-((j:Int)+1).toNat<ls.length-(j:Int).toNat
     omega
  ·have hji:¬ (j:Int)<ls.length:=by omega
   have HQ:Hid (r=-1):=U (by rw[HR.out,HE.out j hlt])
   clear HR HS HE
   go_wp2
   go_ret
   exact⟨by rw[HQ.out];rfl,hb⟩
end
