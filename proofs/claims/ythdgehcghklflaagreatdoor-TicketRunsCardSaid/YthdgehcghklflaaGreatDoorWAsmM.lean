import Derived.Test.YthdgehcghklflaaGreatDoorWMem
import Derived.Test.YthdgehcghklflaaGreatDoorWPrgM
import Derived.Test.YthdgehcghklflaaGreatDoorWInstP
import Derived.Test.YthdgehcghklflaaGreatDoorWRecs
import Derived.RegionTactic
import Derived.Laws.RangeAny
import Derived.Lib.OthersKept
import Derived.BigRegionIn
import Derived.Deep.RegionLawGrows
import Derived.Deep.RegionHeld3
import Derived.Deep.Onto
import Derived.Lib.SmallJoins
set_option linter.unusedVariables false
set_option maxHeartbeats 1000000
set_option maxRecDepth 100000
open Go.Value renaming int->I,pointer->S
open Go.IntKind renaming i64->Q
open Option renaming none->O,some->Z
open Bool renaming false->V,true->P
open Go.Obj renaming cells->U
open Go.Lib renaming hid->H
open Go.RowKit.Below renaming refl->G
open Nat renaming le_refl->E
namespace Go.Proofs.YthdgehcghklflaaGreatDoor
section
def lj (c:UInt8):Bool:=decide (97<=c.toNat) && decide (c.toNat<=122)
def digB (c:UInt8):Bool:=decide (48<=c.toNat) && decide (c.toNat<=57)
def cj (s:List UInt8):Bool:=decide (1<=s.length) && (decide (s.length<=16) && (lj (s.getD 0 0) && s.all fun c=>lj c || digB c))
def bJ (i:aJ):Bool:=(decide (8<=i.op) && decide (i.op<=10)) || (decide (i.op=21) && decide (0<=i.pl))
def eH (i:aJ):Bool:=decide (i.op=8\/i.op=9\/i.op=10) || (decide (i.op=21) && decide (i.pl≠-1))
def wN (n:Nat)(c:UInt8):Bool:=lj c || (digB c && decide (n≠0))
def jh:List UInt8->Nat->Bool
 | [],_=>P
 | c :: r,n=>wN n c && jh r (n+1)
theorem qE:∀ (s:List UInt8) (n:Nat),0<n->jh s n=s.all fun c=>lj c || digB c
 | [],_,_=>rfl
 | c :: r,n,h=>by
  have hn:decide (n≠0)=P:=by simpa using Nat.ne_of_gt h
  rw[jh,qE r (n+1) (by omega),List.all_cons,wN,hn,Bool.and_true]
theorem uZ (s:List UInt8)(h0:1<=s.length)(h1:s.length<=16):cj s=jh s 0:=by
 cases s with
 | nil=>simp at h0
 | cons c r=>
  unfold cj
  rw[jh,qE r 1 (by omega)]
  simp only[h0,h1,decide_true,Bool.true_and,List.getD_cons_zero,List.all_cons,wN]
  cases lj c <;> simp
theorem ri (ws:List (List UInt8)):0<=(aK ws).k/\(aK ws).k<4294967296:=by
 have hk:0<=lu ws.tail/\lu ws.tail<4294967296:=by unfold lu;split <;> omega
 unfold aK cY
 generalize lu ws.tail=k at *
 repeat' split
 all_goals (simp only;omega)
def p6 (s:List UInt8):Option aJ:=if jJ s=P then Z (aK (ah s)) else O
theorem iM (s:List UInt8)(i:aJ):p6 s=Z i↔au i 1073741824=P/\0<=i.k/\i.k<4294967296/\af i=s:=by
 unfold p6
 constructor
 ·intro h
  split at h
  ·rename_i hp
   injection h with h
   subst h
   have hp2:=hp
   unfold jJ at hp2
   simp only[Bool.and_eq_true,decide_eq_true_eq] at hp2
   exact⟨hp2.2.1,(ri _).1,(ri _).2,hp2.2.2⟩
  ·cases h
 ·rintro⟨hr,k0,k1,rfl⟩
  rw[if_pos (qj i hr k0 k1),(kP i hr k0 k1).2]
def dH (s:List UInt8):List UInt8:=(ah s).getLastD []
def dK (s:List UInt8):List UInt8:=s.take (s.length-(dH s).length)
def dX (s:List UInt8):Option (aJ×List UInt8):=
 match p6 (dK s++[48]) with
 | some i=>if bJ i=P/\cj (dH s)=P then Z (i,dH s)
  else match p6 s with
   | some j=>if bJ j=P then O else Z (j,[])
   | none=>O
 | none=>match p6 s with
  | some j=>if bJ j=P then O else Z (j,[])
  | none=>O
def p7 (s:List UInt8):Bool:=!s.isEmpty && (decide (s.getLastD 0=58) && cj s.dropLast)
def bK:List UInt8->List (List UInt8)
 | []=>[[]]
 | c :: r=>if c=10 then [] :: bK r else fY c (bK r)
def pZ:List (List UInt8)->Int->List (List UInt8×Int)->List (aJ×List UInt8×Int)->(Int×Int) ⊕ (List (List UInt8×Int)×List (aJ×List UInt8×Int))
 | [],_,ls,rs=>.inr (ls,rs)
 | s :: more,n,ls,rs=>
  if p7 s=P then
   if (ls.any fun x=>x.1==s.dropLast)=P then .inl (n,2) else pZ more (n+1) (ls++[(s.dropLast,(rs.length:Int))]) rs
  else match dX s with
   | none=>.inl (n,8)
   | some (i,nm)=>if 64<=rs.length then .inl (n,9) else pZ more (n+1) ls (rs++[(i,nm,n)])
def aW (ls:List (List UInt8×Int))(s:List UInt8)(n:Int):Int:=
 match ls.find? fun x=>x.1==s && decide (x.2<n) with
 | some x=>x.2
 | none=>-1
def fD (ls:List (List UInt8×Int))(n:Int):List (aJ×List UInt8×Int)->(Int×Int) ⊕ List aJ
 | []=>.inr []
 | (i,nm,row) :: more=>
  if nm=[] then
   match fD ls n more with
   | .inl e=>.inl e
   | .inr l=>.inr (i :: l)
  else if aW ls nm n<0 then .inl (row,10)
  else match fD ls n more with
   | .inl e=>.inl e
   | .inr l=>.inr ({ i with pl:=aW ls nm n } :: l)
def dD:List UInt8:=[108,111,99,107]
def bu:List UInt8:=[117,110,108,111,99,107]
def ez (text:List UInt8):fC×Int×Int:=
 match pZ (bK text).dropLast 1 [] [] with
 | .inl (n,e)=>(fC.zero,n,e)
 | .inr (ls,rs)=>
  if (bK text).getLastD []≠[] then (fC.zero,((bK text).length:Int),8)
  else match fD ls rs.length rs with
   | .inl (n,e)=>(fC.zero,n,e)
   | .inr l=>if aW ls dD rs.length<0\/aW ls bu rs.length<0 then (fC.zero,0,10)
    else (⟨l,aW ls dD rs.length,aW ls bu rs.length⟩,0,0)
def dQ (c:fC)(at_:Int):List UInt8:=if at_=c.lo then dD else if at_=c.un then bu else 108 :: Lib.itoa at_
def zl (c:fC)(k:Int):Bool:=c.l.any fun x=>bJ x && decide (x.pl=k)
def eM (i:aJ):List UInt8:=bM i.op++aE i (dh i.op).dropLast++(if i.op=21 then [32,101,108,115,101,32] else [32])
def bO (c:fC)(i:aJ):List UInt8:=if bJ i=P then eM i++dQ c i.pl else af i
def bX (c:fC)(k:Int):List (List UInt8):=
 (if k=c.lo then [dD] else [])++((if k=c.un then [bu] else [])++(if zl c k=P/\k≠c.lo/\k≠c.un then [dQ c k] else []))
def eY (c:fC):List aJ->Int->List (List UInt8)
 | [],_=>[]
 | i :: more,k=>(bX c k).map (fun s=>s++[58])++bO c i :: eY c more (k+1)
def pS (c:fC):List UInt8:=(eY c c.l 0).flatMap fun s=>s++[10]
-- words
theorem wh (c:UInt8)(a b:List (List UInt8))(h:a≠[]):fY c (a++b)=fY c a++b:=by
 cases a with
 | nil=>exact absurd rfl h
 | cons x y=>rfl
theorem nJ (s:List UInt8):ah s≠[]:=by
 have:=fR s
 intro h
 rw[h] at this
 simp at this
theorem fS:∀ (a b:List UInt8),ah (a++32 :: b)=ah a++ah b
 | [],b=>by simp[ah]
 | c :: a,b=>by
  have ih:=fS a b
  show ah (c :: (a++32 :: b))=_
  by_cases hc:c=32
  ·rw[ah,if_pos hc,ih,ah,if_pos hc];rfl
  ·rw[ah,if_neg hc,ih,ah,if_neg hc,wh _ _ _ (nJ a)]
theorem ko (a b:List UInt8)(h:Bf b):dH (a++32 :: b)=b:=by
 unfold dH
 rw[fS,cO b h]
 simp
theorem kr (a b:List UInt8)(h:Bf b):dK (a++32 :: b)=a++[32]:=by
 unfold dK
 rw[ko a b h]
 have e:(a++32 :: b).length-b.length=(a++[32]).length:=by simp;omega
 have e2:a++32 :: b=(a++[32])++b:=by simp
 rw[e,e2,List.take_left]
theorem pC {s:List UInt8}(h:cj s=P):Bf s:=by
 unfold cj at h
 simp only[Bool.and_eq_true] at h
 intro c hc e
 have:=List.all_eq_true.1 h.2.2.2 c hc
 subst e
 revert this
 decide
-- the name of an op
theorem mg (op:Int)(h:dh op≠[]):eP (bM op) 23=op:=by
 rcases co op with rfl|rfl|rfl|rfl|rfl|rfl|rfl|rfl|rfl|rfl|rfl|rfl|rfl|rfl|rfl|rfl|rfl|rfl|rfl|rfl|rfl | hn
 all_goals first | decide | exact absurd (dw hn).1 h
theorem jm {i:aJ}{p:Int}(h:au i p=P):dh i.op≠[]:=by
 unfold au at h
 simp only[Bool.and_eq_true,Bool.not_eq_true',List.isEmpty_eq_false_iff] at h
 exact h.1
theorem CA {i j:aJ}{p q:Int}(hi:au i p=P)(hj:au j q=P)(h:bM i.op=bM j.op):i.op=j.op:=by
 rw[<-mg i.op (jm hi),h,mg j.op (jm hj)]
theorem D3 (op:Int):Bf (bM op):=by
 rcases co op with rfl|rfl|rfl|rfl|rfl|rfl|rfl|rfl|rfl|rfl|rfl|rfl|rfl|rfl|rfl|rfl|rfl|rfl|rfl|rfl|rfl | hn
 all_goals first | (unfold Bf;decide) | (rw[(dw hn).2];unfold Bf;simp)
theorem ma {i:aJ}{p q:Int}(hq:p<=q)(h:au i p=P):au i q=P:=by
 unfold au at *
 simp only[Bool.and_eq_true,List.all_eq_true] at *
 refine⟨h.1,fun c hc=>?_,h.2.2⟩
 have:=h.2.1 c hc
 unfold nG dZ at *
 simp only[Bool.and_eq_true,decide_eq_true_eq] at *
 refine⟨this.1,?_⟩
 have h2:=this.2
 generalize (c.toNat:Int)=x at *
 generalize bf i x=y at *
 repeat' split at h2
 all_goals first | (simp_all;done) | (simp_all;omega)
theorem fV {i:aJ}(h:bJ i=P):i.op=8\/i.op=9\/i.op=10\/(i.op=21/\0<=i.pl):=by
 unfold bJ at h
 simp only[Bool.or_eq_true,Bool.and_eq_true,decide_eq_true_eq] at h
 omega
theorem lP {i:aJ}{p:Int}(hr:au i p=P)(h:bJ i=P):0<=i.pl/\i.pl<p:=by
 obtain⟨op,d,s,t,u,a,k,pl⟩:=i
 unfold au at hr
 rcases fV h with e | e | e | ⟨e,e2⟩ <;> (simp only at e;subst e;simp[dh,nG,eJ,dZ,bf] at hr;simp only at *)
 ·exact hr.1.2.2
 ·exact hr.1.2.2
 ·exact hr.1
 ·have:=hr.1.2.2.2.2.2.2
  split at this <;> omega
theorem xP (i:aJ)(h:bJ i=P)(p:Int):eM { i with pl:=p }=eM i:=by
 obtain⟨op,d,s,t,u,a,k,pl⟩:=i
 rcases fV h with e | e | e | ⟨e,e2⟩ <;> (simp only at e;subst e;simp[eM,dh,aE,aY,bf])
theorem uD (i:aJ)(h:bJ i=P)(h0:0<=i.pl):af i=eM i++Lib.itoa i.pl:=by
 obtain⟨op,d,s,t,u,a,k,pl⟩:=i
 rcases fV h with e | e | e | ⟨e,e2⟩
 ·simp only at e;subst e;simp[af,eM,dh,aE,aY,bf]
 ·simp only at e;subst e;simp[af,eM,dh,aE,aY,bf]
 ·simp only at e;subst e;simp[af,eM,dh,aE,aY,bf]
 ·simp only at e e2
  subst e
  have hne:pl≠-1:=by omega
  simp[af,eM,dh,aE,aY,bf,hne]
theorem oy (i:aJ):∃ a,eM i=a++[32]:=by
 unfold eM
 split
 ·exact⟨bM i.op++aE i (dh i.op).dropLast++[32,101,108,115,101],by simp⟩
 ·exact⟨bM i.op++aE i (dh i.op).dropLast,rfl⟩
theorem rU {i:aJ}{p q:Int}(hr:au i p=P)(h:bJ i=P)(hq:0<q):au { i with pl:=0 } q=P:=by
 obtain⟨op,d,s,t,u,a,k,pl⟩:=i
 unfold au at *
 rcases fV h with e | e | e | ⟨e,e2⟩ <;> (simp only at e;subst e;simp[dh,nG,eJ,dZ,bf,qu,oQ,cJ] at hr ⊢)
 ·refine⟨⟨hr.1.1,hr.1.2.1,hq⟩,hr.2⟩
 ·refine⟨⟨hr.1.1,hr.1.2.1,hq⟩,hr.2⟩
 ·refine⟨hq,hr.2⟩
 ·obtain⟨⟨q1,q2,q3,q4,q5,q6⟩,q7⟩:=hr
  refine⟨⟨q1,q2,q3,q4,q5,?_⟩,q7⟩
  split <;> omega
theorem oz {i:aJ}(h:bJ i=P):bJ { i with pl:=0 }=P:=by
 unfold bJ at *
 simp only[Bool.or_eq_true,Bool.and_eq_true,decide_eq_true_eq] at *
 omega
theorem vp:Lib.itoa 0=[48]:=by
 rw[show (0:Int)=((0:Nat):Int) from rfl,aD,Lib.decDigits,dif_pos (by decide)]
 rfl
theorem vh (i:aJ){p:Int}(hr:au i p=P)(hp:p<=1073741824)(k0:0<=i.k)(k1:i.k<4294967296)(h:bJ i=P)(nm:List UInt8)(hn:cj nm=P):
 dX (eM i++nm)=Z ({ i with pl:=0 },nm):=by
 obtain⟨a,ha⟩:=oy i
 have hs:eM i++nm=a++32 :: nm:=by rw[ha];simp
 have h1:dH (eM i++nm)=nm:=by rw[hs];exact ko a nm (pC hn)
 have h2:dK (eM i++nm)=eM i:=by rw[hs,kr a nm (pC hn),ha]
 have h3:p6 (eM i++[48])=Z { i with pl:=0 }:=by
  rw[iM]
  refine⟨rU hr h (by decide),k0,k1,?_⟩
  rw[uD _ (oz h) (Int.le_refl 0),xP i h 0]
  show eM i++Lib.itoa 0=_
  rw[vp]
 unfold dX
 rw[h2,h3,h1]
 simp only
 rw[if_pos ⟨oz h,hn⟩]
theorem iX:∀ s:List UInt8,Bf s\/∃ a b,Bf b/\s=a++32 :: b
 | []=>.inl (by unfold Bf;simp)
 | c :: r=>by
  rcases iX r with h | ⟨a,b,hb,rfl⟩
  ·by_cases hc:c=32
   ·exact .inr ⟨[],r,h,by rw[hc];rfl⟩
   ·refine .inl fun x hx=>?_
    rcases List.mem_cons.1 hx with rfl | hx
    ·exact hc
    ·exact h x hx
  ·exact .inr ⟨c :: a,b,hb,rfl⟩
theorem lY {i:aJ}{p:Int}(hr:au i p=P):∃ r,af i=bM i.op++32 :: r:=by
 have hh:=jm hr
 obtain⟨op,d,s,t,u,a,k,pl⟩:=i
 simp only at hh
 rcases co op with rfl|rfl|rfl|rfl|rfl|rfl|rfl|rfl|rfl|rfl|rfl|rfl|rfl|rfl|rfl|rfl|rfl|rfl|rfl|rfl|rfl | hn
 all_goals first
  | exact absurd (dw hn).1 hh
  | (unfold af aE;simp only[dh];simp[aY,bf])
theorem nP {i:aJ}{p:Int}(hr:au i p=P):(ah (af i)).head?=Z (bM i.op):=by
 obtain⟨r,h⟩:=lY hr
 rw[h,fS,cO _ (D3 _)]
 rfl
theorem lZ {i:aJ}{p:Int}(hr:au i p=P)(hp:p<=1073741824)(k0:0<=i.k)(k1:i.k<4294967296)(h:i.op=21):(i.pl=-1/\(ah (af i)).length=6)\/(0<=i.pl/\(ah (af i)).length=8):=by
 obtain⟨hd,hs,ht,hu,ha⟩:=eA i _ hr
 obtain⟨op,d,s,t,u,a,k,pl⟩:=i
 simp only at hd hs ht hu ha k0 k1 h
 subst h
 have hr2:=ma hp hr
 have hr3:=gN d s t u a k pl 1073741824 hd hs ht hu ha k0 k1
 rw[hr2] at hr3
 simp[dj] at hr3
 obtain⟨dn,rfl⟩:∃ n:Nat,d=n:=⟨d.toNat,by omega⟩
 obtain⟨sn,rfl⟩:∃ n:Nat,s=n:=⟨s.toNat,by omega⟩
 obtain⟨tn,rfl⟩:∃ n:Nat,t=n:=⟨t.toNat,by omega⟩
 obtain⟨un,rfl⟩:∃ n:Nat,u=n:=⟨u.toNat,by omega⟩
 obtain⟨an,rfl⟩:∃ n:Nat,a=n:=⟨a.toNat,by omega⟩
 obtain⟨kn,rfl⟩:∃ n:Nat,k=n:=⟨k.toNat,by omega⟩
 obtain rfl:un=0:=by omega
 by_cases hm:pl=-1
 ·subst hm
  refine .inl ⟨rfl,?_⟩
  by_cases hk:kn=0
  ·subst hk
   exact congrArg List.length (gh dn sn tn an 0)
  ·obtain rfl:kn=1:=by omega
   exact congrArg List.length (gd dn sn tn an 0)
 ·obtain⟨pn,rfl⟩:∃ n:Nat,pl=n:=⟨pl.toNat,by omega⟩
  refine .inr ⟨by simp,?_⟩
  by_cases hk:kn=0
  ·subst hk
   exact congrArg List.length (gg dn sn tn an pn)
  ·obtain rfl:kn=1:=by omega
   exact congrArg List.length (gc dn sn tn an pn)
theorem ve (i:aJ){p:Int}(hr:au i p=P)(hp:p<=1073741824)(k0:0<=i.k)(k1:i.k<4294967296)(h:bJ i=V):dX (af i)=Z (i,[]):=by
 have hr2:=ma hp hr
 have h0:p6 (af i)=Z i:=(iM _ _).2 ⟨hr2,k0,k1,rfl⟩
 unfold dX
 cases hj:p6 (dK (af i)++[48]) with
 | none=>simp only[h0,h];rfl
 | some j=>
  simp only
  rw[if_neg,h0]
  ·simp only[h];rfl
  ·rintro⟨hg,-⟩
   obtain⟨jr,j0,j1,jt⟩:=(iM _ _).1 hj
   rcases iX (af i) with hb | ⟨a,b,hb,hs⟩
   ·obtain⟨r,hr3⟩:=lY hr
    rw[hr3] at hb
    exact hb 32 (by simp) rfl
   ·rw[hs,kr a b hb] at jt
    have jt2:af j=a++32 :: [48]:=by rw[jt];simp
    have w1:ah (af i)=ah a++[b]:=by rw[hs,fS,cO b hb]
    have w2:ah (af j)=ah a++[[48]]:=by rw[jt2,fS,cO [48] (by simp)]
    have e1:=nP hr
    have e2:=nP jr
    rw[w1] at e1
    rw[w2] at e2
    have hop:i.op=j.op:=by
     refine CA hr jr ?_
     cases hw:ah a with
     | nil=>exact absurd hw (nJ a)
     | cons x y=>
      rw[hw] at e1 e2
      simp at e1 e2
      rw[<-e1,<-e2]
    rcases fV hg with e | e | e | ⟨e,e3⟩
    ·unfold bJ at h;rw[hop,e] at h;revert h;simp
    ·unfold bJ at h;rw[hop,e] at h;revert h;simp
    ·unfold bJ at h;rw[hop,e] at h;revert h;simp
    ·have c1:=lZ hr hp k0 k1 (hop.trans e)
     have c2:=lZ jr (Int.le_refl _) j0 j1 e
     rw[w1] at c1
     rw[w2] at c2
     simp only[List.length_append,List.length_cons,List.length_nil] at c1 c2
     have:¬ 0<=i.pl:=by
      unfold bJ at h
      rw[hop,e] at h
      simp at h
      omega
     omega
theorem BG {s a b:List UInt8}(h:s=a++32 :: b)(hb:b≠[]):p7 s=V:=by
 rw[Bool.eq_false_iff]
 intro hl
 unfold p7 at hl
 simp only[Bool.and_eq_true] at hl
 have hn:=pC hl.2.2
 refine hn 32 ?_ rfl
 rw[h,List.dropLast_append_of_ne_nil (by simp)]
 cases b with
 | nil=>exact absurd rfl hb
 | cons x y=>simp
theorem CF {s:List UInt8}(h:cj s=P):p7 (s++[58])=P:=by
 unfold p7
 simp[h]
inductive p8 where
 | lab (nm:List UInt8)
 | ins (i:aJ) (nm s:List UInt8)
def p8.text:p8->List UInt8
 | .lab nm=>nm++[58]
 | .ins _ _ s=>s
def p8.Ok:p8->Prop
 | .lab nm=>cj nm=P
 | .ins i nm s=>p7 s=V/\dX s=Z (i,nm)
def dk:List p8->Int->List (List UInt8×Int)
 | [],_=>[]
 | .lab nm :: m,k=>(nm,k) :: dk m k
 | .ins _ _ _ :: m,k=>dk m (k+1)
def ci:List p8->Int->List (aJ×List UInt8×Int)
 | [],_=>[]
 | .lab _ :: m,n=>ci m (n+1)
 | .ins i nm _ :: m,n=>(i,nm,n) :: ci m (n+1)
def cZ:List p8->List (List UInt8)
 | []=>[]
 | .lab nm :: m=>nm :: cZ m
 | .ins _ _ _ :: m=>cZ m
theorem iV:∀ (toks:List p8) (k:Int),(dk toks k).map (·.1)=cZ toks
 | [],_=>rfl
 | .lab nm :: m,k=>by simp[dk,cZ,iV m k]
 | .ins _ _ _ :: m,k=>by simp[dk,cZ,iV m (k+1)]
theorem kD:∀ (toks:List p8) (n:Int) (ls:List (List UInt8×Int)) (rs:List (aJ×List UInt8×Int)),(∀ t∈toks,t.Ok)->(ls.map (·.1)++cZ toks).Nodup->rs.length+(ci toks n).length<=64->
 pZ (toks.map p8.text) n ls rs=.inr (ls++dk toks rs.length,rs++ci toks n)
 | [],n,ls,rs,_,_,_=>by simp[pZ,dk,ci]
 | .lab nm :: m,n,ls,rs,hok,hnd,hc=>by
  have h1:cj nm=P:=hok _ List.mem_cons_self
  have hany:(ls.any fun x=>x.1==nm)=V:=by
   rw[Bool.eq_false_iff]
   intro h
   obtain⟨x,hx,he⟩:=List.any_eq_true.1 h
   have he2:x.1=nm:=by simpa using he
   have:=(List.nodup_append.1 hnd).2.2 x.1 (List.mem_map.2 ⟨x,hx,rfl⟩) nm (by simp[cZ])
   exact this he2
  have ih:=kD m (n+1) (ls++[(nm,(rs.length:Int))]) rs (fun t ht=>hok t (List.mem_cons_of_mem _ ht)) (by simpa [cZ] using hnd) (by simpa [ci] using hc)
  simp only[List.map_cons,p8.text,pZ,CF h1,if_pos,List.dropLast_concat,hany]
  rw[if_neg (by decide),ih]
  simp[dk,ci]
 | .ins i nm s :: m,n,ls,rs,hok,hnd,hc=>by
  obtain⟨h1,h2⟩:p7 s=V/\dX s=Z (i,nm):=hok _ List.mem_cons_self
  have hc2:rs.length+((ci m (n+1)).length+1)<=64:=by simpa [ci] using hc
  have ih:=kD m (n+1) ls (rs++[(i,nm,n)]) (fun t ht=>hok t (List.mem_cons_of_mem _ ht)) (by simpa [cZ] using hnd) (by simp;omega)
  simp only[List.map_cons,p8.text,pZ,h1,h2]
  rw[if_neg (by decide),if_neg (by omega),ih]
  simp[dk,ci]
theorem rd:∀ (ls:List (List UInt8×Int)) (s:List UInt8) (p n:Int),(ls.map (·.1)).Nodup->(s,p)∈ls->p<n->aW ls s n=p
 | [],s,p,n,_,h,_=>by simp at h
 | (x,q) :: m,s,p,n,hnd,h,hp=>by
  unfold aW
  by_cases e:(s,p)=(x,q)
  ·injection e with e1 e2
   subst e1 e2
   simp[hp]
  ·have hm:(s,p)∈m:=by
    rcases List.mem_cons.1 h with h | h
    ·exact absurd h e
    ·exact h
   have hne:x≠s:=by
    rintro rfl
    have h2:x ∉ m.map (·.1):=(List.nodup_cons.1 hnd).1
    exact h2 (List.mem_map.2 ⟨(x,p),hm,rfl⟩)
   have ih:=rd m s p n (List.nodup_cons.1 hnd).2 hm hp
   unfold aW at ih
   rw[List.find?_cons_of_neg (by simp[hne])]
   exact ih
theorem rp (ls:List (List UInt8×Int))(n:Int):∀ (rs:List (aJ×List UInt8×Int)),(∀ r∈rs,r.2.1=[]\/0<=aW ls r.2.1 n)->
 fD ls n rs=.inr (rs.map fun r=>if r.2.1=[] then r.1 else { r.1 with pl:=aW ls r.2.1 n })
 | [],_=>rfl
 | (i,nm,row) :: m,h=>by
  have ih:=rp ls n m fun r hr=>h r (List.mem_cons_of_mem _ hr)
  have h1:=h _ List.mem_cons_self
  simp only at h1
  unfold fD
  by_cases e:nm=[]
  ·rw[if_pos e,ih]
   simp[e]
  ·rw[if_neg e,if_neg (by rcases h1 with h1 | h1;exact absurd h1 e;omega),ih]
   simp[e]
-- lines
theorem sq:∀ s:List UInt8,bK s≠[]
 | []=>by simp[bK]
 | c :: r=>by
  unfold bK
  split
  ·simp
  ·cases h:bK r with
   | nil=>simp[fY]
   | cons a b=>simp[fY]
theorem ii:∀ (t r:List UInt8),Nl t->bK (t++10 :: r)=t :: bK r
 | [],r,_=>by simp[bK]
 | c :: t,r,h=>by
  have ih:=ii t r fun d hd=>h d (List.mem_cons_of_mem _ hd)
  show bK (c :: (t++10 :: r))=_
  rw[bK,if_neg (h c List.mem_cons_self),ih]
  rfl
theorem je:∀ (l:List (List UInt8)),(∀ s∈l,Nl s)->bK (l.flatMap fun s=>s++[10])=l++[[]]
 | [],_=>rfl
 | s :: m,h=>by
  have ih:=je m fun x hx=>h x (List.mem_cons_of_mem _ hx)
  rw[List.flatMap_cons,List.append_assoc]
  show bK (s++10 :: (m.flatMap fun s=>s++[10]))=_
  rw[ii s _ (h s List.mem_cons_self),ih]
  rfl
def kY (c:fC)(i:aJ):aJ×List UInt8:=if bJ i=P then ({ i with pl:=0 },dQ c i.pl) else (i,[])
def Dg (ls:List (List UInt8×Int))(n:Int)(q:aJ×List UInt8):aJ:=if q.2=[] then q.1 else { q.1 with pl:=aW ls q.2 n }
theorem qS (c:fC)(k:Int):dQ c k≠[]:=by
 unfold dQ dD bu
 split
 ·simp
 ·split <;> simp
theorem xH (c:fC)(i:aJ)(hi:i∈c.l)(hg:bJ i=P):dQ c i.pl∈bX c i.pl:=by
 by_cases h1:i.pl=c.lo
 ·rw[show dQ c i.pl=dD by unfold dQ;rw[if_pos h1]]
  unfold bX
  simp[h1]
 ·by_cases h2:i.pl=c.un
  ·rw[show dQ c i.pl=bu by unfold dQ;rw[if_neg h1,if_pos h2]]
   unfold bX
   refine List.mem_append.2 (.inr (List.mem_append.2 (.inl ?_)))
   rw[if_pos h2]
   exact List.mem_cons_self
  ·have hw:zl c i.pl=P:=by
    unfold zl
    rw[List.any_eq_true]
    exact⟨i,hi,by simp[hg]⟩
   unfold bX
   simp[h1,h2,hw]
theorem yB (c:fC)(hc:lf c=P)(toks:List p8)(hok:∀ t∈toks,t.Ok)(hnd:(cZ toks).Nodup)(hnl:∀ t∈toks,Nl t.text)
 (hrows:(ci toks 1).map (fun r=>(r.1,r.2.1))=c.l.map (kY c)) (hl:∀ (j:Int) (x:List UInt8),0<=j->j<c.l.length->x∈bX c j->(x,j)∈dk toks 0):
 ez ((toks.map p8.text).flatMap fun s=>s++[10])=(c,0,0):=by
 unfold lf at hc
 simp only[Bool.and_eq_true,decide_eq_true_eq,List.all_eq_true] at hc
 obtain⟨c1,c2,c3,c4,c5,c6,c7⟩:=hc
 have hlen:(ci toks 1).length=c.l.length:=by
  have:=congrArg List.length hrows
  simpa using this
 have hp:=je (toks.map p8.text) (by
  intro s hs
  obtain⟨t,ht,rfl⟩:=List.mem_map.1 hs
  exact hnl t ht)
 have h1:=kD toks 1 [] [] hok (by simpa using hnd) (by simpa [hlen] using c2)
 simp only[List.nil_append,List.length_nil,Int.ofNat_zero] at h1
 have hfnd:∀ (j:Int) (x:List UInt8),0<=j->j<c.l.length->x∈bX c j->aW (dk toks 0) x c.l.length=j:=fun j x j0 j1 hx=>
  rd _ _ _ _ (by rw[iV];exact hnd) (hl j x j0 j1 hx) j1
 have hlo:aW (dk toks 0) dD c.l.length=c.lo:=hfnd c.lo dD c3 c5 (by unfold bX;simp)
 have hun:aW (dk toks 0) bu c.l.length=c.un:=hfnd c.un bu c4 c6 (by unfold bX;simp)
 have hgo:∀ i∈c.l,bJ i=P->aW (dk toks 0) (dQ c i.pl) c.l.length=i.pl:=fun i hi hg=>
  hfnd i.pl _ (lP (c7 i hi) hg).1 (lP (c7 i hi) hg).2 (xH c i hi hg)
 have h2:fD (dk toks 0) c.l.length (ci toks 1)=.inr c.l:=by
  have e:∀ r∈ci toks 1,∃ i∈c.l,(r.1,r.2.1)=kY c i:=fun r hr=>by
   have:(r.1,r.2.1)∈c.l.map (kY c):=by rw[<-hrows];exact List.mem_map.2 ⟨r,hr,rfl⟩
   obtain⟨i,hi,he⟩:=List.mem_map.1 this
   exact⟨i,hi,he.symm⟩
  rw[rp]
  ·congr 1
   have e2:(ci toks 1).map (fun r=>if r.2.1=[] then r.1 else { r.1 with pl:=aW (dk toks 0) r.2.1 c.l.length }) =
    ((ci toks 1).map fun r=>(r.1,r.2.1)).map (Dg (dk toks 0) c.l.length):=by
    rw[List.map_map];rfl
   rw[e2,hrows,List.map_map]
   conv=>rhs;rw[<-List.map_id c.l]
   refine List.map_congr_left fun i hi=>?_
   show Dg (dk toks 0) c.l.length (kY c i)=i
   by_cases hg:bJ i=P
   ·rw[show kY c i=({ i with pl:=0 },dQ c i.pl) from if_pos hg]
    unfold Dg
    simp only
    rw[if_neg (qS c _),hgo i hi hg]
   ·rw[show kY c i=(i,[]) from if_neg hg]
    rfl
  ·intro r hr
   obtain⟨i,hi,he⟩:=e r hr
   unfold kY at he
   by_cases hg:bJ i=P
   ·rw[if_pos hg] at he
    injection he with e3 e4
    right
    rw[e4,hgo i hi hg]
    exact(lP (c7 i hi) hg).1
   ·rw[if_neg hg] at he
    injection he with e3 e4
    exact .inl e4
 unfold ez
 rw[hp,List.dropLast_concat,h1]
 simp only[List.getLastD_concat,hlen,h2,hlo,hun]
 rw[if_neg (by simp),if_neg (by omega)]
theorem lN {n:Int}(h:0<=n):Lib.itoa n=Lib.decDigits n.toNat:=by unfold Lib.itoa;rw[if_neg (by omega)]
theorem xM {m n:Int}(hm:0<=m)(hn:0<=n)(h:Lib.itoa m=Lib.itoa n):m=n:=by
 rw[lN hm,lN hn] at h
 have h1:=ij m.toNat
 rw[h,ij n.toNat] at h1
 injection h1 with h1
 omega
theorem mm {n:Int}(h:0<=n):∀ c∈Lib.itoa n,digB c=P:=by
 rw[lN h]
 intro c hc
 have:=kv n.toNat c hc
 unfold digB
 simp[this]
theorem AT (n:Int):Nl (Lib.itoa n):=by
 have key:∀ k:Nat,Nl (Lib.decDigits k):=fun k c hc e=>by
  have:=kv k c hc
  rw[e] at this
  revert this
  decide
 unfold Lib.itoa
 split
 ·intro c hc
  rcases List.mem_cons.1 hc with rfl | hc
  ·decide
  ·exact key _ c hc
 ·exact key _
theorem mj {n:Int}(h0:0<=n)(h1:n<64):cj (108 :: Lib.itoa n)=P:=by
 have hd:=mm h0
 have hl:(Lib.itoa n).length<=2:=by
  rw[lN h0]
  exact oE 1 n.toNat (by omega)
 unfold cj
 simp only[Bool.and_eq_true,decide_eq_true_eq,List.all_eq_true,List.length_cons]
 refine⟨by omega,by omega,(show lj 108=P by decide),fun c hc=>?_⟩
 rcases List.mem_cons.1 hc with rfl | hc
 ·decide
 ·simp[hd c hc]
theorem sw (c:fC){k:Int}(h0:0<=k)(h1:k<64):cj (dQ c k)=P:=by
 unfold dQ
 split
 ·decide
 ·split
  ·decide
  ·exact mj h0 h1
theorem iY {c:fC}{k:Int}{x:List UInt8}(h:x∈bX c k):(x=dD/\k=c.lo)\/(x=bu/\k=c.un)\/(x=108 :: Lib.itoa k/\k≠c.lo/\k≠c.un):=by
 unfold bX at h
 rcases List.mem_append.1 h with h | h
 ·split at h
  ·exact .inl ⟨by simpa using h,by assumption⟩
  ·simp at h
 ·rcases List.mem_append.1 h with h | h
  ·split at h
   ·exact .inr (.inl ⟨by simpa using h,by assumption⟩)
   ·simp at h
  ·split at h
   ·rename_i hw
    refine .inr (.inr ⟨?_,hw.2⟩)
    have:x=dQ c k:=by simpa using h
    rw[this]
    unfold dQ
    rw[if_neg hw.2.1,if_neg hw.2.2]
   ·simp at h
theorem vj {c:fC}{k:Int}{x:List UInt8}(h:x∈bX c k)(h0:0<=k)(h1:k<64):cj x=P:=by
 rcases iY h with ⟨rfl,-⟩ | ⟨rfl,-⟩ | ⟨rfl,-⟩
 ·decide
 ·decide
 ·exact mj h0 h1
theorem ua {n:Int}(h:0<=n):dD≠108 :: Lib.itoa n:=by
 intro e
 unfold dD at e
 injection e with _ e
 have:=mm h 111 (by rw[<-e];simp)
 revert this
 decide
theorem nK (n:Int):bu≠108 :: Lib.itoa n:=by
 intro e
 unfold bu at e
 injection e with e _
 revert e
 decide
theorem sA {c:fC}{j k:Int}{x:List UInt8}(j0:0<=j)(k0:0<=k)(hj:x∈bX c j)(hk:x∈bX c k):j=k:=by
 rcases iY hj with ⟨e1,h1⟩ | ⟨e1,h1⟩ | ⟨e1,h1⟩ <;> rcases iY hk with ⟨e2,h2⟩ | ⟨e2,h2⟩ | ⟨e2,h2⟩
 ·omega
 ·rw[e1] at e2;exact absurd e2 (by decide)
 ·rw[e1] at e2;exact absurd e2 (ua k0)
 ·rw[e1] at e2;exact absurd e2 (by decide)
 ·omega
 ·rw[e1] at e2;exact absurd e2 (nK k)
 ·rw[e2] at e1;exact absurd e1 (ua j0)
 ·rw[e2] at e1;exact absurd e1 (nK j)
 ·rw[e1] at e2
  injection e2 with _ e2
  exact xM j0 k0 e2
theorem sB (c:fC)(k:Int):(bX c k).Nodup:=by
 have hne:dD≠bu:=by decide
 unfold bX
 by_cases h1:k=c.lo
 ·by_cases h2:k=c.un
  ·rw[if_pos h1,if_pos h2,if_neg (fun h=>h.2.1 h1)];simp[hne]
  ·rw[if_pos h1,if_neg h2,if_neg (fun h=>h.2.1 h1)];simp
 ·by_cases h2:k=c.un
  ·rw[if_neg h1,if_pos h2,if_neg (fun h=>h.2.2 h2)];simp
  ·rw[if_neg h1,if_neg h2];split <;> simp
def bU (c:fC):List aJ->Int->List p8
 | [],_=>[]
 | i :: more,k=>(bX c k).map p8.lab++p8.ins (kY c i).1 (kY c i).2 (bO c i) :: bU c more (k+1)
theorem nO (c:fC):∀ (l:List aJ) (k:Int),(bU c l k).map p8.text=eY c l k
 | [],_=>rfl
 | i :: m,k=>by
  simp only[bU,eY,List.map_append,List.map_map,List.map_cons,nO c m (k+1)]
  rfl
theorem kg:∀ (a b:List p8),cZ (a++b)=cZ a++cZ b
 | [],b=>rfl
 | .lab nm :: a,b=>by simp[cZ,kg a b]
 | .ins _ _ _ :: a,b=>by simp[cZ,kg a b]
theorem ob:∀ l:List (List UInt8),cZ (l.map p8.lab)=l
 | []=>rfl
 | x :: l=>by simp[cZ,ob l]
theorem mi (c:fC)(i:aJ)(m:List aJ)(k:Int):cZ (bU c (i :: m) k)=bX c k++cZ (bU c m (k+1)):=by
 rw[bU,kg,ob]
 rfl
theorem nZ (c:fC):∀ (l:List aJ) (k:Int) (x:List UInt8),x∈cZ (bU c l k)->∃ j,k<=j/\j<k+l.length/\x∈bX c j
 | [],k,x,h=>by simp[bU,cZ] at h
 | i :: m,k,x,h=>by
  rw[mi] at h
  rcases List.mem_append.1 h with h | h
  ·exact⟨k,Int.le_refl _,by simp;omega,h⟩
  ·obtain⟨j,h1,h2,h3⟩:=nZ c m (k+1) x h
   exact⟨j,by omega,by simp;omega,h3⟩
theorem kM (c:fC):∀ (l:List aJ) (k:Int),0<=k->(cZ (bU c l k)).Nodup
 | [],k,_=>by simp[bU,cZ]
 | i :: m,k,h=>by
  rw[mi,List.nodup_append]
  refine⟨sB c k,kM c m (k+1) (by omega),fun x hx y hy e=>?_⟩
  subst e
  obtain⟨j,h1,h2,h3⟩:=nZ c m (k+1) x hy
  have:=sA h (by omega) hx h3
  omega
theorem kq:∀ (a b:List p8) (k:Int),dk (a++b) k=dk a k++dk b (k+(ci a 0).length)
 | [],b,k=>by simp[dk,ci]
 | .lab nm :: a,b,k=>by
  have:(ci a (0+1)).length=(ci a 0).length:=rows_len a _ _
  simp only[List.cons_append,dk,ci,kq a b k,this]
 | .ins _ _ _ :: a,b,k=>by
  have:(ci a (0+1)).length=(ci a 0).length:=rows_len a _ _
  simp only[List.cons_append,dk,ci,kq a b (k+1),List.length_cons,this]
  congr 2
  simp
  omega
where
 rows_len:∀ (a:List p8) (m n:Int),(ci a m).length=(ci a n).length
  | [],_,_=>rfl
  | .lab _ :: a,m,n=>by simp only[ci];exact rows_len a _ _
  | .ins _ _ _ :: a,m,n=>by simp only[ci,List.length_cons];rw[rows_len a _ _]
theorem qD (l:List (List UInt8))(n:Int):ci (l.map p8.lab) n=[]:=by
 induction l generalizing n with
 | nil=>rfl
 | cons x l ih=>simp only[List.map_cons,ci];exact ih _
theorem vm (l:List (List UInt8))(k:Int):dk (l.map p8.lab) k=l.map fun x=>(x,k):=by
 induction l with
 | nil=>rfl
 | cons x l ih=>simp only[List.map_cons,dk,ih]
theorem sC (c:fC)(i:aJ)(m:List aJ)(k q:Int):dk (bU c (i :: m) k) q=(bX c k).map (fun x=>(x,q))++dk (bU c m (k+1)) (q+1):=by
 rw[bU,kq,qD,vm]
 simp[dk]
theorem qQ (c:fC):∀ (l:List aJ) (k j:Int) (x:List UInt8),k<=j->j<k+l.length->x∈bX c j->(x,j)∈dk (bU c l k) k
 | [],k,j,x,h1,h2,_=>by simp at h2;omega
 | i :: m,k,j,x,h1,h2,h=>by
  rw[sC]
  by_cases e:j=k
  ·subst e
   exact List.mem_append.2 (.inl (List.mem_map.2 ⟨x,h,rfl⟩))
  ·exact List.mem_append.2 (.inr (qQ c m (k+1) j x (by omega) (by simp at h2;omega) h))
theorem j9:∀ (a b:List p8) (n:Int),ci (a++b) n=ci a n++ci b (n+a.length)
 | [],b,n=>by simp[ci]
 | .lab nm :: a,b,n=>by
  simp only[List.cons_append,ci,j9 a b (n+1),List.length_cons]
  congr 2
  simp
  omega
 | .ins _ _ _ :: a,b,n=>by
  simp only[List.cons_append,ci,j9 a b (n+1),List.length_cons]
  congr 3
  simp
  omega
theorem nT (c:fC):∀ (l:List aJ) (k n:Int),(ci (bU c l k) n).map (fun r=>(r.1,r.2.1))=l.map (kY c)
 | [],_,_=>rfl
 | i :: m,k,n=>by
  rw[bU,j9,qD]
  simp[ci,nT c m]
theorem BF (op:Int):Nl (bM op):=by
 rcases co op with rfl|rfl|rfl|rfl|rfl|rfl|rfl|rfl|rfl|rfl|rfl|rfl|rfl|rfl|rfl|rfl|rfl|rfl|rfl|rfl|rfl | hn
 all_goals first | (unfold Nl;decide) | (rw[(dw hn).2];unfold Nl;simp)
theorem At (i:aJ)(x:Int):Nl (aY i x):=by
 have key:∀ (a:List UInt8) (n:Int),(∀ y∈a,y≠10)->Nl (a++Lib.itoa n):=fun a n ha=>Nl.app ha (AT n)
 have k1:∀ n:Int,Nl (32 :: Lib.itoa n):=fun n=>key [32] n (by decide)
 unfold aY
 repeat' split
 all_goals first
  | exact k1 _
  | exact key _ _ (by decide)
  | (unfold Nl;decide)
theorem mW (i:aJ):∀ l:List UInt8,Nl (aE i l)
 | []=>by unfold Nl aE;simp
 | x :: l=>by
  have:aE i (x :: l)=aY i x.toNat++aE i l:=by simp[aE]
  rw[this]
  exact Nl.app (At i _) (mW i l)
theorem zS (i:aJ):Nl (af i):=Nl.app (BF _) (mW i _)
theorem AW (i:aJ):Nl (eM i):=by
 unfold eM
 refine Nl.app (Nl.app (BF _) (mW i _)) ?_
 split <;> (unfold Nl;decide)
theorem tZ {s:List UInt8}(h:cj s=P):Nl s:=by
 unfold cj at h
 simp only[Bool.and_eq_true] at h
 intro c hc e
 have:=List.all_eq_true.1 h.2.2.2 c hc
 subst e
 revert this
 decide
theorem AU (n:Int):Lib.itoa n≠[]:=by
 unfold Lib.itoa
 split
 ·simp
 ·obtain⟨c,r,h,-⟩:=iz n.toNat
  rw[h]
  simp
theorem uC {i:aJ}{p:Int}(hr:au i p=P):∃ r,af i=bM i.op++32 :: r/\r≠[]:=by
 have hh:=jm hr
 have hi:=AU
 obtain⟨op,d,s,t,u,a,k,pl⟩:=i
 simp only at hh
 rcases co op with rfl|rfl|rfl|rfl|rfl|rfl|rfl|rfl|rfl|rfl|rfl|rfl|rfl|rfl|rfl|rfl|rfl|rfl|rfl|rfl|rfl | hn
 all_goals first
  | exact absurd (dw hn).1 hh
  | (unfold af aE;simp only[dh];simp[aY,bf,hi])
theorem Cl (c:fC)(i:aJ)(hr:au i c.l.length=P)(hc:c.l.length<=64)(k0:0<=i.k)(k1:i.k<4294967296):(p8.ins (kY c i).1 (kY c i).2 (bO c i)).Ok/\Nl (bO c i):=by
 unfold p8.Ok bO
 simp only
 by_cases hg:bJ i=P
 ·have hp:=lP hr hg
  have hn:=sw c hp.1 (by omega:i.pl<64)
  rw[if_pos hg,show kY c i=({ i with pl:=0 },dQ c i.pl) from if_pos hg]
  obtain⟨a,ha⟩:=oy i
  exact⟨⟨BG (a:=a) (b:=dQ c i.pl) (by rw[ha];simp) (qS c _),vh i hr (by omega) k0 k1 hg _ hn⟩,Nl.app (AW i) (tZ hn)⟩
 ·rw[if_neg hg,show kY c i=(i,[]) from if_neg hg]
  obtain⟨r,h1,h2⟩:=uC hr
  exact⟨⟨BG h1 h2,ve i hr (by omega) k0 k1 (by simpa using hg)⟩,zS i⟩
theorem tP (c:fC)(hc:c.l.length<=64):∀ (l:List aJ) (k:Int),0<=k->k+l.length<=64->(∀ i∈l,au i c.l.length=P/\0<=i.k/\i.k<4294967296)->∀ t∈bU c l k,t.Ok/\Nl t.text
 | [],k,_,_,_,t,ht=>by simp[bU] at ht
 | i :: m,k,h0,h1,h,t,ht=>by
  rw[bU] at ht
  simp only[List.length_cons] at h1
  rcases List.mem_append.1 ht with ht | ht
  ·obtain⟨x,hx,rfl⟩:=List.mem_map.1 ht
   have hn:=vj hx h0 (by omega)
   exact⟨hn,Nl.app (tZ hn) (by unfold Nl;decide)⟩
  ·rcases List.mem_cons.1 ht with rfl | ht
   ·obtain⟨a,b,d⟩:=h i List.mem_cons_self
    exact Cl c i a hc b d
   ·exact tP c hc m (k+1) (by omega) (by omega) (fun i hi=>h i (List.mem_cons_of_mem _ hi)) t ht
theorem uO {c:fC}(h:lf c=P):c.l.length<=64/\∀ i∈c.l,au i c.l.length=P:=by
 unfold lf at h
 simp only[Bool.and_eq_true,decide_eq_true_eq,List.all_eq_true] at h
 exact⟨h.2.1,h.2.2.2.2.2.2⟩
theorem wa (c:fC)(hc:lf c=P)(hk:∀ i∈c.l,0<=i.k/\i.k<4294967296):ez (pS c)=(c,0,0):=by
 obtain⟨h1,h2⟩:=uO hc
 have hok:=tP c h1 c.l 0 (by omega) (by omega) fun i hi=>⟨h2 i hi,hk i hi⟩
 unfold pS
 rw[<-nO]
 exact yB c hc _ (fun t ht=>(hok t ht).1) (kM c _ _ (by omega)) (fun t ht=>(hok t ht).2) (nT c _ _ _)
  fun j x j0 j1 hx=>qQ c c.l 0 j x j0 (by omega) hx
theorem xV {ls:List (List UInt8×Int)}{s:List UInt8}{n:Int}(h:0<=aW ls s n):aW ls s n<n:=by
 unfold aW at *
 split at h
 ·rename_i x hx
  have:=List.find?_some hx
  simp only[Bool.and_eq_true,decide_eq_true_eq] at this
  exact this.2
 ·omega
def dO (ls:List (List UInt8×Int))(rs:List (aJ×List UInt8×Int)):fC×Int×Int:=
 match fD ls rs.length rs with
 | .inl (n,e)=>(fC.zero,n,e)
 | .inr l=>if aW ls dD rs.length<0\/aW ls bu rs.length<0 then (fC.zero,0,10)
  else (⟨l,aW ls dD rs.length,aW ls bu rs.length⟩,0,0)
def gO (t:List UInt8)(n:Int)(ls:List (List UInt8×Int))(rs:List (aJ×List UInt8×Int)):fC×Int×Int:=
 match pZ (bK t).dropLast n ls rs with
 | .inl (m,e)=>(fC.zero,m,e)
 | .inr (ls,rs)=>if (bK t).getLastD []≠[] then (fC.zero,n+(bK t).length-1,8) else dO ls rs
theorem oG (text:List UInt8):ez text=gO text 1 [] []:=by
 have e:(1:Int)+((bK text).length:Int)-1=((bK text).length:Int):=by omega
 unfold ez gO dO
 rw[e]
theorem nu {α:Type}(x:α)(l:List α)(h:l≠[]):(x :: l).dropLast=x :: l.dropLast:=by
 cases l with
 | nil=>exact absurd rfl h
 | cons a b=>rfl
theorem lB {α:Type}(x d:α)(l:List α)(h:l≠[]):(x :: l).getLastD d=l.getLastD d:=by
 cases l with
 | nil=>exact absurd rfl h
 | cons a b=>rfl
theorem eW (s r:List UInt8)(h:Nl s)(n:Int)(ls:List (List UInt8×Int))(rs:List (aJ×List UInt8×Int)):
 gO (s++10 :: r) n ls rs =
  if p7 s=P then (if (ls.any fun x=>x.1==s.dropLast)=P then (fC.zero,n,2) else gO r (n+1) (ls++[(s.dropLast,(rs.length:Int))]) rs)
  else match dX s with
   | none=>(fC.zero,n,8)
   | some (i,nm)=>if 64<=rs.length then (fC.zero,n,9) else gO r (n+1) ls (rs++[(i,nm,n)]):=by
 have hp:=ii s r h
 have hne:=sq r
 have e:n+((bK (s++10 :: r)).length:Int)-1=n+1+((bK r).length:Int)-1:=by
  rw[hp]
  simp
  omega
 unfold gO
 rw[e,hp,nu _ _ hne,lB _ _ _ hne]
 simp only[pZ]
 by_cases h1:p7 s=P
 ·simp only[h1,if_true]
  by_cases h2:(ls.any fun x=>x.1==s.dropLast)=P
  ·simp only[h2,if_true]
  ·simp only[h2]
   rfl
 ·simp only[h1]
  cases hl:dX s with
  | none=>simp
  | some q=>
   obtain⟨i,nm⟩:=q
   simp only
   by_cases h3:64<=rs.length
   ·simp[h3]
   ·simp[h3]
theorem iH (s:List UInt8)(h:Nl s)(n:Int)(ls:List (List UInt8×Int))(rs:List (aJ×List UInt8×Int)):gO s n ls rs=if s≠[] then (fC.zero,n,8) else dO ls rs:=by
 have hp:∀ t:List UInt8,Nl t->bK t=[t]:=by
  intro t
  induction t with
  | nil=>intro _;rfl
  | cons c t ih=>
   intro ht
   rw[bK,if_neg (ht c List.mem_cons_self),ih fun d hd=>ht d (List.mem_cons_of_mem _ hd)]
   rfl
 unfold gO
 rw[hp s h]
 simp[pZ]
theorem we (ls:List (List UInt8×Int))(n:Int)(i:aJ)(row:Int)(more:List (aJ×List UInt8×Int)):
 fD ls n ((i,[],row) :: more)=match fD ls n more with | .inl e=>.inl e | .inr l=>.inr (i :: l):=by
 simp only[fD]
 rfl
theorem oH (ls:List (List UInt8×Int))(n:Int)(i:aJ)(nm:List UInt8)(hn:nm≠[])(row:Int)(more:List (aJ×List UInt8×Int)):
 fD ls n ((i,nm,row) :: more)=if aW ls nm n<0 then .inl (row,10) else match fD ls n more with | .inl e=>.inl e | .inr l=>.inr ({ i with pl:=aW ls nm n } :: l):=by
 simp only[fD]
 rw[if_neg hn]
end
section
open Go.ChangeShapes Go.WideShapes Go.ChangeAt Go.RowKit
section
variable {w w':World}{x n each N:Nat}{R:RM}{free:Nat->List Nat}{gen out:List Int}
def fJ (w:World)(n:Nat)(R:RM)(w':World)(R':RM):Prop:=ab w w' (R.Has n)/\∀ i,R'.Has n i->R.Has n i\/w.heap.size<=i
theorem fJ.refl (w:World)(n:Nat)(R:RM):fJ w n R w R:=⟨ab.refl _ _,fun _ h=>.inl h⟩
theorem fJ.ef {R':RM}(h:fJ w n R w' R')(m:Nat):fJ w n R (w'.drewN m) R':=⟨h.1.ef m,h.2⟩
theorem fJ.bz {w'':World}{R' R'':RM}(h:fJ w n R w' R')(k:fJ w' n R' w'' R''):fJ w n R w'' R'':=
 ⟨h.1.bz k.1 h.2,fun i hi=>by
  rcases k.2 i hi with e | e
  ·exact h.2 i e
  ·exact .inr (Nat.le_trans h.1.size e)⟩
theorem fJ.put {g i:Nat}{u:Value}(h:R.Has n g):fJ w n R (w.setCell ⟨g,i,O⟩ u) R:=⟨(ab.refl w _).put g _ _ (.inl h),fun _ h=>.inl h⟩
end
end
section
theorem pW (n:Int)(h0:0<=n)(h9:n<10):Lib.itoa n=[(48:UInt8)+UInt8.ofNat n.toNat]:=by
 obtain rfl|rfl|rfl|rfl|rfl|rfl|rfl|rfl|rfl|rfl:n=0\/n=1\/n=2\/n=3\/n=4\/n=5\/n=6\/n=7\/n=8\/n=9:=by omega
 all_goals
  unfold Lib.itoa
  rw[if_neg (by decide),Lib.decDigits,dif_pos (by decide)]
  decide
theorem wZ:bO cK ⟨20,1,0,0,0,0,1,0⟩=[102,97,100,100,32,114,49,32,48,32,114,48,32,49]/\bO cK ⟨12,0,0,0,0,0,1,0⟩=[109,97,114,107,32,49]/\bO cK ⟨21,2,0,1,0,1,0,-1⟩=[97,119,97,105,116,32,114,50,32,49,32,114,48,32,101,113,32,114,49]/\bO cK ⟨12,0,0,0,0,0,2,0⟩=[109,97,114,107,32,50]/\bO cK ⟨13,0,0,0,0,0,1,0⟩=[100,111,110,101,32,49]/\bO cK ⟨3,1,1,0,0,0,1,0⟩=[97,100,100,107,32,114,49,32,114,49,32,49]/\bO cK ⟨17,0,0,1,0,1,0,0⟩=[115,116,111,114,101,32,49,32,114,48,32,114,49]/\bO cK ⟨12,0,0,0,0,0,4,0⟩=[109,97,114,107,32,52]/\bO cK ⟨13,0,0,0,0,0,2,0⟩=[100,111,110,101,32,50]:=by
 have d0:Lib.itoa 0=[48]:=pW 0 (by decide) (by decide)
 have d1:Lib.itoa 1=[49]:=pW 1 (by decide) (by decide)
 have d2:Lib.itoa 2=[50]:=pW 2 (by decide) (by decide)
 have d4:Lib.itoa 4=[52]:=pW 4 (by decide) (by decide)
 refine⟨?_,?_,?_,?_,?_,?_,?_,?_,?_⟩
 all_goals
  unfold bO
  rw[if_neg (by decide)]
  simp[af,aE,aY,dh,bM,bf,d0,d1,d2,d4]
theorem wY:pS cK=fG:=by
 obtain⟨h0,h1,h2,h3,h4,h5,h6,h7,h8⟩:=wZ
 have l0:bX cK 0=[dD]:=by decide
 have l1:bX cK (0+1)=[]:=by decide
 have l2:bX cK (0+1+1)=[]:=by decide
 have l3:bX cK (0+1+1+1)=[]:=by decide
 have l4:bX cK (0+1+1+1+1)=[]:=by decide
 have l5:bX cK (0+1+1+1+1+1)=[bu]:=by decide
 have l6:bX cK (0+1+1+1+1+1+1)=[]:=by decide
 have l7:bX cK (0+1+1+1+1+1+1+1)=[]:=by decide
 have l8:bX cK (0+1+1+1+1+1+1+1+1)=[]:=by decide
 have e:eY cK cK.l 0=[dD++[58],bO cK ⟨20,1,0,0,0,0,1,0⟩,bO cK ⟨12,0,0,0,0,0,1,0⟩,bO cK ⟨21,2,0,1,0,1,0,-1⟩,bO cK ⟨12,0,0,0,0,0,2,0⟩,bO cK ⟨13,0,0,0,0,0,1,0⟩,bu++[58],bO cK ⟨3,1,1,0,0,0,1,0⟩,bO cK ⟨17,0,0,1,0,1,0,0⟩,bO cK ⟨12,0,0,0,0,0,4,0⟩,bO cK ⟨13,0,0,0,0,0,2,0⟩]:=by
  show eY cK EJ 0=_
  unfold EJ
  simp only[eY,l0,l1,l2,l3,l4,l5,l6,l7,l8,List.map_nil,List.map_cons,List.nil_append,List.cons_append]
 unfold pS
 rw[e,h0,h1,h2,h3,h4,h5,h6,h7,h8]
 rfl
theorem qz:lf cK=P:=by decide
theorem yL:∀ i∈cK.l,0<=i.k/\i.k<4294967296:=by decide
theorem yM:ez fG=(cK,0,0):=by
 rw[<-wY]
 exact wa cK qz yL
end
section
open Go.ChangeShapes Go.WideShapes Go.ChangeAt Go.RowKit
theorem iZ {w:World}{k:Nat}{s:ByteArray}{p:Nat}(h:w.heap[k]?=Z (.stringIter s p)):w.iterPos k=p:=by simp[World.iterPos,h]
theorem uJ (s:List UInt8)(n:Nat)(h:n<s.length):jh (s.drop n) n=(wN n (s.getD n 0) && jh (s.drop (n+1)) (n+1)):=by
 rw[List.drop_eq_getElem_cons h,jh]
 simp[List.getD_eq_getElem?_getD,h]
def Dp (n c:Nat):Bool:=(decide (97<=c) && decide (c<=122)) || ((decide (48<=c) && decide (c<=57)) && decide (n≠0))
theorem Cy (n:Nat)(c:UInt8):wN n c=Dp n c.toNat:=rfl
theorem tY {n c:Nat}(h:Dp n c=P):(97<=c/\c<=122)\/(48<=c/\c<=57/\n≠0):=by
 unfold Dp at h
 simp only[Bool.or_eq_true,Bool.and_eq_true,decide_eq_true_eq] at h
 omega
theorem Cw {n c:Nat}(h:Dp n c=V):c<48\/(48<=c/\c<=57/\n=0)\/(57<c/\c<97)\/122<c:=by
 unfold Dp at h
 simp only[Bool.or_eq_false_iff,Bool.and_eq_false_iff,decide_eq_false_iff_not] at h
 omega
theorem uq (s:List UInt8)(w:World):
 Calls Tryz.prog 96 #[bs s] w fun e w'=>e=.returned (.bool (cj s))/\Below w.heap.size w w':=by
 have hsz:(⟨s.toArray⟩:ByteArray).size=s.length:=by show s.toArray.size=_;simp
 unfold bs
 by_cases h0:s=[]
 ·subst h0
  go_enter Tryz.func96,Tryz.ntmps96
  go_wp2
  go_ret
  exact⟨rfl,G _ _⟩
 by_cases h1:16<s.length
 ·have e:cj s=V:=by
   unfold cj
   have:decide (s.length<=16)=V:=by simp;omega
   simp[this]
  rw[e]
  have q0:(s==[])=V:=by simpa using h0
  have q1:(16:Int)<s.length:=by omega
  go_enter Tryz.func96,Tryz.ntmps96
  go_wp2
  go_ret
  exact⟨rfl,G _ _⟩
 have q0:(s==[])=V:=by simpa using h0
 have q1:¬ (16:Int)<s.length:=by omega
 have hl:1<=s.length:=by cases s with
  | nil=>exact absurd rfl h0
  | cons=>simp
 have HN:=H (uZ s hl (by omega))
 generalize cj s=r at *
 go_enter Tryz.func96,Tryz.ntmps96
 go_wp2
 go_loopw [2] (fun v wr=>∃ n:Nat,v=.bool V/\n<=s.length/\wr.heap[w.heap.size]?=Z (.stringIter ⟨s.toArray⟩ n)/\Below w.heap.size w wr/\Hid (r=jh (s.drop n) n))
  (fun v wr=>s.length-wr.iterPos w.heap.size)
 case atStart=>exact⟨0,rfl,by omega,World.iter_heap w _ 0,(G _ _).alloc (E _) _,H (by simpa using HN.out)⟩
 case round=>
  obtain⟨n,rfl,hn,hit,hb,HR⟩:=hrel
  have hpos:=iZ hit
  by_cases hp:n<s.length
  ·have hnx:∀ ty,(Instr.next (S (Z ⟨w.heap.size,0,O⟩)) P ty).run Tryz.prog wr=_:=fun ty=>Lib.run_next_any_at wr w.heap.size ⟨s.toArray⟩ n ty hit (by omega)
   have hg:(⟨s.toArray⟩:ByteArray)[n]'(by omega)=s.getD n 0:=by
    simp[ByteArray.getElem_eq_getElem_data,hp]
   have HD:=H (uJ s n hp)
   have HK:Hid (wN n (s.getD n 0)=Dp n (s.getD n 0).toNat):=H (Cy _ _)
   have hit2:=Lib.iterAt_heap wr w.heap.size ⟨s.toArray⟩ n (n+(Utf8.decode ⟨s.toArray⟩ n).2) hit
   have hb2:=Lib.below_iterAt hb (k:=w.heap.size) (E _) ⟨s.toArray⟩ (n+(Utf8.decode ⟨s.toArray⟩ n).2)
   by_cases hc:(s.getD n 0).toNat<128
   ·have hd:=decode_ascii ⟨s.toArray⟩ n (by omega) (by rw[hg];exact hc)
    rw[hg] at hd
    rw[hd] at hnx hit2 hb2
    simp only at hnx hit2 hb2
    clear hd hg hc
    generalize wr.iterAt w.heap.size ⟨s.toArray⟩ (n+1)=W1 at *
    rw[HK.out] at HD
    clear HK
    generalize (s.getD n 0).toNat=c at *
    clear hit
    cases ho:Dp n c with
    | true=>
     have HR2:Hid (r=jh (s.drop (n+1)) (n+1)):=H (by rw[HR.out,HD.out,ho];simp)
     rcases tY ho with ⟨k1,k2⟩ | ⟨k1,k2,k3⟩
     ·have z1:(97:Int)<=(c:Int):=by omega
      have z2:(c:Int)<=122:=by omega
      clear HR HD ho k1 k2
      go_wp2
      all_goals (
       go_roundw
       case rel=>exact⟨n+1,rfl,by omega,hit2,hb2,HR2⟩
       case measure=>rw[iZ hit2,hpos];omega)
     ·have z1:¬ (97:Int)<=(c:Int):=by omega
      have z2:(48:Int)<=(c:Int):=by omega
      have z3:(c:Int)<=57:=by omega
      have z4:((n:Int)==0)=V:=by simp;omega
      clear HR HD ho k1 k2
      go_wp2
      all_goals (
       go_roundw
       case rel=>exact⟨n+1,rfl,by omega,hit2,hb2,HR2⟩
       case measure=>rw[iZ hit2,hpos];omega)
    | false=>
     have HR2:Hid (r=V):=H (by rw[HR.out,HD.out,ho];simp)
     rcases Cw ho with k1 | ⟨k1,k2,k3⟩ | ⟨k1,k2⟩ | k1
     ·have z1:¬ (97:Int)<=(c:Int):=by omega
      have z2:¬ (48:Int)<=(c:Int):=by omega
      clear HR HD ho k1
      go_wp2
      go_ret
      exact⟨by rw[HR2.out];rfl,hb2⟩
     ·have z1:¬ (97:Int)<=(c:Int):=by omega
      have z2:(48:Int)<=(c:Int):=by omega
      have z3:(c:Int)<=57:=by omega
      have z4:((n:Int)==0)=P:=by simp;omega
      clear HR HD ho k1 k2
      go_wp2
      go_ret
      exact⟨by rw[HR2.out];rfl,hb2⟩
     ·have z1:¬ (97:Int)<=(c:Int):=by omega
      have z2:(48:Int)<=(c:Int):=by omega
      have z3:¬ (c:Int)<=57:=by omega
      clear HR HD ho k1 k2
      go_wp2
      go_ret
      exact⟨by rw[HR2.out];rfl,hb2⟩
     ·have z1:(97:Int)<=(c:Int):=by omega
      have z2:¬ (c:Int)<=122:=by omega
      have z3:(48:Int)<=(c:Int):=by omega
      have z4:¬ (c:Int)<=57:=by omega
      clear HR HD ho k1
      go_wp2
      go_ret
      exact⟨by rw[HR2.out];rfl,hb2⟩
   ·have hd:=(decode_high ⟨s.toArray⟩ n (by omega) (by rw[hg];omega)).1
    have HR2:Hid (r=V):=H (by
     rw[HR.out,HD.out,HK.out]
     have:Dp n (s.getD n 0).toNat=V:=by
      cases ho:Dp n (s.getD n 0).toNat with
      | false=>rfl
      | true=>rcases tY ho with ⟨k1,k2⟩ | ⟨k1,k2,k3⟩ <;> omega
     rw[this];simp)
    generalize (Utf8.decode ⟨s.toArray⟩ n).1=c at *
    generalize wr.iterAt w.heap.size ⟨s.toArray⟩ (n+(Utf8.decode ⟨s.toArray⟩ n).2)=W1 at *
    have z1:(97:Int)<=(c:Int):=by omega
    have z2:¬ (c:Int)<=122:=by omega
    have z3:(48:Int)<=(c:Int):=by omega
    have z4:¬ (c:Int)<=57:=by omega
    clear HR HD HK hd hc hg hit2 hit
    go_wp2
    go_ret
    exact⟨by rw[HR2.out];rfl,hb2⟩
  ·have hnx:∀ ty,(Instr.next (S (Z ⟨w.heap.size,0,O⟩)) P ty).run Tryz.prog wr=_:=fun ty=>Lib.run_next_end_at wr w.heap.size ⟨s.toArray⟩ n ty hit (by omega)
   have HR2:Hid (r=P):=H (by rw[HR.out,List.drop_of_length_le (by omega)];rfl)
   clear HR hit
   go_wp2
   go_ret
   exact⟨by rw[HR2.out];rfl,hb⟩
theorem qg (i:aJ):(eH i=P/\(i.op=8\/i.op=9\/i.op=10))\/(i.op=21/\eH i=decide (i.pl≠-1))\/(eH i=V/\i.op≠8/\i.op≠9/\i.op≠10/\i.op≠21):=by
 unfold eH
 by_cases h:i.op=8\/i.op=9\/i.op=10
 ·exact .inl ⟨by simp[h],h⟩
 by_cases h2:i.op=21
 ·exact .inr (.inl ⟨h2,by simp[h2]⟩)
 ·exact .inr (.inr ⟨by simp[h,h2],by omega,by omega,by omega,h2⟩)
theorem vV (i:aJ)(w:World):
 Calls Tryz.prog 141 #[iv i] w fun e w'=>e=.returned (.bool (eH i))/\Below w.heap.size w w':=by
 have hb:∀ cs:Array Value,Below w.heap.size w (w.alloc (.cells cs 119)):=fun cs=>(G _ _).alloc (E _) _
 have HP:=qg i
 generalize eH i=r at *
 obtain⟨op,d,s,t,u,a,k,pl⟩:=i
 simp only at HP
 unfold iv
 rcases HP with ⟨rfl,rfl|rfl|rfl⟩ | ⟨rfl,h⟩ | ⟨rfl,h1,h2,h3,h4⟩
 ·go_enter Tryz.func141,Tryz.ntmps141
  go_wp2
  go_ret
  exact⟨rfl,hb _⟩
 ·go_enter Tryz.func141,Tryz.ntmps141
  go_wp2
  go_ret
  exact⟨rfl,hb _⟩
 ·go_enter Tryz.func141,Tryz.ntmps141
  go_wp2
  go_ret
  exact⟨rfl,hb _⟩
 ·have HH:=H h
  clear h
  go_enter Tryz.func141,Tryz.ntmps141
  go_wp2
  go_ret
  refine⟨?_,hb _⟩
  rw[HH.out]
  congr 2
  simp[bne]
  by_cases e:pl=-1 <;> simp[e]
 ·have e1:(op==8)=V:=by simpa using h1
  have e2:(op==9)=V:=by simpa using h2
  have e3:(op==10)=V:=by simpa using h3
  have e4:(op==21)=V:=by simpa using h4
  go_enter Tryz.func141,Tryz.ntmps141
  go_wp2
  go_ret
  exact⟨rfl,hb _⟩
end
section
open Go.ChangeShapes Go.WideShapes Go.ChangeAt Go.RowKit Go.Shelf
attribute [local go_sem] Oper.semAt_some
theorem vU (s:List UInt8)(w:World):
 Calls Tryz.prog 59 #[bs s] w fun e w'=>e=.returned (.func (.func 93) #[] #[S (Z ⟨w.heap.size,0,O⟩)])/\w'=w.alloc (U #[bs s] 9):=by
 unfold bs
 go_enter Tryz.func59,Tryz.ntmps59
 go_wp2
 go_ret
 exact⟨rfl,rfl⟩
theorem qn (text:List UInt8)(b l:Nat)(W1:World)(hb:Bk W1 b 9 #[bs text])(hlen:text.length<1000000000):
 Di Tryz.prog 93 #[S (Z ⟨b,0,O⟩)] (fun k=>#[I Q ((k:Int)+1),bs (em text k)]) (bD text).length l W1 (fun x=>W1.heap.size<=x/\x<W1.heap.size+5):=by
 intro J Jx hJ hJx hY h0
 have hc0:W1.cell? ⟨b,0,O⟩=Z (.string ⟨text.toArray⟩):=hb.cell 0
 have HL:=H (fun W=>callsIn_wide (n:=0) |>.2 (CJ text W))
 refine callsIn_of_wp_marks Tryz.func93 rfl trivial ?_ rfl
 simp only[Tryz.ntmps93,List.size_toArray,List.length_cons,List.length_nil,Nat.reduceAdd,Nat.reduceSub,Array.replicate_succ,Array.replicate_zero,List.push_toArray,List.append_toArray,List.nil_append,List.cons_append]
 have y2:=Bk.alloc (Bk.made W1 192 #[.func (.yield l) #[] #[]]) (U #[I Q 0] 3)
 have n2:=Bk.made (W1.alloc (U #[.func (.yield l) #[] #[]] 192)) 3 #[I Q 0]
 have t2:=Bk.alloc (Bk.alloc hb (U #[.func (.yield l) #[] #[]] 192)) (U #[I Q 0] 3)
 have w2:ab W1 ((W1.alloc (U #[.func (.yield l) #[] #[]] 192)).alloc (U #[I Q 0] 3)) (fun _=>False):=((ab.refl _ _).alloc _).alloc _
 have s2:((W1.alloc (U #[.func (.yield l) #[] #[]] 192)).alloc (U #[I Q 0] 3)).heap.size=W1.heap.size+2:=by simp
 rw[World.size_alloc] at n2
 have hc2:((W1.alloc (U #[.func (.yield l) #[] #[]] 192)).alloc (U #[I Q 0] 3)).cell? ⟨b,0,O⟩=Z (.string ⟨text.toArray⟩):=t2.cell 0
 gi_wp2
 generalize (W1.alloc (U #[.func (.yield l) #[] #[]] 192)).alloc (U #[I Q 0] 3)=W2 at *
 refine⟨trivial,rfl,?_⟩
 refine(HL.out _).mono ?_
 rintro e W3 ⟨rfl,rfl⟩
 have y3:=y2.alloc (U #[bs text] 9)
 have n3:=n2.alloc (U #[bs text] 9)
 have t3:=Bk.made W2 9 #[bs text]
 have s3:(W2.alloc (U #[bs text] 9)).heap.size=W1.heap.size+3:=by simp[s2]
 have w3:ab W1 (W2.alloc (U #[bs text] 9)) (fun _=>False):=w2.alloc _
 rw[s2] at t3 ⊢
 generalize W2.alloc (U #[bs text] 9)=W3 at *
 clear hc2 t2 n2 y2 w2 s2 W2 HL hc0
 gi_wp2
 have e0:W3.heap.size=W1.heap.size+3:=s3
 refine lV (gf:=136) (lb:=#[S (Z ⟨W1.heap.size+2,0,O⟩)]) rfl (enters_of Tryz.func136 (by kernel_rfl) rfl)
  (encs:=fun k=>#[bs (em text k)]) (N:=(bD text).length) (T:=fun x=>x=W1.heap.size+2) (fun _=>rfl) (by omega) (by omega)
  (fun W4 hb4 hz4=>xN text _ _ W4 ((hb4.block _ (by omega)).trans t3) hlen)
  (fun k W=>J k W/\Bk W W1.heap.size 192 #[.func (.yield l) #[] #[]]/\Bk W (W1.heap.size+1) 3 #[I Q k])
  (fun c W=>c=.ret/\Jx W) ?calm ?calmx ⟨hJ 0 _ _ h0 (w3.wide (by simp)),y3,n3⟩
  (fun k=>{ tmps:=#[.func (.yield l) #[] #[],S (Z ⟨b,0,O⟩),S (Z ⟨W1.heap.size,0,O⟩),S (Z ⟨W1.heap.size+1,0,O⟩),.string ⟨(em text k).toArray⟩,.string ⟨text.toArray⟩,
   .func (.func 136) #[] #[S (Z ⟨W1.heap.size+2,0,O⟩)],.string ⟨(em text k).toArray⟩,undef,undef,undef,undef,undef,undef,undef],defers:=[] }) ?assign ?body ?done ?stop
 case calm=>
  rintro k A B ⟨j,y,n⟩ hw
  exact⟨hJ k A B j (hw.wide (by rintro i (rfl|rfl|rfl) _ <;> omega)),y.within hw (by omega),n.within hw (by omega)⟩
 case calmx=>
  rintro c A B ⟨rfl,j⟩ hw
  exact⟨rfl,hJx A B j (hw.wide (by rintro i (rfl|rfl|rfl) _ <;> omega))⟩
 case assign=>
  intro l2 k W K hK
  unfold bs
  gi_wp2
  exact hK
 case body=>
  rintro l2 k W hk ⟨hj,hy,hn⟩ hT
  have hkl:k<1000000000:=Nat.lt_of_lt_of_le hk (Nat.le_trans (ki text) (Nat.le_of_lt hlen))
  have hwr:wrap64 ((k:Int)+1)=(k:Int)+1:=by unfold wrap64;omega
  have cn:W.cell? ⟨W1.heap.size+1,0,O⟩=Z (I Q k):=hn.cell 0
  have fn:=hn.free 0
  have w1:ab W (W.setCell ⟨W1.heap.size+1,0,O⟩ (I Q ((k:Int)+1))) (fun x=>x=W1.heap.size+1):=(ab.refl _ _).put _ 0 _ (.inl rfl)
  have n1:Bk (W.setCell ⟨W1.heap.size+1,0,O⟩ (I Q ((k:Int)+1))) (W1.heap.size+1) 3 #[I Q ((k:Int)+1)]:=hn.put 0 _
  have y1:=hy.within w1 (by omega)
  have hj1:=hJ k _ _ hj (w1.wide (by rintro i rfl _;omega))
  obtain⟨fn2,tmps,assign,body,hyy,hR⟩:=hY k _ hk hj1 (by intro x hx;have:=w1.size;have:=hT (W3.heap.size+1) (.inr (.inl rfl));omega)
  unfold bs at hyy
  have cy:(W.setCell ⟨W1.heap.size+1,0,O⟩ (I Q ((k:Int)+1))).cell? ⟨W1.heap.size,0,O⟩=Z (.func (.yield l) #[] #[]):=y1.cell 0
  have cn1:(W.setCell ⟨W1.heap.size+1,0,O⟩ (I Q ((k:Int)+1))).cell? ⟨W1.heap.size+1,0,O⟩=Z (I Q ((k:Int)+1)):=n1.cell 0
  gi_wp2
  refine⟨rfl,RoundIn.mono (F:=Fence.wide) hR ?_⟩
  rintro e W5 ⟨hh,hQ⟩
  have hT5:gF (fun x=>x=W3.heap.size\/x=W3.heap.size+1\/x=W1.heap.size+2) W W5:=by
   refine⟨Nat.le_trans w1.size hh.1,?_⟩
   rintro x (rfl|rfl|rfl)
   ·exact(hh.2 _ ⟨by omega,by omega⟩).trans (w1.block _ (hT _ (.inl rfl)) (by omega))
   ·exact(hh.2 _ ⟨by omega,by omega⟩).trans (w1.block _ (hT _ (.inr (.inl rfl))) (by omega))
   ·exact(hh.2 _ ⟨by omega,by omega⟩).trans (w1.block _ (hT _ (.inr (.inr rfl))) (by omega))
  rcases hQ with ⟨rfl,hJ5⟩ | ⟨rfl,hJx5⟩
  ·gi_wp2
   exact⟨hT5,hJ5,(hh.2 _ ⟨by omega,by omega⟩).trans y1,(hh.2 _ ⟨by omega,by omega⟩).trans n1⟩
  ·gi_wp2
   exact⟨hT5,rfl,hJx5⟩
 case done=>
  rintro W ⟨hj,_,_⟩ hd
  gi_wp2
  refine⟨by simp,.inl ⟨_,_,rfl,run_takeDeferred hd,?_⟩⟩
  exact⟨_,results_none rfl _ _ _,⟨_,rfl⟩,.inl (hJ _ _ _ hj (cG _ _ _ _ ⟨by omega,by omega⟩))⟩
 case stop=>
  rintro c W ⟨rfl,hj⟩ hd
  gi_wp2
  refine⟨by simp,.inl ⟨_,_,rfl,run_takeDeferred hd,?_⟩⟩
  exact⟨_,results_none rfl _ _ _,⟨_,rfl⟩,.inr (hJx _ _ hj (cG _ _ _ _ ⟨by omega,by omega⟩))⟩
end
section
open Go.ChangeShapes Go.WideShapes Go.ChangeAt Go.RowKit
section
variable {w w':World}{x n each N:Nat}{R:RM}{free:Nat->List Nat}{gen out:List Int}
theorem iI {W W3:World}{o:Obj}{r:Option Nat}{b:Nat}{t:TypeId}{cs:Array Value}(h:(W.drew.alloc o).grownBy W3 r)(hb:Bk W b t cs)(hne:Z b≠r):Bk W3 b t cs:=Bk.grown (Bk.alloc (w:=W.drew) hb o) h hne
end
theorem DY (i:aJ)(w:World):
 Calls Tryz.prog 103 #[iv i] w fun e w'=>e=.returned (.bool (bJ i))/\Below w.heap.size w w':=by
 have HX:Hid (bJ i=((decide (8<=i.op) && decide (i.op<=10)) || (decide (i.op=21) && decide (0<=i.pl)))):=H rfl
 generalize bJ i=r at *
 obtain⟨op,d,s,t,u,a,k,pl⟩:=i
 unfold iv
 simp only at HX ⊢
 have k1:=Bk.made w 125 #[I Q op,I Q d,I Q s,I Q t,I Q u,I Q a,I .u32 k,I Q pl]
 have b0:Below w.heap.size w (w.alloc (U #[I Q op,I Q d,I Q s,I Q t,I Q u,I Q a,I .u32 k,I Q pl] 125)):=(G _ _).alloc (E _) _
 go_enter Tryz.func103,Tryz.ntmps103
 go_upto_region 1 with fail
 generalize w.alloc (U #[I Q op,I Q d,I Q s,I Q t,I Q u,I Q a,I .u32 k,I Q pl] 125)=x at *
 obtain⟨c0,c7⟩:x.cell? ⟨w.heap.size,0,O⟩=Z (I Q op)/\x.cell? ⟨w.heap.size,7,O⟩=Z (I Q pl):=⟨k1.cell 0,k1.cell 7⟩
 by_cases h1:8<=op
 ·by_cases h2:op<=10
  ·have HQ:Hid (r=P):=H (by rw[HX.out];simp[h1,h2])
   clear HX
   go_wp2
   go_ret
   exact⟨by rw[HQ.out];rfl,b0⟩
  ·by_cases h3:op=21
   ·have e3:(op==21)=P:=by simpa using h3
    by_cases h4:0<=pl
    ·have HQ:Hid (r=P):=H (by rw[HX.out];simp[h3,h4])
     subst h3
     clear HX
     go_wp2
     go_ret
     exact⟨by rw[HQ.out];rfl,b0⟩
    ·have HQ:Hid (r=V):=H (by rw[HX.out];simp[h2,h4])
     subst h3
     clear HX
     go_wp2
     go_ret
     exact⟨by rw[HQ.out];rfl,b0⟩
   ·have e3:(op==21)=V:=by simpa using h3
    have HQ:Hid (r=V):=H (by rw[HX.out];simp[h2,h3])
    clear HX h3
    go_wp2
    go_ret
    exact⟨by rw[HQ.out];rfl,b0⟩
 ·have h3:¬ op=21:=by omega
  have e3:(op==21)=V:=by simpa using h3
  have HQ:Hid (r=V):=H (by rw[HX.out];simp[h1,h3])
  clear HX h3
  go_wp2
  go_ret
  exact⟨by rw[HQ.out];rfl,b0⟩
theorem yE (s:List UInt8)(f:UInt8->Bool)(n:Nat)(h:n<s.length):(s.drop n).all f=(f (s.getD n 0) && (s.drop (n+1)).all f):=by
 rw[List.drop_eq_getElem_cons h,List.all_cons]
 simp[List.getD_eq_getElem?_getD,h]
theorem tS (s:List UInt8)(w:World):
 Calls Tryz.prog 62 #[bs s] w fun e w'=>e=.returned (.bool (cj s))/\w'=w:=by
 have HX:Hid (cj s=(decide (1<=s.length) && (decide (s.length<=16) && (lj (s.getD 0 0) && s.all fun c=>lj c || digB c)))):=H rfl
 generalize cj s=r at *
 unfold bs
 by_cases h1:1<=s.length
 ·have i1:¬ (s.length:Int)<1:=by omega
  by_cases h2:s.length<=16
  ·have i2:¬ (16:Int)<s.length:=by omega
   have hix:=fun W=>eE s 0 (by omega) W
   simp only[Int.natCast_zero] at hix
   have HL:Hid (lj (s.getD 0 0)=(decide (97<=(s.getD 0 0).toNat) && decide ((s.getD 0 0).toNat<=122))):=H rfl
   generalize (s.getD 0 0)=c0 at *
   by_cases h3:97<=c0.toNat
   ·by_cases h4:c0.toNat<=122
    ·have HR:Hid (r=(s.drop 0).all fun c=>lj c || digB c):=H (by rw[HX.out,HL.out];simp[h1,h2,h3,h4])
     clear HX HL
     generalize c0.toNat=q0 at *
     have z1:¬ (q0:Int)<97:=by omega
     have z2:¬ (122:Int)<q0:=by omega
     go_enter Tryz.func62,Tryz.ntmps62
     go_wp2
     clear hix z1 z2
     go_loopw [2,3] (fun v i wr=>∃ n:Nat,v=.bool V/\i=I Q n/\n<=s.length/\wr=w/\Hid (r=(s.drop n).all fun c=>lj c || digB c)) (fun _ i _=>s.length-(intOf i).toNat)
     case atStart=>exact⟨0,rfl,rfl,by omega,rfl,HR⟩
     case round=>
      obtain⟨n,rfl,rfl,hn,rfl,HA⟩:=hrel
      by_cases hlt:n<s.length
      ·have hii:(n:Int)<s.length:=by omega
       have hix:=fun W=>eE s n hlt W
       have HD:=H (yE s (fun c=>lj c || digB c) n hlt)
       have HL:Hid ((lj (s.getD n 0) || digB (s.getD n 0))=((decide (97<=(s.getD n 0).toNat) && decide ((s.getD n 0).toNat<=122)) || (decide (48<=(s.getD n 0).toNat) && decide ((s.getD n 0).toNat<=57)))):=H rfl
       generalize s.getD n 0=ch at *
       simp only[HL.out] at HD
       clear HL
       generalize ch.toNat=c at *
       by_cases y1:(97<=c/\c<=122)\/(48<=c/\c<=57)
       ·have HB:Hid (r=(s.drop (n+1)).all fun c=>lj c || digB c):=H (by
         rw[HA.out,HD.out]
         rcases y1 with ⟨a,b⟩ | ⟨a,b⟩ <;> simp[a,b])
        clear HA HD
        rcases y1 with ⟨a,b⟩ | ⟨a,b⟩
        ·have z1:(97:Int)<=c:=by omega
         have z2:(c:Int)<=122:=by omega
         go_wp2
         all_goals (
          go_roundw
          case rel=>exact⟨n+1,rfl,by go_num,by omega,by trivial,HB⟩
          case measure=>
           show s.length-((n:Int)+1).toNat<s.length-(n:Int).toNat
           omega)
        ·have z1:¬ (97:Int)<=c:=by omega
         have z2:(48:Int)<=c:=by omega
         have z3:(c:Int)<=57:=by omega
         go_wp2
         all_goals (
          go_roundw
          case rel=>exact⟨n+1,rfl,by go_num,by omega,by trivial,HB⟩
          case measure=>
           show s.length-((n:Int)+1).toNat<s.length-(n:Int).toNat
           omega)
       ·have HB:Hid (r=V):=H (by
         rw[HA.out,HD.out]
         have:((decide (97<=c) && decide (c<=122)) || (decide (48<=c) && decide (c<=57)))=V:=by
          simp only[Bool.or_eq_false_iff,Bool.and_eq_false_iff,decide_eq_false_iff_not]
          omega
         rw[this];rfl)
        clear HA HD
        by_cases z1:(97:Int)<=c
        ·have z2:¬ (c:Int)<=122:=by omega
         have z3:(48:Int)<=c:=by omega
         have z4:¬ (c:Int)<=57:=by omega
         clear y1
         go_wp2
         go_ret
         exact⟨by rw[HB.out];rfl,rfl⟩
        ·by_cases z3:(48:Int)<=c
         ·have z4:¬ (c:Int)<=57:=by omega
          clear y1
          go_wp2
          go_ret
          exact⟨by rw[HB.out];rfl,rfl⟩
         ·clear y1
          go_wp2
          go_ret
          exact⟨by rw[HB.out];rfl,rfl⟩
      ·have hii:¬ (n:Int)<s.length:=by omega
       have HB:Hid (r=P):=H (by rw[HA.out,List.drop_eq_nil_of_le (by omega)];rfl)
       clear HA
       go_wp2
       go_ret
       exact⟨by rw[HB.out];rfl,rfl⟩
    ·have HR:Hid (r=V):=H (by rw[HX.out,HL.out];simp[h4])
     clear HX HL
     generalize c0.toNat=q0 at *
     have z1:¬ (q0:Int)<97:=by omega
     have z2:(122:Int)<q0:=by omega
     go_enter Tryz.func62,Tryz.ntmps62
     go_wp2
     go_ret
     exact⟨by rw[HR.out];rfl,rfl⟩
   ·have HR:Hid (r=V):=H (by rw[HX.out,HL.out];simp[h3])
    clear HX HL
    generalize c0.toNat=q0 at *
    have z1:(q0:Int)<97:=by omega
    go_enter Tryz.func62,Tryz.ntmps62
    go_wp2
    go_ret
    exact⟨by rw[HR.out];rfl,rfl⟩
  ·have i2:(16:Int)<s.length:=by omega
   have HR:Hid (r=V):=H (by rw[HX.out];simp[h2])
   clear HX
   go_enter Tryz.func62,Tryz.ntmps62
   go_wp2
   go_ret
   exact⟨by rw[HR.out];rfl,rfl⟩
 ·have i1:(s.length:Int)<1:=by omega
  have HR:Hid (r=V):=H (by rw[HX.out];simp[h1])
  clear HX
  go_enter Tryz.func62,Tryz.ntmps62
  go_wp2
  go_ret
  exact⟨by rw[HR.out];rfl,rfl⟩
end
section
theorem By {n:Nat}(h1:1<=n)(h64:n<=64):mz (i4 n):=by
 refine⟨qz,yL,⟨by show 2<=8;omega,?_⟩,by show jU [1,1]<=8192;decide,h1,h64,by show 0<=8;omega⟩
 intro k hk
 have:k=0\/k=1:=by simp[i4] at hk;omega
 rcases this with rfl|rfl <;> (show 0<=(1:Int)/\(1:Int)<=4096;decide)
theorem tQ (n:Nat):fM (yN n):=by
 intro x hx
 obtain⟨_,rfl⟩:=List.mem_replicate.1 hx
 omega
theorem lD (n:Nat):(yN n).length=n:=List.length_replicate
theorem tR {st:Int}(h0:0<=st)(h1:st<4294967296):fM [st,st]:=by
 intro x hx
 simp at hx
 subst hx
 exact⟨h0,h1⟩
end
section
open Go.ChangeShapes Go.WideShapes Go.ChangeAt Go.RowKit
def zH (w:World)(a:Option Addr)(ls:List (List UInt8×Int)):Prop:=∀ j x,ls[j]?=Z x->∃ g,a=Z ⟨g,0,O⟩/\g<w.heap.size/\w.cell? ⟨g,j*2,O⟩=Z (bs x.1)/\w.cell? ⟨g,j*2+1,O⟩=Z (I Q x.2)
theorem zH.below {w w':World}{a:Option Addr}{ls:List (List UInt8×Int)}(h:zH w a ls)(hb:Below w.heap.size w w'):zH w' a ls:=fun j x hx=>by
 obtain⟨g,e,h1,h2,h3⟩:=h j x hx
 exact⟨g,e,Nat.lt_of_lt_of_le h1 hb.size,(hb.cell (p:=⟨g,j*2,O⟩) h1).trans h2,(hb.cell (p:=⟨g,j*2+1,O⟩) h1).trans h3⟩
theorem sL (ls:List (List UInt8×Int))(s:List UInt8)(n:Int)(j:Nat)(h:j<ls.length):aW (ls.drop j) s n=if (ls[j].1==s && decide (ls[j].2<n))=P then ls[j].2 else aW (ls.drop (j+1)) s n:=by
 unfold aW
 rw[List.drop_eq_getElem_cons h,List.find?_cons]
 cases (ls[j].1==s && decide (ls[j].2<n)) <;> simp
theorem tw (ls:List (List UInt8×Int))(s:List UInt8)(n:Int)(a:Option Addr)(cap:Nat)(w:World)(ha:zH w a ls)(hl:ls.length<=1000000):
 Calls Tryz.prog 64 #[.slice a ls.length cap,bs s,I Q n] w fun e w'=>e=.returned (I Q (aW ls s n))/\Below w.heap.size w w':=by
 have HR:Hid (aW ls s n=aW (ls.drop 0) s n):=H rfl
 have HS:=H (fun j h=>sL ls s n j h)
 have HE:Hid (∀ j,¬ j<ls.length->aW (ls.drop j) s n=-1):=H fun j h=>by rw[List.drop_eq_nil_of_le (by omega)];rfl
 generalize aW ls s n=r at *
 unfold bs
 go_enter Tryz.func64,Tryz.ntmps64
 go_wp2
 go_loopw [6,11] (fun v i wr=>∃ j:Nat,v=I Q 0/\i=I Q j/\j<=ls.length/\Below w.heap.size w wr/\Hid (r=aW (ls.drop j) s n)) (fun _ i _=>ls.length-(intOf i).toNat)
 case atStart=>exact⟨0,rfl,rfl,Nat.zero_le _,G _ _,HR⟩
 case round=>
  clear HR
  obtain⟨j,rfl,rfl,hj,hb,HR⟩:=hrel
  by_cases hlt:j<ls.length
  ·have hji:(j:Int)<ls.length:=by omega
   obtain⟨g,rfl,hgl,e0,e1⟩:=(ha.below hb) j _ (List.getElem?_eq_getElem hlt)
   have HD:=H (HS.out j hlt)
   generalize ls[j]=x at *
   obtain⟨nm,at_⟩:=x
   simp only at e0 e1 HD
   unfold bs at e0
   go_upto_region 4 with fail
   have k1:=Bk.made wr 147 #[.string ⟨nm.toArray⟩,I Q at_]
   replace hb:=hb.alloc (o:=U #[.string ⟨nm.toArray⟩,I Q at_] 147) hb.size
   generalize wr.heap.size=q at *
   generalize wr.alloc (U #[.string ⟨nm.toArray⟩,I Q at_] 147)=y at *
   clear e0 e1
   obtain⟨y0,y1⟩:=k1.Fo
   cases h1:(nm==s) with
   | true=>
    by_cases h2:at_<n
    ·have HQ:Hid (r=at_):=H (by rw[HR.out,HD.out,h1];simp[h2])
     obtain rfl:nm=s:=by simpa using h1
     clear HD HR HS HE h1
     go_wp2
     go_ret
     exact⟨by rw[HQ.out];rfl,hb⟩
    ·have HQ:Hid (r=aW (ls.drop (j+1)) s n):=H (by rw[HR.out,HD.out,h1];simp[h2])
     obtain rfl:nm=s:=by simpa using h1
     clear HD HR HS HE h1
     go_wp2
     go_roundw
     case rel=>exact⟨j+1,rfl,by go_num,by omega,hb,HQ⟩
     case measure=>
      show ls.length-((j:Int)+1).toNat<ls.length-(j:Int).toNat
      omega
   | false=>
    have HQ:Hid (r=aW (ls.drop (j+1)) s n):=H (by rw[HR.out,HD.out,h1];simp)
    clear HD HR HS HE
    go_wp2
    go_roundw
    case rel=>exact⟨j+1,rfl,by go_num,by omega,hb,HQ⟩
    case measure=>
     show ls.length-((j:Int)+1).toNat<ls.length-(j:Int).toNat
     omega
  ·have hji:¬ (j:Int)<ls.length:=by omega
   have HQ:Hid (r=-1):=H (by rw[HR.out,HE.out j hlt])
   clear HR HS HE
   go_wp2
   go_ret
   exact⟨by rw[HQ.out];rfl,hb⟩
end
