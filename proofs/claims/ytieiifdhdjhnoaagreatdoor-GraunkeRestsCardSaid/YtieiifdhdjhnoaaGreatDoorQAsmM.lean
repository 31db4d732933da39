import Derived.Test.YtieiifdhdjhnoaaGreatDoorQMem
import Derived.Test.YtieiifdhdjhnoaaGreatDoorQWdA
import Derived.Test.YtieiifdhdjhnoaaGreatDoorQInstP
import Derived.Test.YtieiifdhdjhnoaaGreatDoorQInstB
import Derived.Test.YtieiifdhdjhnoaaGreatDoorQRunM
import Derived.Test.YtieiifdhdjhnoaaGreatDoorQArR
import Derived.Laws.RangeAny
import Derived.Lib.OthersKept
import Derived.BigRegionIn
import Derived.Deep.DeepCutAuto
set_option linter.unusedVariables false
set_option maxHeartbeats 4000000
set_option maxRecDepth 100000
open Go.Value renaming int->I,slice->H,pointer->G
open Go.IntKind renaming i64->Q,u32->O
open Option renaming none->Z,some->P
open Bool renaming false->S,true->U
open Go.Obj renaming cells->E
open Go.Lib renaming hid->D
open Go.RowKit.Below renaming refl->C
open Nat renaming le_refl->L,le_of_lt->M
open Go renaming undef->X
namespace Go.Proofs.YtieiifdhdjhnoaaGreatDoor
section
def nE (c:UInt8):Bool:=decide (97<=c.toNat) && decide (c.toNat<=122)
def digB (c:UInt8):Bool:=decide (48<=c.toNat) && decide (c.toNat<=57)
def cE (s:List UInt8):Bool:=decide (1<=s.length) && (decide (s.length<=16) && (nE (s.getD 0 0) && s.all fun c=>nE c || digB c))
def co (i:aU):Bool:=(decide (8<=i.op) && decide (i.op<=10)) || (decide (i.op=21) && decide (0<=i.pl))
def eS (i:aU):Bool:=decide (i.op=8\/i.op=9\/i.op=10) || (decide (i.op=21) && decide (i.pl≠-1))
def zJ (n:Nat)(c:UInt8):Bool:=nE c || (digB c && decide (n≠0))
def kp:List UInt8->Nat->Bool
 | [],_=>U
 | c :: r,n=>zJ n c && kp r (n+1)
theorem sO:∀ (s:List UInt8) (n:Nat),0<n->kp s n=s.all fun c=>nE c || digB c
 | [],_,_=>rfl
 | c :: r,n,h=>by
  have hn:decide (n≠0)=U:=by simpa using Nat.ne_of_gt h
  rw[kp,sO r (n+1) (by omega),List.all_cons,zJ,hn,Bool.and_true]
theorem xI (s:List UInt8)(h0:1<=s.length)(h1:s.length<=16):cE s=kp s 0:=by
 cases s with
 | nil=>simp at h0
 | cons c r=>
  unfold cE
  rw[kp,sO r 1 (by omega)]
  simp only[h0,h1,decide_true,Bool.true_and,List.getD_cons_zero,List.all_cons,zJ]
  cases nE c <;> simp
theorem tJ (ws:List (List UInt8)):0<=(aG ws).k/\(aG ws).k<4294967296:=by
 have hk:0<=mF ws.tail/\mF ws.tail<4294967296:=by unfold mF;split <;> omega
 unfold aG db
 generalize mF ws.tail=k at *
 repeat' split
 all_goals (simp only;omega)
def rN (s:List UInt8):Option aU:=if kZ s=U then P (aG (aq s)) else Z
theorem jF (s:List UInt8)(i:aU):rN s=P i↔au i 1073741824=U/\0<=i.k/\i.k<4294967296/\ah i=s:=by
 unfold rN
 constructor
 ·intro h
  split at h
  ·rename_i hp
   injection h with h
   subst h
   have hp2:=hp
   unfold kZ at hp2
   simp only[Bool.and_eq_true,decide_eq_true_eq] at hp2
   exact⟨hp2.2.1,(tJ _).1,(tJ _).2,hp2.2.2⟩
  ·cases h
 ·rintro⟨hr,k0,k1,rfl⟩
  rw[if_pos (sg i hr k0 k1),(mh i hr k0 k1).2]
def dO (s:List UInt8):List UInt8:=(aq s).getLastD []
def dP (s:List UInt8):List UInt8:=s.take (s.length-(dO s).length)
def ee (s:List UInt8):Option (aU×List UInt8):=
 match rN (dP s++[48]) with
 | some i=>if co i=U/\cE (dO s)=U then P (i,dO s)
  else match rN s with
   | some j=>if co j=U then Z else P (j,[])
   | none=>Z
 | none=>match rN s with
  | some j=>if co j=U then Z else P (j,[])
  | none=>Z
def rO (s:List UInt8):Bool:=!s.isEmpty && (decide (s.getLastD 0=58) && cE s.dropLast)
def bN:List UInt8->List (List UInt8)
 | []=>[[]]
 | c :: r=>if c=10 then [] :: bN r else iZ c (bN r)
def rK:List (List UInt8)->Int->List (List UInt8×Int)->List (aU×List UInt8×Int)->(Int×Int) ⊕ (List (List UInt8×Int)×List (aU×List UInt8×Int))
 | [],_,ls,rs=>.inr (ls,rs)
 | s :: more,n,ls,rs=>
  if rO s=U then
   if (ls.any fun x=>x.1==s.dropLast)=U then .inl (n,2) else rK more (n+1) (ls++[(s.dropLast,(rs.length:Int))]) rs
  else match ee s with
   | none=>.inl (n,8)
   | some (i,nm)=>if 64<=rs.length then .inl (n,9) else rK more (n+1) ls (rs++[(i,nm,n)])
def bf (ls:List (List UInt8×Int))(s:List UInt8)(n:Int):Int:=
 match ls.find? fun x=>x.1==s && decide (x.2<n) with
 | some x=>x.2
 | none=>-1
def gz (ls:List (List UInt8×Int))(n:Int):List (aU×List UInt8×Int)->(Int×Int) ⊕ List aU
 | []=>.inr []
 | (i,nm,row) :: more=>
  if nm=[] then
   match gz ls n more with
   | .inl e=>.inl e
   | .inr l=>.inr (i :: l)
  else if bf ls nm n<0 then .inl (row,10)
  else match gz ls n more with
   | .inl e=>.inl e
   | .inr l=>.inr ({ i with pl:=bf ls nm n } :: l)
def fR:List UInt8:=[108,111,99,107]
def dt:List UInt8:=[117,110,108,111,99,107]
def eQ (text:List UInt8):gp×Int×Int:=
 match rK (bN text).dropLast 1 [] [] with
 | .inl (n,e)=>(gp.zero,n,e)
 | .inr (ls,rs)=>
  if (bN text).getLastD []≠[] then (gp.zero,((bN text).length:Int),8)
  else match gz ls rs.length rs with
   | .inl (n,e)=>(gp.zero,n,e)
   | .inr l=>if bf ls fR rs.length<0\/bf ls dt rs.length<0 then (gp.zero,0,10)
    else (⟨l,bf ls fR rs.length,bf ls dt rs.length⟩,0,0)
def eW (i:aU):List UInt8:=bE i.op++az i (cP i.op).dropLast++(if i.op=21 then [32,101,108,115,101,32] else [32])
theorem y9 (c:UInt8)(a b:List (List UInt8))(h:a≠[]):iZ c (a++b)=iZ c a++b:=by
 cases a with
 | nil=>exact absurd rfl h
 | cons x y=>rfl
theorem pi (s:List UInt8):aq s≠[]:=by
 have:=fZ s
 intro h
 rw[h] at this
 simp at this
theorem ga:∀ (a b:List UInt8),aq (a++32 :: b)=aq a++aq b
 | [],b=>by simp[aq]
 | c :: a,b=>by
  have ih:=ga a b
  show aq (c :: (a++32 :: b))=_
  by_cases hc:c=32
  ·rw[aq,if_pos hc,ih,aq,if_pos hc];rfl
  ·rw[aq,if_neg hc,ih,aq,if_neg hc,y9 _ _ _ (pi a)]
theorem lN (a b:List UInt8)(h:Bf b):dO (a++32 :: b)=b:=by
 unfold dO
 rw[ga,cQ b h]
 simp
theorem lO (a b:List UInt8)(h:Bf b):dP (a++32 :: b)=a++[32]:=by
 unfold dP
 rw[lN a b h]
 have e:(a++32 :: b).length-b.length=(a++[32]).length:=by simp;omega
 have e2:a++32 :: b=(a++[32])++b:=by simp
 rw[e,e2,List.take_left]
theorem qT {s:List UInt8}(h:cE s=U):Bf s:=by
 unfold cE at h
 simp only[Bool.and_eq_true] at h
 intro c hc e
 have:=List.all_eq_true.1 h.2.2.2 c hc
 subst e
 revert this
 decide
theorem CG {s:List UInt8}(h:cE s=U):s≠[]:=by
 rintro rfl
 revert h
 decide
theorem nn (op:Int)(h:cP op≠[]):eZ (bE op) 23=op:=by
 rcases cw op with rfl|rfl|rfl|rfl|rfl|rfl|rfl|rfl|rfl|rfl|rfl|rfl|rfl|rfl|rfl|rfl|rfl|rfl|rfl|rfl|rfl | hn
 all_goals first | decide | exact absurd (dB hn).1 h
theorem kz {i:aU}{p:Int}(h:au i p=U):cP i.op≠[]:=by
 unfold au at h
 simp only[Bool.and_eq_true,Bool.not_eq_true',List.isEmpty_eq_false_iff] at h
 exact h.1
theorem EC {i j:aU}{p q:Int}(hi:au i p=U)(hj:au j q=U)(h:bE i.op=bE j.op):i.op=j.op:=by
 rw[<-nn i.op (kz hi),h,nn j.op (kz hj)]
theorem FV (op:Int):Bf (bE op):=by
 rcases cw op with rfl|rfl|rfl|rfl|rfl|rfl|rfl|rfl|rfl|rfl|rfl|rfl|rfl|rfl|rfl|rfl|rfl|rfl|rfl|rfl|rfl | hn
 all_goals first | (unfold Bf;decide) | (rw[(dB hn).2];unfold Bf;simp)
theorem nk {i:aU}{p q:Int}(hq:p<=q)(h:au i p=U):au i q=U:=by
 unfold au at *
 simp only[Bool.and_eq_true,List.all_eq_true] at *
 refine⟨h.1,fun c hc=>?_,h.2.2⟩
 have:=h.2.1 c hc
 unfold ql eC at *
 simp only[Bool.and_eq_true,decide_eq_true_eq] at *
 refine⟨this.1,?_⟩
 have h2:=this.2
 generalize (c.toNat:Int)=x at *
 generalize aW i x=y at *
 repeat' split at h2
 all_goals first | (simp_all;done) | (simp_all;omega)
theorem iy {i:aU}(h:co i=U):i.op=8\/i.op=9\/i.op=10\/(i.op=21/\0<=i.pl):=by
 unfold co at h
 simp only[Bool.or_eq_true,Bool.and_eq_true,decide_eq_true_eq] at h
 omega
theorem AB (i:aU)(h:co i=U)(p:Int):eW { i with pl:=p }=eW i:=by
 obtain⟨op,d,s,t,u,a,k,pl⟩:=i
 rcases iy h with e | e | e | ⟨e,e2⟩ <;> (simp only at e;subst e;simp[eW,cP,az,aN,aW])
theorem wZ (i:aU)(h:co i=U)(h0:0<=i.pl):ah i=eW i++Lib.itoa i.pl:=by
 obtain⟨op,d,s,t,u,a,k,pl⟩:=i
 rcases iy h with e | e | e | ⟨e,e2⟩
 ·simp only at e;subst e;simp[ah,eW,cP,az,aN,aW]
 ·simp only at e;subst e;simp[ah,eW,cP,az,aN,aW]
 ·simp only at e;subst e;simp[ah,eW,cP,az,aN,aW]
 ·simp only at e e2
  subst e
  have hne:pl≠-1:=by omega
  simp[ah,eW,cP,az,aN,aW,hne]
theorem pQ (i:aU):∃ a,eW i=a++[32]:=by
 unfold eW
 split
 ·exact⟨bE i.op++az i (cP i.op).dropLast++[32,101,108,115,101],by simp⟩
 ·exact⟨bE i.op++az i (cP i.op).dropLast,rfl⟩
theorem um {i:aU}{p q:Int}(hr:au i p=U)(h:co i=U)(hq:0<q):au { i with pl:=0 } q=U:=by
 obtain⟨op,d,s,t,u,a,k,pl⟩:=i
 unfold au at *
 rcases iy h with e | e | e | ⟨e,e2⟩ <;> (simp only at e;subst e;simp[cP,ql,fb,eC,aW,sF,qm,cO] at hr ⊢)
 ·refine⟨⟨hr.1.1,hr.1.2.1,hq⟩,hr.2⟩
 ·refine⟨⟨hr.1.1,hr.1.2.1,hq⟩,hr.2⟩
 ·refine⟨hq,hr.2⟩
 ·obtain⟨⟨q1,q2,q3,q4,q5,q6⟩,q7⟩:=hr
  refine⟨⟨q1,q2,q3,q4,q5,?_⟩,q7⟩
  split <;> omega
theorem pS {i:aU}(h:co i=U):co { i with pl:=0 }=U:=by
 unfold co at *
 simp only[Bool.or_eq_true,Bool.and_eq_true,decide_eq_true_eq] at *
 omega
theorem xS:Lib.itoa 0=[48]:=by
 rw[show (0:Int)=((0:Nat):Int) from rfl,aB,Lib.decDigits,dif_pos (by decide)]
 rfl
theorem xP (i:aU){p:Int}(hr:au i p=U)(hp:p<=1073741824)(k0:0<=i.k)(k1:i.k<4294967296)(h:co i=U)(nm:List UInt8)(hn:cE nm=U):
 ee (eW i++nm)=P ({ i with pl:=0 },nm):=by
 obtain⟨a,ha⟩:=pQ i
 have hs:eW i++nm=a++32 :: nm:=by rw[ha];simp
 have h1:dO (eW i++nm)=nm:=by rw[hs];exact lN a nm (qT hn)
 have h2:dP (eW i++nm)=eW i:=by rw[hs,lO a nm (qT hn),ha]
 have h3:rN (eW i++[48])=P { i with pl:=0 }:=by
  rw[jF]
  refine⟨um hr h (by decide),k0,k1,?_⟩
  rw[wZ _ (pS h) (Int.le_refl 0),AB i h 0]
  show eW i++Lib.itoa 0=_
  rw[xS]
 unfold ee
 rw[h2,h3,h1]
 simp only
 rw[if_pos ⟨pS h,hn⟩]
theorem jV:∀ s:List UInt8,Bf s\/∃ a b,Bf b/\s=a++32 :: b
 | []=>.inl (by unfold Bf;simp)
 | c :: r=>by
  rcases jV r with h | ⟨a,b,hb,rfl⟩
  ·by_cases hc:c=32
   ·exact .inr ⟨[],r,h,by rw[hc];rfl⟩
   ·refine .inl fun x hx=>?_
    rcases List.mem_cons.1 hx with rfl | hx
    ·exact hc
    ·exact h x hx
  ·exact .inr ⟨c :: a,b,hb,rfl⟩
theorem nf {i:aU}{p:Int}(hr:au i p=U):∃ r,ah i=bE i.op++32 :: r:=by
 have hh:=kz hr
 obtain⟨op,d,s,t,u,a,k,pl⟩:=i
 simp only at hh
 rcases cw op with rfl|rfl|rfl|rfl|rfl|rfl|rfl|rfl|rfl|rfl|rfl|rfl|rfl|rfl|rfl|rfl|rfl|rfl|rfl|rfl|rfl | hn
 all_goals first
  | exact absurd (dB hn).1 hh
  | (unfold ah az;simp only[cP];simp[aN,aW])
theorem po {i:aU}{p:Int}(hr:au i p=U):(aq (ah i)).head?=P (bE i.op):=by
 obtain⟨r,h⟩:=nf hr
 rw[h,ga,cQ _ (FV _)]
 rfl
theorem ng {i:aU}{p:Int}(hr:au i p=U)(hp:p<=1073741824)(k0:0<=i.k)(k1:i.k<4294967296)(h:i.op=21):(i.pl=-1/\(aq (ah i)).length=6)\/(0<=i.pl/\(aq (ah i)).length=8):=by
 obtain⟨hd,hs,ht,hu,ha⟩:=eJ i _ hr
 obtain⟨op,d,s,t,u,a,k,pl⟩:=i
 simp only at hd hs ht hu ha k0 k1 h
 subst h
 have hr2:=nk hp hr
 have hr3:=ic d s t u a k pl 1073741824 hd hs ht hu ha k0 k1
 rw[hr2] at hr3
 simp[dg] at hr3
 obtain⟨dn,rfl⟩:∃ n:Nat,d=n:=⟨d.toNat,by omega⟩
 obtain⟨sn,rfl⟩:∃ n:Nat,s=n:=⟨s.toNat,by omega⟩
 obtain⟨tn,rfl⟩:∃ n:Nat,t=n:=⟨t.toNat,by omega⟩
 obtain⟨un,rfl⟩:∃ n:Nat,u=n:=⟨u.toNat,by omega⟩
 obtain⟨an,rfl⟩:∃ n:Nat,a=n:=⟨a.toNat,by omega⟩
 obtain⟨kn,rfl⟩:∃ n:Nat,k=n:=⟨k.toNat,by omega⟩
 obtain rfl:un=0:=by omega
 by_cases hm:pl=-1
 ·subst hm
  refine .inl ⟨rfl,?_⟩
  by_cases hk:kn=0
  ·subst hk
   exact congrArg List.length (gL dn sn tn an 0)
  ·obtain rfl:kn=1:=by omega
   exact congrArg List.length (gJ dn sn tn an 0)
 ·obtain⟨pn,rfl⟩:∃ n:Nat,pl=n:=⟨pl.toNat,by omega⟩
  refine .inr ⟨by simp,?_⟩
  by_cases hk:kn=0
  ·subst hk
   exact congrArg List.length (gK dn sn tn an pn)
  ·obtain rfl:kn=1:=by omega
   exact congrArg List.length (gI dn sn tn an pn)
theorem xN (i:aU){p:Int}(hr:au i p=U)(hp:p<=1073741824)(k0:0<=i.k)(k1:i.k<4294967296)(h:co i=S):ee (ah i)=P (i,[]):=by
 have hr2:=nk hp hr
 have h0:rN (ah i)=P i:=(jF _ _).2 ⟨hr2,k0,k1,rfl⟩
 unfold ee
 cases hj:rN (dP (ah i)++[48]) with
 | none=>simp only[h0,h];rfl
 | some j=>
  simp only
  rw[if_neg,h0]
  ·simp only[h];rfl
  ·rintro⟨hg,-⟩
   obtain⟨jr,j0,j1,jt⟩:=(jF _ _).1 hj
   rcases jV (ah i) with hb | ⟨a,b,hb,hs⟩
   ·obtain⟨r,hr3⟩:=nf hr
    rw[hr3] at hb
    exact hb 32 (by simp) rfl
   ·rw[hs,lO a b hb] at jt
    have jt2:ah j=a++32 :: [48]:=by rw[jt];simp
    have w1:aq (ah i)=aq a++[b]:=by rw[hs,ga,cQ b hb]
    have w2:aq (ah j)=aq a++[[48]]:=by rw[jt2,ga,cQ [48] (by simp)]
    have e1:=po hr
    have e2:=po jr
    rw[w1] at e1
    rw[w2] at e2
    have hop:i.op=j.op:=by
     refine EC hr jr ?_
     cases hw:aq a with
     | nil=>exact absurd hw (pi a)
     | cons x y=>
      rw[hw] at e1 e2
      simp at e1 e2
      rw[<-e1,<-e2]
    rcases iy hg with e | e | e | ⟨e,e3⟩
    ·unfold co at h;rw[hop,e] at h;revert h;simp
    ·unfold co at h;rw[hop,e] at h;revert h;simp
    ·unfold co at h;rw[hop,e] at h;revert h;simp
    ·have c1:=ng hr hp k0 k1 (hop.trans e)
     have c2:=ng jr (Int.le_refl _) j0 j1 e
     rw[w1] at c1
     rw[w2] at c2
     simp only[List.length_append,List.length_cons,List.length_nil] at c1 c2
     have:¬ 0<=i.pl:=by
      unfold co at h
      rw[hop,e] at h
      simp at h
      omega
     omega
theorem DR {s a b:List UInt8}(h:s=a++32 :: b)(hb:b≠[]):rO s=S:=by
 rw[Bool.eq_false_iff]
 intro hl
 unfold rO at hl
 simp only[Bool.and_eq_true] at hl
 have hn:=qT hl.2.2
 refine hn 32 ?_ rfl
 rw[h,List.dropLast_append_of_ne_nil (by simp)]
 cases b with
 | nil=>exact absurd rfl hb
 | cons x y=>simp
theorem EE {s:List UInt8}(h:cE s=U):rO (s++[58])=U:=by
 unfold rO
 simp[h]
inductive vS where
 | lab (nm:List UInt8)
 | ins (i:aU) (nm s:List UInt8)
def vS.text:vS->List UInt8
 | .lab nm=>nm++[58]
 | .ins _ _ s=>s
def vS.Ok:vS->Prop
 | .lab nm=>cE nm=U
 | .ins i nm s=>rO s=S/\ee s=P (i,nm)
def jN:List vS->Int->List (List UInt8×Int)
 | [],_=>[]
 | .lab nm :: m,k=>(nm,k) :: jN m k
 | .ins _ _ _ :: m,k=>jN m (k+1)
def iT:List vS->Int->List (aU×List UInt8×Int)
 | [],_=>[]
 | .lab _ :: m,n=>iT m (n+1)
 | .ins i nm _ :: m,n=>(i,nm,n) :: iT m (n+1)
def jz:List vS->List (List UInt8)
 | []=>[]
 | .lab nm :: m=>nm :: jz m
 | .ins _ _ _ :: m=>jz m
theorem lW:∀ (toks:List vS) (n:Int) (ls:List (List UInt8×Int)) (rs:List (aU×List UInt8×Int)),(∀ t∈toks,t.Ok)->(ls.map (·.1)++jz toks).Nodup->rs.length+(iT toks n).length<=64->
 rK (toks.map vS.text) n ls rs=.inr (ls++jN toks rs.length,rs++iT toks n)
 | [],n,ls,rs,_,_,_=>by simp[rK,jN,iT]
 | .lab nm :: m,n,ls,rs,hok,hnd,hc=>by
  have h1:cE nm=U:=hok _ List.mem_cons_self
  have hany:(ls.any fun x=>x.1==nm)=S:=by
   rw[Bool.eq_false_iff]
   intro h
   obtain⟨x,hx,he⟩:=List.any_eq_true.1 h
   have he2:x.1=nm:=by simpa using he
   have:=(List.nodup_append.1 hnd).2.2 x.1 (List.mem_map.2 ⟨x,hx,rfl⟩) nm (by simp[jz])
   exact this he2
  have ih:=lW m (n+1) (ls++[(nm,(rs.length:Int))]) rs (fun t ht=>hok t (List.mem_cons_of_mem _ ht)) (by simpa [jz] using hnd) (by simpa [iT] using hc)
  simp only[List.map_cons,vS.text,rK,EE h1,if_pos,List.dropLast_concat,hany]
  rw[if_neg (by decide),ih]
  simp[jN,iT]
 | .ins i nm s :: m,n,ls,rs,hok,hnd,hc=>by
  obtain⟨h1,h2⟩:rO s=S/\ee s=P (i,nm):=hok _ List.mem_cons_self
  have hc2:rs.length+((iT m (n+1)).length+1)<=64:=by simpa [iT] using hc
  have ih:=lW m (n+1) ls (rs++[(i,nm,n)]) (fun t ht=>hok t (List.mem_cons_of_mem _ ht)) (by simpa [jz] using hnd) (by simp;omega)
  simp only[List.map_cons,vS.text,rK,h1,h2]
  rw[if_neg (by decide),if_neg (by omega),ih]
  simp[jN,iT]
theorem uC:∀ s:List UInt8,bN s≠[]
 | []=>by simp[bN]
 | c :: r=>by
  unfold bN
  split
  ·simp
  ·cases h:bN r with
   | nil=>simp[iZ]
   | cons a b=>simp[iZ]
theorem iQ:∀ (t r:List UInt8),Nl t->bN (t++10 :: r)=t :: bN r
 | [],r,_=>by simp[bN]
 | c :: t,r,h=>by
  have ih:=iQ t r fun d hd=>h d (List.mem_cons_of_mem _ hd)
  show bN (c :: (t++10 :: r))=_
  rw[bN,if_neg (h c List.mem_cons_self),ih]
  rfl
theorem km:∀ (l:List (List UInt8)),(∀ s∈l,Nl s)->bN (l.flatMap fun s=>s++[10])=l++[[]]
 | [],_=>rfl
 | s :: m,h=>by
  have ih:=km m fun x hx=>h x (List.mem_cons_of_mem _ hx)
  rw[List.flatMap_cons,List.append_assoc]
  show bN (s++10 :: (m.flatMap fun s=>s++[10]))=_
  rw[iQ s _ (h s List.mem_cons_self),ih]
  rfl
theorem C6 (n:Int):Nl (Lib.itoa n):=by
 have pg:∀ k:Nat,Nl (Lib.decDigits k):=fun k c hc e=>by
  have:=pY k c hc
  rw[e] at this
  revert this
  decide
 unfold Lib.itoa
 split
 ·intro c hc
  rcases List.mem_cons.1 hc with rfl | hc
  ·decide
  ·exact pg _ c hc
 ·exact pg _
theorem DQ (op:Int):Nl (bE op):=by
 rcases cw op with rfl|rfl|rfl|rfl|rfl|rfl|rfl|rfl|rfl|rfl|rfl|rfl|rfl|rfl|rfl|rfl|rfl|rfl|rfl|rfl|rfl | hn
 all_goals first | (unfold Nl;decide) | (rw[(dB hn).2];unfold Nl;simp)
theorem CB (i:aU)(x:Int):Nl (aN i x):=by
 have pg:∀ (a:List UInt8) (n:Int),(∀ y∈a,y≠10)->Nl (a++Lib.itoa n):=fun a n ha=>Nl.app ha (C6 n)
 have k1:∀ n:Int,Nl (32 :: Lib.itoa n):=fun n=>pg [32] n (by decide)
 unfold aN
 repeat' split
 all_goals first
  | exact k1 _
  | exact pg _ _ (by decide)
  | (unfold Nl;decide)
theorem nZ (i:aU):∀ l:List UInt8,Nl (az i l)
 | []=>by unfold Nl az;simp
 | x :: l=>by
  have:az i (x :: l)=aN i x.toNat++az i l:=by simp[az]
  rw[this]
  exact Nl.app (CB i _) (nZ i l)
theorem B4 (i:aU):Nl (ah i):=Nl.app (DQ _) (nZ i _)
theorem Db (i:aU):Nl (eW i):=by
 unfold eW
 refine Nl.app (Nl.app (DQ _) (nZ i _)) ?_
 split <;> (unfold Nl;decide)
theorem wn {s:List UInt8}(h:cE s=U):Nl s:=by
 unfold cE at h
 simp only[Bool.and_eq_true] at h
 intro c hc e
 have:=List.all_eq_true.1 h.2.2.2 c hc
 subst e
 revert this
 decide
theorem C7 (n:Int):Lib.itoa n≠[]:=by
 unfold Lib.itoa
 split
 ·simp
 ·obtain⟨c,r,h,-⟩:=jg n.toNat
  rw[h]
  simp
theorem wY {i:aU}{p:Int}(hr:au i p=U):∃ r,ah i=bE i.op++32 :: r/\r≠[]:=by
 have hh:=kz hr
 have hi:=C7
 obtain⟨op,d,s,t,u,a,k,pl⟩:=i
 simp only at hh
 rcases cw op with rfl|rfl|rfl|rfl|rfl|rfl|rfl|rfl|rfl|rfl|rfl|rfl|rfl|rfl|rfl|rfl|rfl|rfl|rfl|rfl|rfl | hn
 all_goals first
  | exact absurd (dB hn).1 hh
  | (unfold ah az;simp only[cP];simp[aN,aW,hi])
theorem AM {ls:List (List UInt8×Int)}{s:List UInt8}{n:Int}(h:0<=bf ls s n):bf ls s n<n:=by
 unfold bf at *
 split at h
 ·rename_i x hx
  have:=List.find?_some hx
  simp only[Bool.and_eq_true,decide_eq_true_eq] at this
  exact this.2
 ·omega
def dU (ls:List (List UInt8×Int))(rs:List (aU×List UInt8×Int)):gp×Int×Int:=
 match gz ls rs.length rs with
 | .inl (n,e)=>(gp.zero,n,e)
 | .inr l=>if bf ls fR rs.length<0\/bf ls dt rs.length<0 then (gp.zero,0,10)
  else (⟨l,bf ls fR rs.length,bf ls dt rs.length⟩,0,0)
def ij (t:List UInt8)(n:Int)(ls:List (List UInt8×Int))(rs:List (aU×List UInt8×Int)):gp×Int×Int:=
 match rK (bN t).dropLast n ls rs with
 | .inl (m,e)=>(gp.zero,m,e)
 | .inr (ls,rs)=>if (bN t).getLastD []≠[] then (gp.zero,n+(bN t).length-1,8) else dU ls rs
theorem p9 (text:List UInt8):eQ text=ij text 1 [] []:=by
 have e:(1:Int)+((bN text).length:Int)-1=((bN text).length:Int):=by omega
 unfold eQ ij dU
 rw[e]
theorem oQ {α:Type}(x:α)(l:List α)(h:l≠[]):(x :: l).dropLast=x :: l.dropLast:=by
 cases l with
 | nil=>exact absurd rfl h
 | cons a b=>rfl
theorem mN {α:Type}(x d:α)(l:List α)(h:l≠[]):(x :: l).getLastD d=l.getLastD d:=by
 cases l with
 | nil=>exact absurd rfl h
 | cons a b=>rfl
theorem fm (s r:List UInt8)(h:Nl s)(n:Int)(ls:List (List UInt8×Int))(rs:List (aU×List UInt8×Int)):
 ij (s++10 :: r) n ls rs =
  if rO s=U then (if (ls.any fun x=>x.1==s.dropLast)=U then (gp.zero,n,2) else ij r (n+1) (ls++[(s.dropLast,(rs.length:Int))]) rs)
  else match ee s with
   | none=>(gp.zero,n,8)
   | some (i,nm)=>if 64<=rs.length then (gp.zero,n,9) else ij r (n+1) ls (rs++[(i,nm,n)]):=by
 have hp:=iQ s r h
 have hne:=uC r
 have e:n+((bN (s++10 :: r)).length:Int)-1=n+1+((bN r).length:Int)-1:=by
  rw[hp]
  simp
  omega
 unfold ij
 rw[e,hp,oQ _ _ hne,mN _ _ _ hne]
 simp only[rK]
 by_cases h1:rO s=U
 ·simp only[h1,if_true]
  by_cases h2:(ls.any fun x=>x.1==s.dropLast)=U
  ·simp only[h2,if_true]
  ·simp only[h2]
   rfl
 ·simp only[h1]
  cases hl:ee s with
  | none=>simp
  | some q=>
   obtain⟨i,nm⟩:=q
   simp only
   by_cases h3:64<=rs.length
   ·simp[h3]
   ·simp[h3]
theorem jy (s:List UInt8)(h:Nl s)(n:Int)(ls:List (List UInt8×Int))(rs:List (aU×List UInt8×Int)):ij s n ls rs=if s≠[] then (gp.zero,n,8) else dU ls rs:=by
 have hp:∀ t:List UInt8,Nl t->bN t=[t]:=by
  intro t
  induction t with
  | nil=>intro _;rfl
  | cons c t ih=>
   intro ht
   rw[bN,if_neg (ht c List.mem_cons_self),ih fun d hd=>ht d (List.mem_cons_of_mem _ hd)]
   rfl
 unfold ij
 rw[hp s h]
 simp[rK]
theorem yY (ls:List (List UInt8×Int))(n:Int)(i:aU)(row:Int)(more:List (aU×List UInt8×Int)):
 gz ls n ((i,[],row) :: more)=match gz ls n more with | .inl e=>.inl e | .inr l=>.inr (i :: l):=by
 simp only[gz]
 rfl
theorem qb (ls:List (List UInt8×Int))(n:Int)(i:aU)(nm:List UInt8)(hn:nm≠[])(row:Int)(more:List (aU×List UInt8×Int)):
 gz ls n ((i,nm,row) :: more)=if bf ls nm n<0 then .inl (row,10) else match gz ls n more with | .inl e=>.inl e | .inr l=>.inr ({ i with pl:=bf ls nm n } :: l):=by
 simp only[gz]
 rw[if_neg hn]
theorem A5 (c:gp)(toks:List vS)(N:Nat)(hN:N<=64)(hok:∀ t∈toks,t.Ok/\Nl t.text)(hnd:(jz toks).Nodup)(hlen:(iT toks 1).length=N)
 (h2:gz (jN toks 0) N (iT toks 1)=.inr c.l) (hlo:bf (jN toks 0) fR N=c.lo) (hun:bf (jN toks 0) dt N=c.un) (h0:0<=c.lo) (h1:0<=c.un):
 eQ ((toks.map vS.text).flatMap fun s=>s++[10])=(c,0,0):=by
 have hp:=km (toks.map vS.text) (by
  intro s hs
  obtain⟨t,ht,rfl⟩:=List.mem_map.1 hs
  exact(hok t ht).2)
 have h3:=lW toks 1 [] [] (fun t ht=>(hok t ht).1) (by simpa using hnd) (by simpa [hlen] using hN)
 simp only[List.nil_append,List.length_nil,Int.ofNat_zero] at h3
 unfold eQ
 rw[hp,List.dropLast_concat,h3]
 simp only[List.getLastD_concat,hlen,h2,hlo,hun]
 rw[if_neg (by simp),if_neg (by omega)]
theorem qM (nm:List UInt8)(h:cE nm=U):(vS.lab nm).Ok/\Nl (vS.lab nm).text:=by
 refine⟨h,?_⟩
 show Nl (nm++[58])
 exact Nl.app (wn h) (by intro c hc;simp at hc;subst hc;decide)
theorem cM (i:aU)(s:List UInt8)(hr:au i 64=U)(k0:0<=i.k)(k1:i.k<4294967296)(hg:co i=S)(hs:ah i=s):(vS.ins i [] s).Ok/\Nl (vS.ins i [] s).text:=by
 subst hs
 obtain⟨r,e,hn⟩:=wY hr
 exact⟨⟨DR e hn,xN i hr (by decide) k0 k1 hg⟩,B4 i⟩
theorem zR (i:aU)(nm s:List UInt8)(hr:au i 64=U)(k0:0<=i.k)(k1:i.k<4294967296)(hg:co i=U)(hn:cE nm=U)(hs:eW i++nm=s)(h0:i.pl=0):(vS.ins i nm s).Ok/\Nl (vS.ins i nm s).text:=by
 subst hs
 obtain⟨a,ha⟩:=pQ i
 have h:=xP i hr (by decide) k0 k1 hg nm hn
 have e:({ i with pl:=0 }:aU)=i:=by rw[<-h0]
 rw[e] at h
 exact⟨⟨DR (a:=a) (b:=nm) (by rw[ha];simp) (CG hn),h⟩,Nl.app (Db i) (wn hn)⟩
end
section
open Go.ChangeShapes Go.WideShapes Go.ChangeAt Go.RowKit
theorem jW {w:World}{k:Nat}{s:ByteArray}{p:Nat}(h:w.heap[k]?=P (.stringIter s p)):w.iterPos k=p:=by simp[World.iterPos,h]
theorem xi (s:List UInt8)(n:Nat)(h:n<s.length):kp (s.drop n) n=(zJ n (s.getD n 0) && kp (s.drop (n+1)) (n+1)):=by
 rw[List.drop_eq_getElem_cons h,kp]
 simp[List.getD_eq_getElem?_getD,h]
def Fo (n c:Nat):Bool:=(decide (97<=c) && decide (c<=122)) || ((decide (48<=c) && decide (c<=57)) && decide (n≠0))
theorem Ez (n:Nat)(c:UInt8):zJ n c=Fo n c.toNat:=rfl
theorem wk {n c:Nat}(h:Fo n c=U):(97<=c/\c<=122)\/(48<=c/\c<=57/\n≠0):=by
 unfold Fo at h
 simp only[Bool.or_eq_true,Bool.and_eq_true,decide_eq_true_eq] at h
 omega
theorem Ew {n c:Nat}(h:Fo n c=S):c<48\/(48<=c/\c<=57/\n=0)\/(57<c/\c<97)\/122<c:=by
 unfold Fo at h
 simp only[Bool.or_eq_false_iff,Bool.and_eq_false_iff,decide_eq_false_iff_not] at h
 omega
theorem wK (s:List UInt8)(w:World):
 Calls Tryz.prog 97 #[bs s] w fun e w'=>e=.returned (.bool (cE s))/\Below w.heap.size w w':=by
 have hsz:(⟨s.toArray⟩:ByteArray).size=s.length:=by show s.toArray.size=_;simp
 unfold bs
 by_cases h0:s=[]
 ·subst h0
  go_enter Tryz.func97,Tryz.ntmps97
  go_wp2
  go_ret
  exact⟨rfl,C _ _⟩
 by_cases h1:16<s.length
 ·have e:cE s=S:=by
   unfold cE
   have:decide (s.length<=16)=S:=by simp;omega
   simp[this]
  rw[e]
  have q0:(s==[])=S:=by simpa using h0
  have q1:(16:Int)<s.length:=by omega
  go_enter Tryz.func97,Tryz.ntmps97
  go_wp2
  go_ret
  exact⟨rfl,C _ _⟩
 have q0:(s==[])=S:=by simpa using h0
 have q1:¬ (16:Int)<s.length:=by omega
 have hl:1<=s.length:=by cases s with
  | nil=>exact absurd rfl h0
  | cons=>simp
 have HN:=D (xI s hl (by omega))
 generalize cE s=r at *
 go_enter Tryz.func97,Tryz.ntmps97
 go_wp2
 go_loopw [2] (fun v wr=>∃ n:Nat,v=.bool S/\n<=s.length/\wr.heap[w.heap.size]?=P (.stringIter ⟨s.toArray⟩ n)/\Below w.heap.size w wr/\Hid (r=kp (s.drop n) n))
  (fun v wr=>s.length-wr.iterPos w.heap.size)
 case atStart=>exact⟨0,rfl,by omega,World.iter_heap w _ 0,(C _ _).alloc (L _) _,D (by simpa using HN.out)⟩
 case round=>
  obtain⟨n,rfl,hn,hit,hb,HR⟩:=hrel
  have hpos:=jW hit
  by_cases hp:n<s.length
  ·have hnx:∀ ty,(Instr.next (G (P ⟨w.heap.size,0,Z⟩)) U ty).run Tryz.prog wr=_:=fun ty=>Lib.run_next_any_at wr w.heap.size ⟨s.toArray⟩ n ty hit (by omega)
   have hg:(⟨s.toArray⟩:ByteArray)[n]'(by omega)=s.getD n 0:=by
    simp[ByteArray.getElem_eq_getElem_data,hp]
   have HD:=D (xi s n hp)
   have HK:Hid (zJ n (s.getD n 0)=Fo n (s.getD n 0).toNat):=D (Ez _ _)
   have hit2:=Lib.iterAt_heap wr w.heap.size ⟨s.toArray⟩ n (n+(Utf8.decode ⟨s.toArray⟩ n).2) hit
   have hb2:=Lib.below_iterAt hb (k:=w.heap.size) (L _) ⟨s.toArray⟩ (n+(Utf8.decode ⟨s.toArray⟩ n).2)
   by_cases hc:(s.getD n 0).toNat<128
   ·have hd:=decode_ascii ⟨s.toArray⟩ n (by omega) (by rw[hg];exact hc)
    rw[hg] at hd
    rw[hd] at hnx hit2 hb2
    simp only at hnx hit2 hb2
    clear hd hg hc
    generalize wr.iterAt w.heap.size ⟨s.toArray⟩ (n+1)=W1 at *
    rw[HK.out] at HD
    clear HK
    generalize (s.getD n 0).toNat=c at *
    clear hit
    cases ho:Fo n c with
    | true=>
     have HR2:Hid (r=kp (s.drop (n+1)) (n+1)):=D (by rw[HR.out,HD.out,ho];simp)
     rcases wk ho with ⟨k1,k2⟩ | ⟨k1,k2,k3⟩
     ·have z1:(97:Int)<=(c:Int):=by omega
      have z2:(c:Int)<=122:=by omega
      clear HR HD ho k1 k2
      go_wp2
      all_goals (
       go_roundw
       case rel=>exact⟨n+1,rfl,by omega,hit2,hb2,HR2⟩
       case measure=>rw[jW hit2,hpos];omega)
     ·have z1:¬ (97:Int)<=(c:Int):=by omega
      have z2:(48:Int)<=(c:Int):=by omega
      have z3:(c:Int)<=57:=by omega
      have z4:((n:Int)==0)=S:=by simp;omega
      clear HR HD ho k1 k2
      go_wp2
      all_goals (
       go_roundw
       case rel=>exact⟨n+1,rfl,by omega,hit2,hb2,HR2⟩
       case measure=>rw[jW hit2,hpos];omega)
    | false=>
     have HR2:Hid (r=S):=D (by rw[HR.out,HD.out,ho];simp)
     rcases Ew ho with k1 | ⟨k1,k2,k3⟩ | ⟨k1,k2⟩ | k1
     ·have z1:¬ (97:Int)<=(c:Int):=by omega
      have z2:¬ (48:Int)<=(c:Int):=by omega
      clear HR HD ho k1
      go_wp2
      go_ret
      exact⟨by rw[HR2.out];rfl,hb2⟩
     ·have z1:¬ (97:Int)<=(c:Int):=by omega
      have z2:(48:Int)<=(c:Int):=by omega
      have z3:(c:Int)<=57:=by omega
      have z4:((n:Int)==0)=U:=by simp;omega
      clear HR HD ho k1 k2
      go_wp2
      go_ret
      exact⟨by rw[HR2.out];rfl,hb2⟩
     ·have z1:¬ (97:Int)<=(c:Int):=by omega
      have z2:(48:Int)<=(c:Int):=by omega
      have z3:¬ (c:Int)<=57:=by omega
      clear HR HD ho k1 k2
      go_wp2
      go_ret
      exact⟨by rw[HR2.out];rfl,hb2⟩
     ·have z1:(97:Int)<=(c:Int):=by omega
      have z2:¬ (c:Int)<=122:=by omega
      have z3:(48:Int)<=(c:Int):=by omega
      have z4:¬ (c:Int)<=57:=by omega
      clear HR HD ho k1
      go_wp2
      go_ret
      exact⟨by rw[HR2.out];rfl,hb2⟩
   ·have hd:=(decode_high ⟨s.toArray⟩ n (by omega) (by rw[hg];omega)).1
    have HR2:Hid (r=S):=D (by
     rw[HR.out,HD.out,HK.out]
     have:Fo n (s.getD n 0).toNat=S:=by
      cases ho:Fo n (s.getD n 0).toNat with
      | false=>rfl
      | true=>rcases wk ho with ⟨k1,k2⟩ | ⟨k1,k2,k3⟩ <;> omega
     rw[this];simp)
    generalize (Utf8.decode ⟨s.toArray⟩ n).1=c at *
    generalize wr.iterAt w.heap.size ⟨s.toArray⟩ (n+(Utf8.decode ⟨s.toArray⟩ n).2)=W1 at *
    have z1:(97:Int)<=(c:Int):=by omega
    have z2:¬ (c:Int)<=122:=by omega
    have z3:(48:Int)<=(c:Int):=by omega
    have z4:¬ (c:Int)<=57:=by omega
    clear HR HD HK hd hc hg hit2 hit
    go_wp2
    go_ret
    exact⟨by rw[HR2.out];rfl,hb2⟩
  ·have hnx:∀ ty,(Instr.next (G (P ⟨w.heap.size,0,Z⟩)) U ty).run Tryz.prog wr=_:=fun ty=>Lib.run_next_end_at wr w.heap.size ⟨s.toArray⟩ n ty hit (by omega)
   have HR2:Hid (r=U):=D (by rw[HR.out,List.drop_of_length_le (by omega)];rfl)
   clear HR hit
   go_wp2
   go_ret
   exact⟨by rw[HR2.out];rfl,hb⟩
theorem sc (i:aU):(eS i=U/\(i.op=8\/i.op=9\/i.op=10))\/(i.op=21/\eS i=decide (i.pl≠-1))\/(eS i=S/\i.op≠8/\i.op≠9/\i.op≠10/\i.op≠21):=by
 unfold eS
 by_cases h:i.op=8\/i.op=9\/i.op=10
 ·exact .inl ⟨by simp[h],h⟩
 by_cases h2:i.op=21
 ·exact .inr (.inl ⟨h2,by simp[h2]⟩)
 ·exact .inr (.inr ⟨by simp[h,h2],by omega,by omega,by omega,h2⟩)
theorem yS (i:aU)(w:World):
 Calls Tryz.prog 142 #[iv i] w fun e w'=>e=.returned (.bool (eS i))/\Below w.heap.size w w':=by
 have hb:∀ cs:Array Value,Below w.heap.size w (w.alloc (.cells cs 117)):=fun cs=>(C _ _).alloc (L _) _
 have HP:=sc i
 generalize eS i=r at *
 obtain⟨op,d,s,t,u,a,k,pl⟩:=i
 simp only at HP
 unfold iv
 rcases HP with ⟨rfl,rfl|rfl|rfl⟩ | ⟨rfl,h⟩ | ⟨rfl,h1,h2,h3,h4⟩
 ·go_enter Tryz.func142,Tryz.ntmps142
  go_wp2
  go_ret
  exact⟨rfl,hb _⟩
 ·go_enter Tryz.func142,Tryz.ntmps142
  go_wp2
  go_ret
  exact⟨rfl,hb _⟩
 ·go_enter Tryz.func142,Tryz.ntmps142
  go_wp2
  go_ret
  exact⟨rfl,hb _⟩
 ·have HH:=D h
  clear h
  go_enter Tryz.func142,Tryz.ntmps142
  go_wp2
  go_ret
  refine⟨?_,hb _⟩
  rw[HH.out]
  congr 2
  simp[bne]
  by_cases e:pl=-1 <;> simp[e]
 ·have e1:(op==8)=S:=by simpa using h1
  have e2:(op==9)=S:=by simpa using h2
  have e3:(op==10)=S:=by simpa using h3
  have e4:(op==21)=S:=by simpa using h4
  go_enter Tryz.func142,Tryz.ntmps142
  go_wp2
  go_ret
  exact⟨rfl,hb _⟩
end
section
open Go.ChangeShapes Go.WideShapes Go.ChangeAt Go.RowKit Go.Shelf
attribute [local go_sem] Oper.semAt_some
theorem yR (s:List UInt8)(w:World):
 Calls Tryz.prog 60 #[bs s] w fun e w'=>e=.returned (.func (.func 94) #[] #[G (P ⟨w.heap.size,0,Z⟩)])/\w'=w.alloc (E #[bs s] 9):=by
 unfold bs
 go_enter Tryz.func60,Tryz.ntmps60
 go_wp2
 go_ret
 exact⟨rfl,rfl⟩
theorem ss (text:List UInt8)(b l:Nat)(W1:World)(hb:Bk W1 b 9 #[bs text])(hlen:text.length<1000000000):
 Fk Tryz.prog 94 #[G (P ⟨b,0,Z⟩)] (fun k=>#[I Q ((k:Int)+1),bs (eG text k)]) (bG text).length l W1 (fun x=>W1.heap.size<=x/\x<W1.heap.size+5):=by
 intro J Jx hJ hJx hY h0
 have hc0:W1.cell? ⟨b,0,Z⟩=P (.string ⟨text.toArray⟩):=hb.cell 0
 have HL:=D (fun W=>callsIn_wide (n:=0) |>.2 (EH text W))
 refine callsIn_of_wp_marks Tryz.func94 rfl trivial ?_ rfl
 simp only[Tryz.ntmps94,List.size_toArray,List.length_cons,List.length_nil,Nat.reduceAdd,Nat.reduceSub,Array.replicate_succ,Array.replicate_zero,List.push_toArray,List.append_toArray,List.nil_append,List.cons_append]
 have y2:=Bk.alloc (Bk.made W1 190 #[.func (.yield l) #[] #[]]) (E #[I Q 0] 3)
 have n2:=Bk.made (W1.alloc (E #[.func (.yield l) #[] #[]] 190)) 3 #[I Q 0]
 have t2:=Bk.alloc (Bk.alloc hb (E #[.func (.yield l) #[] #[]] 190)) (E #[I Q 0] 3)
 have w2:ag W1 ((W1.alloc (E #[.func (.yield l) #[] #[]] 190)).alloc (E #[I Q 0] 3)) (fun _=>False):=((ag.refl _ _).alloc _).alloc _
 have s2:((W1.alloc (E #[.func (.yield l) #[] #[]] 190)).alloc (E #[I Q 0] 3)).heap.size=W1.heap.size+2:=by simp
 rw[World.size_alloc] at n2
 have hc2:((W1.alloc (E #[.func (.yield l) #[] #[]] 190)).alloc (E #[I Q 0] 3)).cell? ⟨b,0,Z⟩=P (.string ⟨text.toArray⟩):=t2.cell 0
 gi_wp2
 generalize (W1.alloc (E #[.func (.yield l) #[] #[]] 190)).alloc (E #[I Q 0] 3)=W2 at *
 refine⟨trivial,rfl,?_⟩
 refine(HL.out _).mono ?_
 rintro e W3 ⟨rfl,rfl⟩
 have y3:=y2.alloc (E #[bs text] 9)
 have n3:=n2.alloc (E #[bs text] 9)
 have t3:=Bk.made W2 9 #[bs text]
 have s3:(W2.alloc (E #[bs text] 9)).heap.size=W1.heap.size+3:=by simp[s2]
 have w3:ag W1 (W2.alloc (E #[bs text] 9)) (fun _=>False):=w2.alloc _
 rw[s2] at t3 ⊢
 generalize W2.alloc (E #[bs text] 9)=W3 at *
 clear hc2 t2 n2 y2 w2 s2 W2 HL hc0
 gi_wp2
 have e0:W3.heap.size=W1.heap.size+3:=s3
 refine m7 (gf:=137) (lb:=#[G (P ⟨W1.heap.size+2,0,Z⟩)]) rfl (enters_of Tryz.func137 (by kernel_rfl) rfl)
  (encs:=fun k=>#[bs (eG text k)]) (N:=(bG text).length) (T:=fun x=>x=W1.heap.size+2) (fun _=>rfl) (by omega) (by omega)
  (fun W4 hb4 hz4=>AA text _ _ W4 ((hb4.block _ (by omega)).trans t3) hlen)
  (fun k W=>J k W/\Bk W W1.heap.size 190 #[.func (.yield l) #[] #[]]/\Bk W (W1.heap.size+1) 3 #[I Q k])
  (fun c W=>c=.ret/\Jx W) ?calm ?calmx ⟨hJ 0 _ _ h0 (w3.wide (by simp)),y3,n3⟩
  (fun k=>{ tmps:=#[.func (.yield l) #[] #[],G (P ⟨b,0,Z⟩),G (P ⟨W1.heap.size,0,Z⟩),G (P ⟨W1.heap.size+1,0,Z⟩),.string ⟨(eG text k).toArray⟩,.string ⟨text.toArray⟩,
   .func (.func 137) #[] #[G (P ⟨W1.heap.size+2,0,Z⟩)],.string ⟨(eG text k).toArray⟩,X,X,X,X,X,X,X],defers:=[] }) ?assign ?body ?done ?stop
 case calm=>
  rintro k A B ⟨j,y,n⟩ hw
  exact⟨hJ k A B j (hw.wide (by rintro i (rfl|rfl|rfl) _ <;> omega)),y.within hw (by omega),n.within hw (by omega)⟩
 case calmx=>
  rintro c A B ⟨rfl,j⟩ hw
  exact⟨rfl,hJx A B j (hw.wide (by rintro i (rfl|rfl|rfl) _ <;> omega))⟩
 case assign=>
  intro l2 k W K hK
  unfold bs
  gi_wp2
  exact hK
 case body=>
  rintro l2 k W hk ⟨hj,hy,hn⟩ hT
  have hkl:k<1000000000:=Nat.lt_of_lt_of_le hk (Nat.le_trans (lL text) (M hlen))
  have hwr:wrap64 ((k:Int)+1)=(k:Int)+1:=by unfold wrap64;omega
  have cn:W.cell? ⟨W1.heap.size+1,0,Z⟩=P (I Q k):=hn.cell 0
  have fn:=hn.free 0
  have w1:ag W (W.setCell ⟨W1.heap.size+1,0,Z⟩ (I Q ((k:Int)+1))) (fun x=>x=W1.heap.size+1):=(ag.refl _ _).put _ 0 _ (.inl rfl)
  have n1:Bk (W.setCell ⟨W1.heap.size+1,0,Z⟩ (I Q ((k:Int)+1))) (W1.heap.size+1) 3 #[I Q ((k:Int)+1)]:=hn.put 0 _
  have y1:=hy.within w1 (by omega)
  have hj1:=hJ k _ _ hj (w1.wide (by rintro i rfl _;omega))
  obtain⟨fn2,tmps,assign,body,hyy,hR⟩:=hY k _ hk hj1 (by intro x hx;have:=w1.size;have:=hT (W3.heap.size+1) (.inr (.inl rfl));omega)
  unfold bs at hyy
  have cy:(W.setCell ⟨W1.heap.size+1,0,Z⟩ (I Q ((k:Int)+1))).cell? ⟨W1.heap.size,0,Z⟩=P (.func (.yield l) #[] #[]):=y1.cell 0
  have cn1:(W.setCell ⟨W1.heap.size+1,0,Z⟩ (I Q ((k:Int)+1))).cell? ⟨W1.heap.size+1,0,Z⟩=P (I Q ((k:Int)+1)):=n1.cell 0
  gi_wp2
  refine⟨rfl,RoundIn.mono (F:=Fence.wide) hR ?_⟩
  rintro e W5 ⟨hh,hQ⟩
  have hT5:gU (fun x=>x=W3.heap.size\/x=W3.heap.size+1\/x=W1.heap.size+2) W W5:=by
   refine⟨Nat.le_trans w1.size hh.1,?_⟩
   rintro x (rfl|rfl|rfl)
   ·exact(hh.2 _ ⟨by omega,by omega⟩).trans (w1.block _ (hT _ (.inl rfl)) (by omega))
   ·exact(hh.2 _ ⟨by omega,by omega⟩).trans (w1.block _ (hT _ (.inr (.inl rfl))) (by omega))
   ·exact(hh.2 _ ⟨by omega,by omega⟩).trans (w1.block _ (hT _ (.inr (.inr rfl))) (by omega))
  rcases hQ with ⟨rfl,hJ5⟩ | ⟨rfl,hJx5⟩
  ·gi_wp2
   exact⟨hT5,hJ5,(hh.2 _ ⟨by omega,by omega⟩).trans y1,(hh.2 _ ⟨by omega,by omega⟩).trans n1⟩
  ·gi_wp2
   exact⟨hT5,rfl,hJx5⟩
 case done=>
  rintro W ⟨hj,_,_⟩ hd
  gi_wp2
  refine⟨by simp,.inl ⟨_,_,rfl,run_takeDeferred hd,?_⟩⟩
  exact⟨_,results_none rfl _ _ _,⟨_,rfl⟩,.inl (hJ _ _ _ hj (cK _ _ _ _ ⟨by omega,by omega⟩))⟩
 case stop=>
  rintro c W ⟨rfl,hj⟩ hd
  gi_wp2
  refine⟨by simp,.inl ⟨_,_,rfl,run_takeDeferred hd,?_⟩⟩
  exact⟨_,results_none rfl _ _ _,⟨_,rfl⟩,.inr (hJx _ _ hj (cK _ _ _ _ ⟨by omega,by omega⟩))⟩
end
section
def DX:gp:=⟨GK,0,11⟩
def kg:List vS:=[.lab [108,111,99,107],.ins ⟨11,1,0,0,0,0,0,0⟩ [] ([115,101,108,102,32,114,49]),.ins ⟨16,2,1,0,0,1,0,0⟩ [] ([108,111,97,100,32,114,50,32,49,32,114,49]),.ins ⟨5,3,1,0,0,0,1,0⟩ [] ([115,104,108,32,114,51,32,114,49,32,49]),.ins ⟨7,3,3,2,0,0,0,0⟩ [] ([111,114,32,114,51,32,114,51,32,114,50]),.ins ⟨18,4,0,3,0,0,0,0⟩ [] ([115,119,97,112,32,114,52,32,48,32,114,48,32,114,51]),.ins ⟨12,0,0,0,0,0,1,0⟩ [] ([109,97,114,107,32,49]),.ins ⟨4,5,4,0,0,0,1,0⟩ [] ([97,110,100,107,32,114,53,32,114,52,32,49]),.ins ⟨6,6,4,0,0,0,1,0⟩ [] ([115,104,114,32,114,54,32,114,52,32,49]),.ins ⟨21,4,6,5,0,1,1,-1⟩ [] ([97,119,97,105,116,32,114,52,32,49,32,114,54,32,110,101,32,114,53]),.ins ⟨12,0,0,0,0,0,2,0⟩ [] ([109,97,114,107,32,50]),.ins ⟨13,0,0,0,0,0,1,0⟩ [] ([100,111,110,101,32,49]),.lab [117,110,108,111,99,107],.ins ⟨1,3,0,0,0,0,1,0⟩ [] ([99,111,110,115,116,32,114,51,32,49]),.ins ⟨8,0,2,0,0,0,0,0⟩ [116,117,114,110] ([98,101,113,32,114,50,32,114,48,32,116,117,114,110]),.ins ⟨1,3,0,0,0,0,0,0⟩ [] ([99,111,110,115,116,32,114,51,32,48]),.lab [116,117,114,110],.ins ⟨17,0,1,3,0,1,0,0⟩ [] ([115,116,111,114,101,32,49,32,114,49,32,114,51]),.ins ⟨12,0,0,0,0,0,4,0⟩ [] ([109,97,114,107,32,52]),.ins ⟨13,0,0,0,0,0,2,0⟩ [] ([100,111,110,101,32,50])]
def ff:List UInt8:=[108,111,99,107,58,10,115,101,108,102,32,114,49,10,108,111,97,100,32,114,50,32,49,32,114,49,10,115,104,108,32,114,51,32,114,49,32,49,10,111,114,32,114,51,32,114,51,32,114,50,10,115,119,97,112,32,114,52,32,48,32,114,48,32,114,51,10,109,97,114,107,32,49,10,97,110,100,107,32,114,53,32,114,52,32,49,10,115,104,114,32,114,54,32,114,52,32,49,10,97,119,97,105,116,32,114,52,32,49,32,114,54,32,110,101,32,114,53,10,109,97,114,107,32,50,10,100,111,110,101,32,49,10,117,110,108,111,99,107,58,10,99,111,110,115,116,32,114,51,32,49,10,98,101,113,32,114,50,32,114,48,32,116,117,114,110,10,99,111,110,115,116,32,114,51,32,48,10,116,117,114,110,58,10,115,116,111,114,101,32,49,32,114,49,32,114,51,10,109,97,114,107,32,52,10,100,111,110,101,32,50,10]
theorem Dd:((kg).map vS.text).flatMap (fun s=>s++[10])=ff:=by
 rfl
theorem gB:Lib.itoa 0=[48]:=by
 unfold Lib.itoa
 rw[if_neg (by decide)]
 show Lib.decDigits 0=_
 rw[Lib.decDigits,dif_pos (by decide)]
 rfl
theorem kq:Lib.itoa 1=[49]:=by
 unfold Lib.itoa
 rw[if_neg (by decide)]
 show Lib.decDigits 1=_
 rw[Lib.decDigits,dif_pos (by decide)]
 rfl
theorem ub:Lib.itoa 2=[50]:=by
 unfold Lib.itoa
 rw[if_neg (by decide)]
 show Lib.decDigits 2=_
 rw[Lib.decDigits,dif_pos (by decide)]
 rfl
theorem rj:Lib.itoa 3=[51]:=by
 unfold Lib.itoa
 rw[if_neg (by decide)]
 show Lib.decDigits 3=_
 rw[Lib.decDigits,dif_pos (by decide)]
 rfl
theorem ua:Lib.itoa 4=[52]:=by
 unfold Lib.itoa
 rw[if_neg (by decide)]
 show Lib.decDigits 4=_
 rw[Lib.decDigits,dif_pos (by decide)]
 rfl
theorem DV:Lib.itoa 5=[53]:=by
 unfold Lib.itoa
 rw[if_neg (by decide)]
 show Lib.decDigits 5=_
 rw[Lib.decDigits,dif_pos (by decide)]
 rfl
theorem DU:Lib.itoa 6=[54]:=by
 unfold Lib.itoa
 rw[if_neg (by decide)]
 show Lib.decDigits 6=_
 rw[Lib.decDigits,dif_pos (by decide)]
 rfl
theorem Dc:∀ t∈kg,t.Ok/\Nl t.text:=by
 intro t ht
 simp only[kg,List.mem_cons,List.not_mem_nil,or_false] at ht
 rcases ht with rfl|rfl|rfl|rfl|rfl|rfl|rfl|rfl|rfl|rfl|rfl|rfl|rfl|rfl|rfl|rfl|rfl|rfl|rfl|rfl
 ·exact qM _ (by decide)
 ·exact cM _ _ (by decide) (by decide) (by decide) (by first | decide | rfl) (by simp[ah,az,aN,cP,bE,aW,gB,kq])
 ·exact cM _ _ (by decide) (by decide) (by decide) (by first | decide | rfl) (by simp[ah,az,aN,cP,bE,aW,gB,kq,ub])
 ·exact cM _ _ (by decide) (by decide) (by decide) (by first | decide | rfl) (by simp[ah,az,aN,cP,bE,aW,gB,kq,rj])
 ·exact cM _ _ (by decide) (by decide) (by decide) (by first | decide | rfl) (by simp[ah,az,aN,cP,bE,aW,gB,ub,rj])
 ·exact cM _ _ (by decide) (by decide) (by decide) (by first | decide | rfl) (by simp[ah,az,aN,cP,bE,aW,gB,rj,ua])
 ·exact cM _ _ (by decide) (by decide) (by decide) (by first | decide | rfl) (by simp[ah,az,aN,cP,bE,aW,gB,kq])
 ·exact cM _ _ (by decide) (by decide) (by decide) (by first | decide | rfl) (by simp[ah,az,aN,cP,bE,aW,gB,kq,ua,DV])
 ·exact cM _ _ (by decide) (by decide) (by decide) (by first | decide | rfl) (by simp[ah,az,aN,cP,bE,aW,gB,kq,ua,DU])
 ·exact cM _ _ (by decide) (by decide) (by decide) (by first | decide | rfl) (by simp[ah,az,aN,cP,bE,aW,kq,ua,DV,DU])
 ·exact cM _ _ (by decide) (by decide) (by decide) (by first | decide | rfl) (by simp[ah,az,aN,cP,bE,aW,gB,ub])
 ·exact cM _ _ (by decide) (by decide) (by decide) (by first | decide | rfl) (by simp[ah,az,aN,cP,bE,aW,gB,kq])
 ·exact qM _ (by decide)
 ·exact cM _ _ (by decide) (by decide) (by decide) (by first | decide | rfl) (by simp[ah,az,aN,cP,bE,aW,gB,kq,rj])
 ·exact zR _ _ _ (by decide) (by decide) (by decide) (by decide) (by decide) (by simp[eW,az,aN,cP,bE,aW,gB,ub]) rfl
 ·exact cM _ _ (by decide) (by decide) (by decide) (by first | decide | rfl) (by simp[ah,az,aN,cP,bE,aW,gB,rj])
 ·exact qM _ (by decide)
 ·exact cM _ _ (by decide) (by decide) (by decide) (by first | decide | rfl) (by simp[ah,az,aN,cP,bE,aW,gB,kq,rj])
 ·exact cM _ _ (by decide) (by decide) (by decide) (by first | decide | rfl) (by simp[ah,az,aN,cP,bE,aW,gB,ua])
 ·exact cM _ _ (by decide) (by decide) (by decide) (by first | decide | rfl) (by simp[ah,az,aN,cP,bE,aW,gB,ub])
theorem Bt:eQ (ff)=(DX,0,0):=by
 rw[<-Dd]
 exact A5 (DX) (kg) 17 (by decide) (Dc) (by unfold kg;simp only[jz];decide) rfl rfl (by unfold kg;simp only[jN];decide) (by unfold kg;simp only[jN];decide) (by show (0:Int)<=0;decide) (by show (0:Int)<=11;decide)
theorem tz:ff.length<80000:=by decide
end
section
open Go.ChangeShapes Go.WideShapes Go.ChangeAt Go.RowKit
theorem FO (i:aU)(w:World):
 Calls Tryz.prog 104 #[iv i] w fun e w'=>e=.returned (.bool (co i))/\Below w.heap.size w w':=by
 have HX:Hid (co i=((decide (8<=i.op) && decide (i.op<=10)) || (decide (i.op=21) && decide (0<=i.pl)))):=D rfl
 generalize co i=r at *
 obtain⟨op,d,s,t,u,a,k,pl⟩:=i
 unfold iv
 simp only at HX ⊢
 have k1:=Bk.made w 123 #[I Q op,I Q d,I Q s,I Q t,I Q u,I Q a,I O k,I Q pl]
 have b0:Below w.heap.size w (w.alloc (E #[I Q op,I Q d,I Q s,I Q t,I Q u,I Q a,I O k,I Q pl] 123)):=(C _ _).alloc (L _) _
 go_enter Tryz.func104,Tryz.ntmps104
 go_upto_region 1 with fail
 generalize w.alloc (E #[I Q op,I Q d,I Q s,I Q t,I Q u,I Q a,I O k,I Q pl] 123)=x at *
 obtain⟨c0,c7⟩:x.cell? ⟨w.heap.size,0,Z⟩=P (I Q op)/\x.cell? ⟨w.heap.size,7,Z⟩=P (I Q pl):=⟨k1.cell 0,k1.cell 7⟩
 by_cases h1:8<=op
 ·by_cases h2:op<=10
  ·have HQ:Hid (r=U):=D (by rw[HX.out];simp[h1,h2])
   clear HX
   go_wp2
   go_ret
   exact⟨by rw[HQ.out];rfl,b0⟩
  ·by_cases h3:op=21
   ·have e3:(op==21)=U:=by simpa using h3
    by_cases h4:0<=pl
    ·have HQ:Hid (r=U):=D (by rw[HX.out];simp[h3,h4])
     subst h3
     clear HX
     go_wp2
     go_ret
     exact⟨by rw[HQ.out];rfl,b0⟩
    ·have HQ:Hid (r=S):=D (by rw[HX.out];simp[h2,h4])
     subst h3
     clear HX
     go_wp2
     go_ret
     exact⟨by rw[HQ.out];rfl,b0⟩
   ·have e3:(op==21)=S:=by simpa using h3
    have HQ:Hid (r=S):=D (by rw[HX.out];simp[h2,h3])
    clear HX h3
    go_wp2
    go_ret
    exact⟨by rw[HQ.out];rfl,b0⟩
 ·have h3:¬ op=21:=by omega
  have e3:(op==21)=S:=by simpa using h3
  have HQ:Hid (r=S):=D (by rw[HX.out];simp[h1,h3])
  clear HX h3
  go_wp2
  go_ret
  exact⟨by rw[HQ.out];rfl,b0⟩
theorem A8 (s:List UInt8)(f:UInt8->Bool)(n:Nat)(h:n<s.length):(s.drop n).all f=(f (s.getD n 0) && (s.drop (n+1)).all f):=by
 rw[List.drop_eq_getElem_cons h,List.all_cons]
 simp[List.getD_eq_getElem?_getD,h]
theorem vY (s:List UInt8)(w:World):
 Calls Tryz.prog 63 #[bs s] w fun e w'=>e=.returned (.bool (cE s))/\w'=w:=by
 have HX:Hid (cE s=(decide (1<=s.length) && (decide (s.length<=16) && (nE (s.getD 0 0) && s.all fun c=>nE c || digB c)))):=D rfl
 generalize cE s=r at *
 unfold bs
 by_cases h1:1<=s.length
 ·have i1:¬ (s.length:Int)<1:=by omega
  by_cases h2:s.length<=16
  ·have i2:¬ (16:Int)<s.length:=by omega
   have hix:=fun W=>eO s 0 (by omega) W
   simp only[Int.natCast_zero] at hix
   have HL:Hid (nE (s.getD 0 0)=(decide (97<=(s.getD 0 0).toNat) && decide ((s.getD 0 0).toNat<=122))):=D rfl
   generalize (s.getD 0 0)=c0 at *
   by_cases h3:97<=c0.toNat
   ·by_cases h4:c0.toNat<=122
    ·have HR:Hid (r=(s.drop 0).all fun c=>nE c || digB c):=D (by rw[HX.out,HL.out];simp[h1,h2,h3,h4])
     clear HX HL
     generalize c0.toNat=q0 at *
     have z1:¬ (q0:Int)<97:=by omega
     have z2:¬ (122:Int)<q0:=by omega
     go_enter Tryz.func63,Tryz.ntmps63
     go_wp2
     clear hix z1 z2
     go_loopw [2,3] (fun v i wr=>∃ n:Nat,v=.bool S/\i=I Q n/\n<=s.length/\wr=w/\Hid (r=(s.drop n).all fun c=>nE c || digB c)) (fun _ i _=>s.length-(intOf i).toNat)
     case atStart=>exact⟨0,rfl,rfl,by omega,rfl,HR⟩
     case round=>
      obtain⟨n,rfl,rfl,hn,rfl,HA⟩:=hrel
      by_cases hlt:n<s.length
      ·have hii:(n:Int)<s.length:=by omega
       have hix:=fun W=>eO s n hlt W
       have HD:=D (A8 s (fun c=>nE c || digB c) n hlt)
       have HL:Hid ((nE (s.getD n 0) || digB (s.getD n 0))=((decide (97<=(s.getD n 0).toNat) && decide ((s.getD n 0).toNat<=122)) || (decide (48<=(s.getD n 0).toNat) && decide ((s.getD n 0).toNat<=57)))):=D rfl
       generalize s.getD n 0=ch at *
       simp only[HL.out] at HD
       clear HL
       generalize ch.toNat=c at *
       by_cases y1:(97<=c/\c<=122)\/(48<=c/\c<=57)
       ·have HB:Hid (r=(s.drop (n+1)).all fun c=>nE c || digB c):=D (by
         rw[HA.out,HD.out]
         rcases y1 with ⟨a,b⟩ | ⟨a,b⟩ <;> simp[a,b])
        clear HA HD
        rcases y1 with ⟨a,b⟩ | ⟨a,b⟩
        ·have z1:(97:Int)<=c:=by omega
         have z2:(c:Int)<=122:=by omega
         go_wp2
         all_goals (
          go_roundw
          case rel=>exact⟨n+1,rfl,by go_num,by omega,by trivial,HB⟩
          case measure=>
           show s.length-((n:Int)+1).toNat<s.length-(n:Int).toNat
           omega)
        ·have z1:¬ (97:Int)<=c:=by omega
         have z2:(48:Int)<=c:=by omega
         have z3:(c:Int)<=57:=by omega
         go_wp2
         all_goals (
          go_roundw
          case rel=>exact⟨n+1,rfl,by go_num,by omega,by trivial,HB⟩
          case measure=>
           show s.length-((n:Int)+1).toNat<s.length-(n:Int).toNat
           omega)
       ·have HB:Hid (r=S):=D (by
         rw[HA.out,HD.out]
         have:((decide (97<=c) && decide (c<=122)) || (decide (48<=c) && decide (c<=57)))=S:=by
          simp only[Bool.or_eq_false_iff,Bool.and_eq_false_iff,decide_eq_false_iff_not]
          omega
         rw[this];rfl)
        clear HA HD
        by_cases z1:(97:Int)<=c
        ·have z2:¬ (c:Int)<=122:=by omega
         have z3:(48:Int)<=c:=by omega
         have z4:¬ (c:Int)<=57:=by omega
         clear y1
         go_wp2
         go_ret
         exact⟨by rw[HB.out];rfl,rfl⟩
        ·by_cases z3:(48:Int)<=c
         ·have z4:¬ (c:Int)<=57:=by omega
          clear y1
          go_wp2
          go_ret
          exact⟨by rw[HB.out];rfl,rfl⟩
         ·clear y1
          go_wp2
          go_ret
          exact⟨by rw[HB.out];rfl,rfl⟩
      ·have hii:¬ (n:Int)<s.length:=by omega
       have HB:Hid (r=U):=D (by rw[HA.out,List.drop_eq_nil_of_le (by omega)];rfl)
       clear HA
       go_wp2
       go_ret
       exact⟨by rw[HB.out];rfl,rfl⟩
    ·have HR:Hid (r=S):=D (by rw[HX.out,HL.out];simp[h4])
     clear HX HL
     generalize c0.toNat=q0 at *
     have z1:¬ (q0:Int)<97:=by omega
     have z2:(122:Int)<q0:=by omega
     go_enter Tryz.func63,Tryz.ntmps63
     go_wp2
     go_ret
     exact⟨by rw[HR.out];rfl,rfl⟩
   ·have HR:Hid (r=S):=D (by rw[HX.out,HL.out];simp[h3])
    clear HX HL
    generalize c0.toNat=q0 at *
    have z1:(q0:Int)<97:=by omega
    go_enter Tryz.func63,Tryz.ntmps63
    go_wp2
    go_ret
    exact⟨by rw[HR.out];rfl,rfl⟩
  ·have i2:(16:Int)<s.length:=by omega
   have HR:Hid (r=S):=D (by rw[HX.out];simp[h2])
   clear HX
   go_enter Tryz.func63,Tryz.ntmps63
   go_wp2
   go_ret
   exact⟨by rw[HR.out];rfl,rfl⟩
 ·have i1:(s.length:Int)<1:=by omega
  have HR:Hid (r=S):=D (by rw[HX.out];simp[h1])
  clear HX
  go_enter Tryz.func63,Tryz.ntmps63
  go_wp2
  go_ret
  exact⟨by rw[HR.out];rfl,rfl⟩
end
section
def rP (n:Nat):List Int:=((2*(n:Int)) :: DY (fun i=>if i=n then 1 else 0) n)
section
variable {n:Nat}
theorem lj:(rP n).length=n+2:=by simp[rP,DY]
theorem Dh (hn:n<=64):gF (rP n):=by
 intro x hx
 unfold rP DY at hx
 simp only[List.mem_cons,List.mem_map] at hx
 rcases hx with rfl | ⟨i,_,rfl⟩
 ·omega
 ·split <;> omega
theorem AF:nC DX=U:=by decide
theorem EZ:∀ i∈DX.l,0<=i.k/\i.k<4294967296:=by decide
theorem AE (hn:n<=64):fT [1,((n+1:Nat):Int)]:=by
 refine⟨by show 2<=8;omega,?_⟩
 intro k hk
 have:k=0\/k=1:=by simp at hk;omega
 rcases this with rfl|rfl
 ·show 0<=(1:Int)/\(1:Int)<=4096;omega
 ·show 0<=(((n+1:Nat):Int):Int)/\(((n+1:Nat):Int):Int)<=4096;omega
theorem Bq:jP [1,((n+1:Nat):Int)]=n+2:=by
 show 0+(1:Int).toNat+(((n+1:Nat):Int):Int).toNat=_
 omega
theorem DT (h1:1<=n)(h64:n<=64):gH (gQ n):=
 ⟨AF,EZ,AE h64,by show jP [1,((n+1:Nat):Int)]<=8192;rw[Bq];omega,h1,h64,by show 0<=8;omega⟩
theorem ox (n:Nat):GF n (jM (gQ n) (rP n) (dJ n)):=⟨_,_,_,EX (dJ n) (zO n)⟩
section
variable (g1:1<=n)(hn:n<=64)
include g1 hn
theorem xZ (l:List ki):decide ((fo (gQ n) (jM (gQ n) (rP n) (dJ n)) l).bad=S/\cj n (fo (gQ n) (jM (gQ n) (rP n) (dJ n)) l).l=(fo (gQ n) (jM (gQ n) (rP n) (dJ n)) l).l.length)=U:=
 At (k:=gQ n) (G1 n hn) (fun r ⟨_,_,_,h⟩=>h.bad) (fun r ⟨_,_,_,h⟩=>h.tr) (ox n) g1 hn l
theorem uU (calls:Nat):
 (fJ (gQ n) (100*(n+1)*(calls+1)) ⟨jM (gQ n) (rP n) (dJ n),fun _=>calls,0⟩).got=n*calls/\
 (fJ (gQ n) (100*(n+1)*(calls+1)) ⟨jM (gQ n) (rP n) (dJ n),fun _=>calls,0⟩).r.bad=S/\
 cj n (fJ (gQ n) (100*(n+1)*(calls+1)) ⟨jM (gQ n) (rP n) (dJ n),fun _=>calls,0⟩).r.l=(fJ (gQ n) (100*(n+1)*(calls+1)) ⟨jM (gQ n) (rP n) (dJ n),fun _=>calls,0⟩).r.l.length:=
 xM (k:=gQ n) (G1 n hn) (fun r ⟨_,_,_,h⟩=>h.bad) (fun r ⟨_,_,_,h⟩=>h.tr) (ox n) g1 hn (by show 5<=99;omega) calls
theorem xY (h8:n<=8)(l:List ki){t:Nat}(ht:t<n):
 ∃ r2 r3 r4,fO (gQ n) 5000 (fo (gQ n) (jM (gQ n) (rP n) (dJ n)) l)=(U,r2)/\r2.bad=S/\bt (gQ n) t 3 (dN (gQ n) r2 ⟨1,t,S⟩)=r3/\r3.act t=2/\
  bt (gQ n) t 1 (dN (gQ n) r3 ⟨2,t,S⟩)=r4/\r4.bad=S/\r4.act t=0/\cj n r4.l=r4.l.length:=
 As (k:=gQ n) (G1 n hn) (fun r ⟨_,_,_,h⟩=>h.bad) (fun r ⟨_,_,_,h⟩=>h.tr) (ox n) g1 hn 3 1 (fun r t h ht hi=>AI hn h ht hi) (by show n*5<5000;omega) l ht
end
end
end
section
open Go.ChangeShapes Go.WideShapes Go.ChangeAt Go.RowKit
def BX (w:World)(a:Option Addr)(ls:List (List UInt8×Int)):Prop:=∀ j x,ls[j]?=P x->∃ g,a=P ⟨g,0,Z⟩/\g<w.heap.size/\w.cell? ⟨g,j*2,Z⟩=P (bs x.1)/\w.cell? ⟨g,j*2+1,Z⟩=P (I Q x.2)
theorem BX.below {w w':World}{a:Option Addr}{ls:List (List UInt8×Int)}(h:BX w a ls)(hb:Below w.heap.size w w'):BX w' a ls:=fun j x hx=>by
 obtain⟨g,e,h1,h2,h3⟩:=h j x hx
 exact⟨g,e,Nat.lt_of_lt_of_le h1 hb.size,(hb.cell (p:=⟨g,j*2,Z⟩) h1).trans h2,(hb.cell (p:=⟨g,j*2+1,Z⟩) h1).trans h3⟩
theorem uW (ls:List (List UInt8×Int))(s:List UInt8)(n:Int)(j:Nat)(h:j<ls.length):bf (ls.drop j) s n=if (ls[j].1==s && decide (ls[j].2<n))=U then ls[j].2 else bf (ls.drop (j+1)) s n:=by
 unfold bf
 rw[List.drop_eq_getElem_cons h,List.find?_cons]
 cases (ls[j].1==s && decide (ls[j].2<n)) <;> simp
theorem vD (ls:List (List UInt8×Int))(s:List UInt8)(n:Int)(a:Option Addr)(cap:Nat)(w:World)(ha:BX w a ls)(hl:ls.length<=1000000):
 Calls Tryz.prog 65 #[H a ls.length cap,bs s,I Q n] w fun e w'=>e=.returned (I Q (bf ls s n))/\Below w.heap.size w w':=by
 have HR:Hid (bf ls s n=bf (ls.drop 0) s n):=D rfl
 have HS:=D (fun j h=>uW ls s n j h)
 have HE:Hid (∀ j,¬ j<ls.length->bf (ls.drop j) s n=-1):=D fun j h=>by rw[List.drop_eq_nil_of_le (by omega)];rfl
 generalize bf ls s n=r at *
 unfold bs
 go_enter Tryz.func65,Tryz.ntmps65
 go_wp2
 go_loopw [6,11] (fun v i wr=>∃ j:Nat,v=I Q 0/\i=I Q j/\j<=ls.length/\Below w.heap.size w wr/\Hid (r=bf (ls.drop j) s n)) (fun _ i _=>ls.length-(intOf i).toNat)
 case atStart=>exact⟨0,rfl,rfl,Nat.zero_le _,C _ _,HR⟩
 case round=>
  clear HR
  obtain⟨j,rfl,rfl,hj,hb,HR⟩:=hrel
  by_cases hlt:j<ls.length
  ·have hji:(j:Int)<ls.length:=by omega
   obtain⟨g,rfl,hgl,e0,e1⟩:=(ha.below hb) j _ (List.getElem?_eq_getElem hlt)
   have HD:=D (HS.out j hlt)
   generalize ls[j]=x at *
   obtain⟨nm,at_⟩:=x
   simp only at e0 e1 HD
   unfold bs at e0
   go_upto_region 4 with fail
   have k1:=Bk.made wr 145 #[.string ⟨nm.toArray⟩,I Q at_]
   replace hb:=hb.alloc (o:=E #[.string ⟨nm.toArray⟩,I Q at_] 145) hb.size
   generalize wr.heap.size=q at *
   generalize wr.alloc (E #[.string ⟨nm.toArray⟩,I Q at_] 145)=y at *
   clear e0 e1
   obtain⟨y0,y1⟩:=k1.D2
   cases h1:(nm==s) with
   | true=>
    by_cases h2:at_<n
    ·have HQ:Hid (r=at_):=D (by rw[HR.out,HD.out,h1];simp[h2])
     obtain rfl:nm=s:=by simpa using h1
     clear HD HR HS HE h1
     go_wp2
     go_ret
     exact⟨by rw[HQ.out];rfl,hb⟩
    ·have HQ:Hid (r=bf (ls.drop (j+1)) s n):=D (by rw[HR.out,HD.out,h1];simp[h2])
     obtain rfl:nm=s:=by simpa using h1
     clear HD HR HS HE h1
     go_wp2
     go_roundw
     case rel=>exact⟨j+1,rfl,by go_num,by omega,hb,HQ⟩
     case measure=>
      show ls.length-((j:Int)+1).toNat<ls.length-(j:Int).toNat
      omega
   | false=>
    have HQ:Hid (r=bf (ls.drop (j+1)) s n):=D (by rw[HR.out,HD.out,h1];simp)
    clear HD HR HS HE
    go_wp2
    go_roundw
    case rel=>exact⟨j+1,rfl,by go_num,by omega,hb,HQ⟩
    case measure=>
     show ls.length-((j:Int)+1).toNat<ls.length-(j:Int).toNat
     omega
  ·have hji:¬ (j:Int)<ls.length:=by omega
   have HQ:Hid (r=-1):=D (by rw[HR.out,HE.out j hlt])
   clear HR HS HE
   go_wp2
   go_ret
   exact⟨by rw[HQ.out];rfl,hb⟩
theorem tB (w:World):Calls Tryz.prog 14 #[] w fun e w'=>e=.returned (bs ff)/\w=w':=by
 go_enter Tryz.func14,Tryz.ntmps14
 go_wp2
 go_ret
 exact⟨rfl,rfl⟩
theorem AJ (w:World):Calls Tryz.prog 13 #[] w fun e w'=>e=.returned (bs ff)/\w=w':=by
 go_enter Tryz.func13,Tryz.ntmps13
 go_wp2
 go_ret
 exact⟨rfl,rfl⟩
theorem Br (N:Nat):rP N=((List.replicate (N+2) 0).set 0 (2*(N:Int))).set (1+N) 1:=by
 have e:List.replicate (N+1) (0:Int)=DY (fun _=>0) N:=by
  apply List.ext_getElem?
  intro i
  unfold DY
  rw[List.getElem?_replicate,List.getElem?_map]
  by_cases h:i<N+1 <;> simp[h]
 rw[List.replicate_succ,List.set_cons_zero,e,wG]
 unfold rP
 congr 1
theorem AH (N:Nat)(h64:N<=64)(w:World):
 Calls Tryz.prog 28 #[I Q N] w fun e w'=>∃ v,e=.returned v/\kh (rP N) v w'/\Below w.heap.size w w':=by
 have HI:=D (Br N)
 have hmk:∀ W:World,(Instr.makeSlice 26 (I Q (1+(N:Int)+1)) (I Q (1+(N:Int)+1))).run Tryz.prog W=.ok (H (P ⟨W.heap.size,0,Z⟩) (N+2) (N+2)) (W.alloc (E (words (List.replicate (N+2) 0)) 70)):=fun W=>by rw[show 1+(N:Int)+1=((N+2:Nat):Int) by omega,<-nr];exact js (N+2) (by omega) W
 have q0:=Bk.made w 70 (words (List.replicate (N+2) 0))
 have b0:Below w.heap.size w (w.alloc (E (words (List.replicate (N+2) 0)) 70)):=(C _ _).alloc (L _) _
 go_enter Tryz.func28,Tryz.ntmps28
 go_upto_region 2 with fail
 generalize w.alloc (E (words (List.replicate (N+2) 0)) 70)=y at *
 have q1:=q0.put 0 (I O (2*(N:Int)))
 rw[jj] at q1
 have q2:=q1.put (1+N) (I O 1)
 rw[jj,<-HI.out] at q2
 have b2:Below w.heap.size w ((y.setCell ⟨w.heap.size,0,Z⟩ (I O (2*(N:Int)))).setCell ⟨w.heap.size,1+N,Z⟩ (I O 1)):=(b0.setCell (L _) _).setCell (L _) _
 have HQ:=D (And.intro q2 b2)
 have y0:y.cell? ⟨w.heap.size,0,Z⟩=P (I O 0):=by rw[q0.cell];exact jb _ 0 (by simp)
 have zf:=Bk.free q0
 have y1:(y.setCell ⟨w.heap.size,0,Z⟩ (I O (2*(N:Int)))).cell? ⟨w.heap.size,1+N,Z⟩=P (I O (aD ((List.replicate (N+2) 0).set 0 (2*(N:Int))) (1+N))):=by rw[q1.cell];exact jb _ _ (by simp;omega)
 have zf1:=Bk.free q1
 clear q0 q1 q2 b0 b2
 go_upto_region 3 with fail
 clear y0 zf
 generalize y.setCell ⟨w.heap.size,0,Z⟩ (I O (2*(N:Int)))=x at *
 have HL:=D (lj (n:=N))
 clear HI
 go_wp2
 go_ret
 obtain⟨k1,k2⟩:=HQ.out
 exact⟨H (P ⟨w.heap.size,0,Z⟩) (N+2) (N+2),rfl,⟨w.heap.size,by rw[HL.out],k1⟩,k2⟩
theorem AD (N:Nat)(w:World)(h1:1<=N)(h64:N<=64)
 (HA:∀ V,Below w.heap.size w V->Calls Tryz.prog 27 #[bs ff] V (BO DX V)):
 Calls Tryz.prog 8 #[I Q N] w fun e w'=>∃ v,e=.returned (.tuple #[v,I Q 0])/\Sv w' v DX [1,(N:Int)+1] (rP N) (dJ N) 0/\Below w.heap.size w w':=by
 have HAA:=D HA
 have HCC:=D (fun V=>AH N h64 V)
 unfold BO at HAA
 unfold bs ff at HAA
 have HL:=D (lj (n:=N))
 have HR:=D (lz N)
 have HMK:Hid (∀ W:World,(Instr.makeSlice 26 (I Q N) (I Q N)).run Tryz.prog W=.ok (H (P ⟨W.heap.size,0,Z⟩) N N) (W.alloc (E (words (dJ N)) 70))):=D (fun W=>by rw[js N (by omega) W,jU];rfl)
 have HWP:Hid (IntKind.i64.wrap ((N:Int)+1)=(N:Int)+1):=D (by
  have hm9:((N:Int)+1) % (2 ^ 64:Int)=(N:Int)+1:=by omega
  unfold IntKind.wrap
  simp only[IntKind.bits,IntKind.signed,hm9]
  rw[if_neg (by simp;omega)])
 generalize DX=c at *
 generalize rP N=ii at *
 generalize dJ N=rr at *
 have hb1:Below w.heap.size w (w.alloc (E #[H Z 0 0,I Q 0,I Q 0,H Z 0 0,H Z 0 0,I Q 0,H Z 0 0] 28)):=(C _ _).alloc (L _) _
 have q0:=Bk.made w 28 #[H Z 0 0,I Q 0,I Q 0,H Z 0 0,H Z 0 0,I Q 0,H Z 0 0]
 clear HA
 go_enter Tryz.func8,Tryz.ntmps8
 go_upto_region 3 with fail
 generalize w.alloc (E #[H Z 0 0,I Q 0,I Q 0,H Z 0 0,H Z 0 0,I Q 0,H Z 0 0] 28)=y at *
 go_wp2_with fail
 refine(HAA.out y hb1).mono ?_
 rintro e z ⟨v,rfl,⟨sl,rfl,hO⟩,hz⟩
 obtain⟨aL,cL,rfl,hcl⟩:=aX hO
 have q1:=(hz.block _ (Bk.lt q0)).trans q0
 have b1:=hb1.trans (hz.mono hb1.size)
 have q2:=Bk.made z 24 #[H aL c.l.length cL,I Q c.lo,I Q c.un]
 have hza:Below z.heap.size z (z.alloc (E #[H aL c.l.length cL,I Q c.lo,I Q c.un] 24)):=(C _ _).alloc (L _) _
 replace q1:Bk _ w.heap.size 28 #[H Z 0 0,I Q 0,I Q 0,H Z 0 0,H Z 0 0,I Q 0,H Z 0 0]:=(hza.block _ (Bk.lt q1)).trans q1
 replace b1:=b1.trans (hza.mono b1.size)
 have hO2:=dw hO hza
 obtain⟨zb,hzb⟩:∃ zb,z.heap.size=zb:=⟨_,rfl⟩
 rw[hzb] at q2
 go_upto_region 4 with fail
 try rw[hzb]
 generalize z.alloc (E #[H aL c.l.length cL,I Q c.lo,I Q c.un] 24)=x at *
 have HQ:Hid (∀ W,Below x.heap.size x W->Bk W zb 24 #[H aL c.l.length cL,I Q c.lo,I Q c.un]/\Bk W w.heap.size 28 #[H Z 0 0,I Q 0,I Q 0,H Z 0 0,H Z 0 0,I Q 0,H Z 0 0]/\Below w.heap.size w W/\W.ownsRow y.heap.size 117 8 (H aL c.l.length cL) c.l.length (bu c.l)):=D fun W hW=>⟨(hW.block _ (Bk.lt q2)).trans q2,(hW.block _ (Bk.lt q1)).trans q1,b1.trans (hW.mono b1.size),dw hO2 hW⟩
 clear hO hO2 hza hz hb1 q0 q1 q2 b1 hzb HAA hcl
 refine dT [9] (fun j W=>match j with | 0=>Below x.heap.size x W | _=>∃ v,zH aL cL c [1,(N:Int)+1] ii rr 0 v W/\(∃ cs,v=.agg cs/\Bk W w.heap.size 28 cs)/\Below w.heap.size w W/\W.ownsRow y.heap.size 117 8 (H aL c.l.length cL) c.l.length (bu c.l)) (fun _ W W2=>ag W W2 (fun i=>i=w.heap.size)/\∃ cs,Bk W w.heap.size 28 cs) (fun vs=>{ tmps:=#[I Q (N:Int),X,G (P ⟨w.heap.size,0,Z⟩),vs 10,G (P ⟨zb,0,Z⟩),I Q 0,I Q 0,I Q (N:Int),.bool (decide ((N:Int)<1)),.bool (decide ((N:Int)<1)),I Q (N:Int),.bool (decide (64<(N:Int))),.bool (decide ((N:Int)<1) || decide (64<(N:Int))),X,.tuple #[.agg #[H aL c.l.length cL,I Q c.lo,I Q c.un],I Q 0,I Q 0],.tuple #[.agg #[H aL c.l.length cL,I Q c.lo,I Q c.un],I Q 0,I Q 0],.agg #[H aL c.l.length cL,I Q c.lo,I Q c.un],I Q 0,I Q 0,vs 0,vs 1,vs 2,vs 3,vs 4,vs 5,vs 6,vs 7,vs 8],defers:=[] }) (nD [(3,qp [1,(N:Int)+1]),(5,kh ii),(7,kh rr),(8,zH aL cL c [1,(N:Int)+1] ii rr 0)] [.agg #[H aL c.l.length cL,I Q c.lo,I Q c.un],I Q (N:Int),I Q ((N:Int)+1),X,I Q (N:Int),X,I Q (N:Int),X,X,X,I Q 0]) ?ghm ?ghr ?ghc ?ghnd ?ghlit ?gh0 ?ghW ?ghF ?ghS ?gops ?gdone
 case ghm=>kernel_rfl
 case ghr=>kernel_rfl
 case ghc=>kernel_rfl
 case ghnd=>decide
 case ghlit=>intro vs;rfl
 case gh0=>exact C _ _
 case ghW=>exact fun kk W W2 h hb=>match kk,h with
  | 0,h=>h.trans (hb.mono h.size)
  | _+1,⟨v,h1,⟨cs,h2,h3⟩,h4,h5⟩=>⟨v,h1.below hb,⟨cs,h2,(hb.block _ (Bk.lt h3)).trans h3⟩,h4.trans (hb.mono h4.size),dw h5 hb⟩
 case ghF=>exact dW (by
  intro p0 hp
  simp only[List.mem_cons,List.not_mem_nil,or_false] at hp
  rcases hp with rfl|rfl|rfl|rfl
  ·exact fun v W W2 h hb=>qp.below h hb
  ·exact fun v W W2 h hb=>kh.below h hb
  ·exact fun v W W2 h hb=>kh.below h hb
  ·exact fun v W W2 h hb=>zH.below h hb)
 case ghS=>exact fun kk W W2 _ hs i v h=>jq (R:=fun W W2=>ag W W2 (fun i=>i=w.heap.size)/\∃ cs,Bk W w.heap.size 28 cs) (ps:=[(3,qp [1,(N:Int)+1]),(5,kh ii),(7,kh rr),(8,zH aL cL c [1,(N:Int)+1] ii rr 0)]) (l:=[.agg #[H aL c.l.length cL,I Q c.lo,I Q c.un],I Q (N:Int),I Q ((N:Int)+1),X,I Q (N:Int),X,I Q (N:Int),X,X,X,I Q 0]) (by
  intro p0 hp
  simp only[List.mem_cons,List.not_mem_nil,or_false] at hp
  rcases hp with rfl|rfl|rfl|rfl
  ·rintro v W W2 h ⟨hw,cs,hb⟩;exact qp.within h hw (by rintro b rfl;exact⟨_,_,hb,by decide,by decide⟩)
  ·rintro v W W2 h ⟨hw,cs,hb⟩;exact kh.within h hw (by rintro b rfl;exact⟨_,_,hb,by decide,by decide⟩)
  ·rintro v W W2 h ⟨hw,cs,hb⟩;exact kh.within h hw (by rintro b rfl;exact⟨_,_,hb,by decide,by decide⟩)
  ·rintro v W W2 h ⟨hw,cs,hb⟩;exact zH.within h hw (by rintro b rfl;exact⟨_,_,hb,by decide,by decide⟩)) i v W W2 h hs
 case gops=>
  refine⟨?_,?_,?_,?_,?_,?_,?_,?_,?_,?_,?_,trivial⟩
  ·intro vs W kk h1 h2 hW hd
   obtain rfl:kk=0:=Nat.le_zero.1 h2
   refine aa rfl ?_
   have hq:=(HQ.out W hW).1
   obtain⟨y0,y1,y2⟩:=hq.iS
   clear hq
   clear hd
   go_simp
   exact⟨rfl,C _ _⟩
  ·intro vs W kk h1 h2 hW hd
   obtain rfl:kk=0:=Nat.le_zero.1 h2
   refine aa rfl ?_
   clear hd
   go_simp
   exact⟨rfl,C _ _⟩
  ·intro vs W kk h1 h2 hW hd
   obtain rfl:kk=0:=Nat.le_zero.1 h2
   refine aa rfl ?_
   have e1:vs 1=I Q (N:Int):=hd 1 (by decide)
   clear hd
   go_simp
   exact⟨congrArg (Value.int .i64) HWP.out,C _ _⟩
  ·intro vs W kk h1 h2 hW hd
   obtain rfl:kk=0:=Nat.le_zero.1 h2
   refine aa rfl ?_
   have e2:vs 2=I Q ((N:Int)+1):=hd 2 (by decide)
   clear hd
   go_simp
   exact⟨⟨_,rfl,Bk.made W _ _⟩,(C _ _).alloc (L _) _⟩
  ·intro vs W kk h1 h2 hW hd
   obtain rfl:kk=0:=Nat.le_zero.1 h2
   refine aa rfl ?_
   clear hd
   go_simp
   exact⟨rfl,C _ _⟩
  ·intro vs W kk h1 h2 hW hd
   obtain rfl:kk=0:=Nat.le_zero.1 h2
   refine aa rfl ?_
   have e4:vs 4=I Q (N:Int):=hd 4 (by decide)
   have HV:=D (HCC.out W)
   clear hd
   go_simp
   refine HV.out.mono ?_
   rintro e zz ⟨v9,rfl,h5,h6⟩
   exact⟨_,rfl,h5,h6⟩
  ·intro vs W kk h1 h2 hW hd
   obtain rfl:kk=0:=Nat.le_zero.1 h2
   refine aa rfl ?_
   clear hd
   go_simp
   exact⟨rfl,C _ _⟩
  ·intro vs W kk h1 h2 hW hd
   obtain rfl:kk=0:=Nat.le_zero.1 h2
   refine aa rfl ?_
   have e6:vs 6=I Q (N:Int):=hd 6 (by decide)
   have hmk:=HMK.out W
   clear hd
   go_simp
   try simp only[hmk]
   have hrr:=HR.out
   exact⟨⟨_,by rw[hrr],Bk.made W _ _⟩,(C _ _).alloc (L _) _⟩
  ·intro vs W kk h1 h2 hW hd
   obtain rfl:kk=0:=Nat.le_zero.1 h2
   refine aa rfl ?_
   have e0:vs 0=.agg #[H aL c.l.length cL,I Q c.lo,I Q c.un]:=hd 0 (by decide)
   obtain⟨d1,e3,k1⟩:qp [1,(N:Int)+1] (vs 3) W:=hd 3 (by decide)
   obtain⟨d2,e5,k2⟩:kh ii (vs 5) W:=hd 5 (by decide)
   obtain⟨d3,e7,k3⟩:kh rr (vs 7) W:=hd 7 (by decide)
   clear hd
   go_simp
   exact⟨⟨d1,d2,d3,rfl,k1,k2,k3⟩,C _ _⟩
  ·intro vs W hW hd
   have hsp:zH aL cL c [1,(N:Int)+1] ii rr 0 (vs 8) W:=hd 8 (by decide)
   obtain⟨d1,d2,d3,e8,k1,k2,k3⟩:=id hsp
   rw[show ([1,(N:Int)+1]:List Int).length=2 from rfl] at e8
   obtain⟨-,hq,hbw,hown⟩:=HQ.out W hW
   obtain⟨y0,y1,y2,y3,y4,y5,y6⟩:=hq.lZ
   have zf:=Bk.free hq
   have hw7:=gO (y:=W) (g:=w.heap.size) (H aL c.l.length cL) (I Q c.lo) (I Q c.un) (H (P ⟨d1,0,Z⟩) 2 2) (H (P ⟨d2,0,Z⟩) ii.length ii.length) (I Q 0) (H (P ⟨d3,0,Z⟩) rr.length rr.length)
   have hk7:=kX hq (H aL c.l.length cL) (I Q c.lo) (I Q c.un) (H (P ⟨d1,0,Z⟩) 2 2) (H (P ⟨d2,0,Z⟩) ii.length ii.length) (I Q 0) (H (P ⟨d3,0,Z⟩) rr.length rr.length)
   have hb7:=gh hbw (L _) (H aL c.l.length cL) (I Q c.lo) (I Q c.un) (H (P ⟨d1,0,Z⟩) 2 2) (H (P ⟨d2,0,Z⟩) ii.length ii.length) (I Q 0) (H (P ⟨d3,0,Z⟩) rr.length rr.length)
   rw[e8] at hsp
   have hs7:=zH.within hsp hw7 (by rintro b rfl;exact⟨_,_,hq,by decide,by decide⟩)
   have ho7:=ie hown hw7 hq (by decide)
   have HKK:=D (And.intro hs7 (And.intro hk7 (And.intro hb7 (And.intro ho7 (And.intro hw7 hq)))))
   refine bh rfl ?_
   clear hd hsp hs7 hk7 hb7 ho7 hw7 hq hbw hown k1 k2 k3
   go_simp
   exact⟨rfl,⟨_,HKK.out.1,⟨_,rfl,HKK.out.2.1⟩,HKK.out.2.2.1,HKK.out.2.2.2.1⟩,HKK.out.2.2.2.2.1,_,HKK.out.2.2.2.2.2⟩
  ·intro vs W kk h1 h2 hW hd
   refine aa rfl ?_
   clear hd
   go_simp
   exact⟨rfl,C _ _⟩
 case gdone=>
  intro vs W hW hf
  have f0:vs 0=.agg #[H aL c.l.length cL,I Q c.lo,I Q c.un]:=hf 0 (by decide)
  have f1:vs 1=I Q (N:Int):=hf 1 (by decide)
  have f2:vs 2=I Q ((N:Int)+1):=hf 2 (by decide)
  have f4:vs 4=I Q (N:Int):=hf 4 (by decide)
  have f6:vs 6=I Q (N:Int):=hf 6 (by decide)
  have f10:vs 10=I Q 0:=hf 10 (by decide)
  simp only[f0,f1,f2,f4,f6,f10]
  clear f0 f1 f2 f4 f6 f10
  obtain⟨v,hsp,⟨cs,hcs,hq⟩,hbw,hown⟩:∃ v,zH aL cL c [1,(N:Int)+1] ii rr 0 v W/\(∃ cs,v=.agg cs/\Bk W w.heap.size 28 cs)/\Below w.heap.size w W/\W.ownsRow y.heap.size 117 8 (H aL c.l.length cL) c.l.length (bu c.l):=hW
  obtain⟨d1,d2,d3,rfl,k1,k2,k3⟩:=id hsp
  injection hcs with hcs
  subst hcs
  generalize vs 3=r2 at *
  generalize vs 5=r5 at *
  generalize vs 7=r7 at *
  generalize vs 8=r8 at *
  clear hf HQ
  have hfin:=hsp.sv hown (by simp[maxLen]) (by rw[HL.out];unfold maxLen;omega) (by rw[HR.out];unfold maxLen;omega)
  rw[show ([1,(N:Int)+1]:List Int).length=2 from rfl] at hq hfin
  obtain⟨y0,y1,y2,y3,y4,y5,y6⟩:=hq.lZ
  have HF:=D (And.intro hfin hbw)
  clear hq hfin hbw hown hsp k1 k2 k3
  go_wp
  exact bodyPost_ret (v:=.tuple #[.agg #[H aL c.l.length cL,I Q c.lo,I Q c.un,H (P ⟨d1,0,Z⟩) 2 2,H (P ⟨d2,0,Z⟩) ii.length ii.length,I Q 0,H (P ⟨d3,0,Z⟩) rr.length rr.length],I Q 0]) (by simp[results,Tryz.results8,go_sem,y0,y1,y2,y3,y4,y5,y6]) rfl ⟨_,rfl,HF.out.1,HF.out.2⟩
def Fb (N:Nat)(w:World)(v:Value)(x:World):Prop:=∃ b1 b2 b3 bs,v=G (P ⟨bs,0,Z⟩)/\Bk x b1 3 #[I Q 1,I Q ((N:Int)+1)]/\Bk x b2 70 (words (List.replicate (N+2) 0))/\Bk x b3 70 (words (List.replicate N 0))/\Bk x bs 36 #[H Z 0 0,I Q 0,I Q 0,H (P ⟨b1,0,Z⟩) 2 2,H (P ⟨b2,0,Z⟩) (N+2) (N+2),I Q 0,H (P ⟨b3,0,Z⟩) N N]/\Bk x w.heap.size 36 #[H Z 0 0,I Q 0,I Q 0,H Z 0 0,H Z 0 0,I Q 0,H Z 0 0]/\Below w.heap.size w x/\w.heap.size<bs/\b2≠b3/\w.heap.size<b2
theorem xX (N:Nat)(w:World)(h1:1<=N)(h64:N<=64)
 (HA:∀ V,Calls Tryz.prog 29 #[bs ff] V (BN DX V)):
 Calls Tryz.prog 9 #[I Q N] w fun e w'=>∃ v,e=.returned (.tuple #[v,.bool U])/\Rv w.heap.size w' v DX [1,(N:Int)+1] (rP N) (dJ N) 0/\Below w.heap.size w w':=by
 have HAA:=D HA
 have HTT:=D (fun V=>tB V)
 unfold BN at HAA
 generalize DX=c at *
 generalize bs ff=tx at *
 obtain⟨n,hn⟩:∃ n:Nat,(N:Int)+2=(n:Int):=⟨N+2,by omega⟩
 have hn2:n=N+2:=by omega
 have hmk:∀ W:World,(Instr.makeSlice 26 (I Q N) (I Q N)).run Tryz.prog W=.ok (H (P ⟨W.heap.size,0,Z⟩) N N) (W.alloc (E (words (List.replicate N 0)) 70)):=fun W=>by rw[js N (by omega) W,jU]
 have hmk2:∀ W:World,(Instr.makeSlice 26 (I Q ((N:Int)+2)) (I Q ((N:Int)+2))).run Tryz.prog W=.ok (H (P ⟨W.heap.size,0,Z⟩) n n) (W.alloc (E (words (List.replicate n 0)) 70)):=fun W=>by rw[hn,js n (by omega) W,jU]
 clear hn
 subst hn2
 have hb1:Below w.heap.size w (w.alloc (E #[H Z 0 0,I Q 0,I Q 0,H Z 0 0,H Z 0 0,I Q 0,H Z 0 0] 36)):=(C _ _).alloc (L _) _
 have q0:=Bk.made w 36 #[H Z 0 0,I Q 0,I Q 0,H Z 0 0,H Z 0 0,I Q 0,H Z 0 0]
 clear HA
 go_enter Tryz.func9,Tryz.ntmps9
 go_upto_region 3 with fail
 generalize w.alloc (E #[H Z 0 0,I Q 0,I Q 0,H Z 0 0,H Z 0 0,I Q 0,H Z 0 0] 36)=y at *
 have hq0:=Bk.lt q0
 go_cut [4] (fun v wx=>Fb N w v wx)
 case first=>
  have HK:=D (And.intro q0 (And.intro hb1 hq0))
  clear hb1 q0 hq0
  go_region
  all_goals
   go_wp2
   go_meet
   case rel=>
    obtain⟨q0,hb1,hq0⟩:=HK.out
    exact⟨_,_,_,_,rfl,
     by first | exact(dd y _ _ _ _ _ _ _ _).1 | exact(dd y _ _ _ _ _ _ _ _).2.1 | exact(dd y _ _ _ _ _ _ _ _).2.2.1 | exact(dd y _ _ _ _ _ _ _ _).2.2.2.1,
     by first | exact(dd y _ _ _ _ _ _ _ _).1 | exact(dd y _ _ _ _ _ _ _ _).2.1 | exact(dd y _ _ _ _ _ _ _ _).2.2.1 | exact(dd y _ _ _ _ _ _ _ _).2.2.2.1,
     by first | exact(dd y _ _ _ _ _ _ _ _).1 | exact(dd y _ _ _ _ _ _ _ _).2.1 | exact(dd y _ _ _ _ _ _ _ _).2.2.1 | exact(dd y _ _ _ _ _ _ _ _).2.2.2.1,
     by first | exact(dd y _ _ _ _ _ _ _ _).1 | exact(dd y _ _ _ _ _ _ _ _).2.1 | exact(dd y _ _ _ _ _ _ _ _).2.2.1 | exact(dd y _ _ _ _ _ _ _ _).2.2.2.1,
     by exact((dd y _ _ _ _ _ _ _ _).2.2.2.2.block _ hq0).trans q0,
     by
      refine hb1.trans (Below.mono (B:=y.heap.size) ?_ hb1.size)
      exact(dd y _ _ _ _ _ _ _ _).2.2.2.2.drew,
     by omega,by omega,by omega⟩
 case rest=>
  obtain⟨b1,b2,b3,bs,rfl,a1,a2,a3,a4,q0,b4,hlt,hne,hl2⟩:=hcut
  have HI:Hid ((rP N)=(((List.replicate (N+2) 0).set (0) (2*(N:Int))).set (N+1) (1))):=D (by rw[Br N,Nat.add_comm 1 N])
  have q1:=a2.put (0) (I O (2*(N:Int)))
  rw[jj] at q1
  have q2:=q1.put (N+1) (I O (1))
  rw[jj,<-HI.out] at q2
  have wx:ag wc ((wc.setCell ⟨b2,0,Z⟩ (I O (2*(N:Int)))).setCell ⟨b2,N+1,Z⟩ (I O (1))) (fun i=>i=b2):=((ag.refl wc (fun i=>i=b2)).put _ (0) _ (.inl rfl)).put _ (N+1) _ (.inl rfl)
  have hbx:Below w.heap.size w ((wc.setCell ⟨b2,0,Z⟩ (I O (2*(N:Int)))).setCell ⟨b2,N+1,Z⟩ (I O (1))):=((b4.setCell (M hl2) _).setCell (M hl2) _)
  have KA:=D (And.intro (a1.within wx (Bk.av a1 a2 (by decide))) (And.intro q2 (And.intro (a3.within wx (fun e=>hne e.symm)) (And.intro (a4.within wx (Bk.av a4 a2 (by decide))) (And.intro (q0.within wx (Bk.av q0 a2 (by decide))) hbx)))))
  have u40:wc.cell? ⟨bs,4,Z⟩=P (H (P ⟨b2,0,Z⟩) (N+2) (N+2)):=a4.cell 4
  have y0:=(a2.cell (0)).trans (jb _ (0) (by simp;try omega))
  have zf0:=Bk.free a2
  have a41:=a4.within ((ag.refl wc (fun i=>i=b2)).put _ (0) (I O (2*(N:Int))) (.inl rfl)) (Bk.av a4 a2 (by decide))
  have u41:(wc.setCell ⟨b2,0,Z⟩ (I O (2*(N:Int)))).cell? ⟨bs,4,Z⟩=P (H (P ⟨b2,0,Z⟩) (N+2) (N+2)):=a41.cell 4
  have y1:=(q1.cell (N+1)).trans (jb _ (N+1) (by simp;try omega))
  have zf1:=Bk.free q1
  have HLT:=D (And.intro hlt hl2)
  have HZR:=D (show List.replicate N (0:Int)=dJ N from rfl)
  rw[HZR.out] at KA
  clear a1 a2 a3 a4 q0 b4 q1 q2 wx hbx a41 hne hlt hl2 HI
  go_upto_region 5 with fail
  clear y0 zf0 u40
  generalize wc.setCell ⟨b2,0,Z⟩ (I O (2*(N:Int)))=x1 at *
  go_upto_region 6 with fail
  clear y1 zf1 u41
  generalize x1.setCell ⟨b2,N+1,Z⟩ (I O (1))=x2 at *
  go_wp2_with fail
  refine(HTT.out _).mono ?_
  rintro e z0 ⟨rfl,rfl⟩
  go_wp2_with fail
  refine(HAA.out _).mono ?_
  rintro e z ⟨sl,rfl,hO,hz⟩
  obtain⟨aL,cL,rfl,-⟩:=aX hO
  have HZ:=D (And.intro hO hz)
  clear hO hz HAA HTT
  go_upto_region 7 with fail
  obtain⟨hO,hz⟩:=HZ.out
  obtain⟨a1,a2,a3,a4,q0,b4⟩:=KA.out
  have q5:=Bk.made z 34 #[H aL c.l.length cL,I Q c.lo,I Q c.un]
  have hza:Below z.heap.size z (z.alloc (E #[H aL c.l.length cL,I Q c.lo,I Q c.un] 34)):=(C _ _).alloc (L _) _
  have hO2:=dw hO hza
  have hzz:=hz.trans (hza.mono hz.size)
  have hsz4:=hz.size
  have lt4:=Bk.lt a4
  obtain⟨zb,hzb⟩:∃ zb,z.heap.size=zb:=⟨_,rfl⟩
  rw[hzb] at q5
  try rw[hzb]
  generalize z.alloc (E #[H aL c.l.length cL,I Q c.lo,I Q c.un] 34)=x at *
  replace a1:Bk x b1 3 #[I Q 1,I Q ((N:Int)+1)]:=(hzz.block _ (Bk.lt a1)).trans a1
  replace a2:Bk x b2 70 (words (rP N)):=(hzz.block _ (Bk.lt a2)).trans a2
  replace a3:Bk x b3 70 (words (dJ N)):=(hzz.block _ (Bk.lt a3)).trans a3
  replace a4:Bk x bs 36 #[H Z 0 0,I Q 0,I Q 0,H (P ⟨b1,0,Z⟩) 2 2,H (P ⟨b2,0,Z⟩) (N+2) (N+2),I Q 0,H (P ⟨b3,0,Z⟩) N N]:=(hzz.block _ (Bk.lt a4)).trans a4
  replace q0:Bk x w.heap.size 36 #[H Z 0 0,I Q 0,I Q 0,H Z 0 0,H Z 0 0,I Q 0,H Z 0 0]:=(hzz.block _ (Bk.lt q0)).trans q0
  replace b4:=b4.trans (hzz.mono b4.size)
  have hne:bs≠zb:=by omega
  clear hza hzz hz hO KA HZ
  obtain⟨y0,y1,y2⟩:=q5.iS
  obtain⟨u0,u1,u2⟩:=a4.iS
  have zf:=Bk.free a4
  have w3:ag x (dF x bs (H aL c.l.length cL) (I Q c.lo) (I Q c.un)) (fun i=>i=bs):=(((ag.refl x (fun i=>i=bs)).put _ 0 _ (.inl rfl)).put _ 1 _ (.inl rfl)).put _ 2 _ (.inl rfl)
  have k4:Bk (dF x bs (H aL c.l.length cL) (I Q c.lo) (I Q c.un)) bs 36 #[H aL c.l.length cL,I Q c.lo,I Q c.un,H (P ⟨b1,0,Z⟩) 2 2,H (P ⟨b2,0,Z⟩) (N+2) (N+2),I Q 0,H (P ⟨b3,0,Z⟩) N N]:=by
   have h8:=((a4.put 0 (H aL c.l.length cL)).put 1 (I Q c.lo)).put 2 (I Q c.un)
   unfold dF
   simpa only[List.setIfInBounds_toArray,List.set_cons_zero,List.set_cons_succ] using h8
  have hlt:=HLT.out.1
  have b5:=bP b4 (M hlt) (H aL c.l.length cL) (I Q c.lo) (I Q c.un)
  have o5:=ie hO2 w3 a4 (by decide)
  have a1':=a1.within w3 (Bk.av a1 a4 (by decide))
  have a2':=a2.within w3 (Bk.av a2 a4 (by decide))
  have a3':=a3.within w3 (Bk.av a3 a4 (by decide))
  have q03:=q0.within w3 (show ¬ w.heap.size=bs by omega)
  clear q5 a1 a2 a3 a4 q0 b4 hO2 w3
  go_upto_region 8 with fail
  clear y0 y1 y2 u0 u1 u2 zf
  generalize hv:((x.setCell ⟨bs,0,Z⟩ (H aL c.l.length cL)).setCell ⟨bs,1,Z⟩ (I Q c.lo)).setCell ⟨bs,2,Z⟩ (I Q c.un)=x2
  replace hv:dF x bs (H aL c.l.length cL) (I Q c.lo) (I Q c.un)=x2:=hv
  rw[hv] at k4 b5 o5 a1' a2' a3' q03
  clear hv
  obtain⟨u0,u1,u2,u3,u4,u5,u6⟩:=k4.lZ
  obtain⟨v0,v1,v2,v3,v4,v5,v6⟩:=q03.lZ
  have zf:=Bk.free q03
  have w7:=gO (y:=x2) (g:=w.heap.size) (H aL c.l.length cL) (I Q c.lo) (I Q c.un) (H (P ⟨b1,0,Z⟩) 2 2) (H (P ⟨b2,0,Z⟩) (N+2) (N+2)) (I Q 0) (H (P ⟨b3,0,Z⟩) N N)
  have k7:=kX q03 (H aL c.l.length cL) (I Q c.lo) (I Q c.un) (H (P ⟨b1,0,Z⟩) 2 2) (H (P ⟨b2,0,Z⟩) (N+2) (N+2)) (I Q 0) (H (P ⟨b3,0,Z⟩) N N)
  have b7:=gh b5 (L _) (H aL c.l.length cL) (I Q c.lo) (I Q c.un) (H (P ⟨b1,0,Z⟩) 2 2) (H (P ⟨b2,0,Z⟩) (N+2) (N+2)) (I Q 0) (H (P ⟨b3,0,Z⟩) N N)
  have o7:=ie o5 w7 q03 (by decide)
  have a17:=a1'.within w7 (Bk.av a1' q03 (by decide))
  have a27:=a2'.within w7 (Bk.av a2' q03 (by decide))
  have a37:=a3'.within w7 (Bk.av a3' q03 (by decide))
  have KK:=D (And.intro k7 (And.intro b7 (And.intro (World.ownsRow.mono (base':=w.heap.size) o7 (by omega)) (And.intro a17 (And.intro a27 a37)))))
  clear k7 b7 o7 a17 a27 a37 w7 k4 b5 o5 a1' a2' a3' q03
  go_wp
  clear u0 u1 u2 u3 u4 u5 u6 v0 v1 v2 v3 v4 v5 v6 zf
  generalize hv:(((((((x2.setCell ⟨w.heap.size,0,Z⟩ (H aL c.l.length cL)).setCell ⟨w.heap.size,1,Z⟩ (I Q c.lo)).setCell ⟨w.heap.size,2,Z⟩ (I Q c.un)).setCell ⟨w.heap.size,3,Z⟩ (H (P ⟨b1,0,Z⟩) 2 2)).setCell ⟨w.heap.size,4,Z⟩ (H (P ⟨b2,0,Z⟩) (N+2) (N+2))).setCell ⟨w.heap.size,5,Z⟩ (I Q 0)).setCell ⟨w.heap.size,6,Z⟩ (H (P ⟨b3,0,Z⟩) N N))=x9
  replace hv:nB x2 w.heap.size (H aL c.l.length cL) (I Q c.lo) (I Q c.un) (H (P ⟨b1,0,Z⟩) 2 2) (H (P ⟨b2,0,Z⟩) (N+2) (N+2)) (I Q 0) (H (P ⟨b3,0,Z⟩) N N)=x9:=hv
  rw[hv] at KK
  obtain⟨hq,b9,o9,k1,k2,k3⟩:=KK.out
  obtain⟨y0,y1,y2,y3,y4,y5,y6⟩:=hq.lZ
  have hIL:(rP N).length=N+2:=lj
  have hRL:(dJ N).length=N:=lz N
  exact bodyPost_ret (v:=.tuple #[.agg #[H aL c.l.length cL,I Q c.lo,I Q c.un,H (P ⟨b1,0,Z⟩) 2 2,H (P ⟨b2,0,Z⟩) (N+2) (N+2),I Q 0,H (P ⟨b3,0,Z⟩) N N],.bool U]) (by simp[results,Tryz.results9,go_sem,y0,y1,y2,y3,y4,y5,y6]) rfl ⟨_,rfl,⟨_,_,2,_,N+2,_,N,by rw[hIL,hRL];rfl,o9,jX k1,dZ k2,dZ k3,by simp[maxLen],by rw[hIL];unfold maxLen;omega,by rw[hRL];unfold maxLen;omega⟩,b9⟩
end
