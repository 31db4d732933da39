import Derived.Test.YtbgaaclplgghcaaGreatDoorWMem
import Derived.Test.YtbgaaclplgghcaaGreatDoorWCell
import Derived.Test.YtbgaaclplgghcaaGreatDoorWInstP
import Derived.Test.YtbgaaclplgghcaaGreatDoorWFlowK
import Derived.Test.YtbgaaclplgghcaaGreatDoorWArR
import Derived.Laws.RangeAny
import Derived.Lib.OthersKept
import Derived.BigRegionIn
import Derived.Lib.Replace
import Derived.Shelf.Strings.Replace
set_option linter.unusedVariables false
set_option maxHeartbeats 4000000
set_option maxRecDepth 100000
open Go.Value renaming int->I,slice->H,pointer->G
open Go.IntKind renaming i64->Q,u32->O
open Option renaming none->Z,some->P
open Bool renaming false->S,true->U
open Go.Obj renaming cells->E
open Go.Lib renaming hid->D
open Go.RowKit.Below renaming refl->C
open Nat renaming le_refl->M
open Go renaming undef->X
namespace Go.Proofs.YtbgaaclplgghcaaGreatDoor
section
def mr (c:UInt8):Bool:=decide (97<=c.toNat) && decide (c.toNat<=122)
def digB (c:UInt8):Bool:=decide (48<=c.toNat) && decide (c.toNat<=57)
def cJ (s:List UInt8):Bool:=decide (1<=s.length) && (decide (s.length<=16) && (mr (s.getD 0 0) && s.all fun c=>mr c || digB c))
def dh (i:aM):Bool:=(decide (8<=i.op) && decide (i.op<=10)) || (decide (i.op=21) && decide (0<=i.pl))
def eH (i:aM):Bool:=decide (i.op=8\/i.op=9\/i.op=10) || (decide (i.op=21) && decide (i.pl≠-1))
def wL (n:Nat)(c:UInt8):Bool:=mr c || (digB c && decide (n≠0))
def js:List UInt8->Nat->Bool
 | [],_=>U
 | c :: r,n=>wL n c && js r (n+1)
theorem qm:∀ (s:List UInt8) (n:Nat),0<n->js s n=s.all fun c=>mr c || digB c
 | [],_,_=>rfl
 | c :: r,n,h=>by
  have hn:decide (n≠0)=U:=by simpa using Nat.ne_of_gt h
  rw[js,qm r (n+1) (by omega),List.all_cons,wL,hn,Bool.and_true]
theorem uR (s:List UInt8)(h0:1<=s.length)(h1:s.length<=16):cJ s=js s 0:=by
 cases s with
 | nil=>simp at h0
 | cons c r=>
  unfold cJ
  rw[js,qm r 1 (by omega)]
  simp only[h0,h1,decide_true,Bool.true_and,List.getD_cons_zero,List.all_cons,wL]
  cases mr c <;> simp
theorem qM (ws:List (List UInt8)):0<=(aJ ws).k/\(aJ ws).k<4294967296:=by
 have hk:0<=lA ws.tail/\lA ws.tail<4294967296:=by unfold lA;split <;> omega
 unfold aJ cP
 generalize lA ws.tail=k at *
 repeat' split
 all_goals (simp only;omega)
def qg (s:List UInt8):Option aM:=if jV s=U then P (aJ (ah s)) else Z
theorem jT (s:List UInt8)(i:aM):qg s=P i↔au i 1073741824=U/\0<=i.k/\i.k<4294967296/\af i=s:=by
 unfold qg
 constructor
 ·intro h
  split at h
  ·rename_i hp
   injection h with h
   subst h
   have hp2:=hp
   unfold jV at hp2
   simp only[Bool.and_eq_true,decide_eq_true_eq] at hp2
   exact⟨hp2.2.1,(qM _).1,(qM _).2,hp2.2.2⟩
  ·cases h
 ·rintro⟨hr,k0,k1,rfl⟩
  rw[if_pos (pW i hr k0 k1),(kU i hr k0 k1).2]
def dH (s:List UInt8):List UInt8:=(ah s).getLastD []
def dP (s:List UInt8):List UInt8:=s.take (s.length-(dH s).length)
def eC (s:List UInt8):Option (aM×List UInt8):=
 match qg (dP s++[48]) with
 | some i=>if dh i=U/\cJ (dH s)=U then P (i,dH s)
  else match qg s with
   | some j=>if dh j=U then Z else P (j,[])
   | none=>Z
 | none=>match qg s with
  | some j=>if dh j=U then Z else P (j,[])
  | none=>Z
def pO (s:List UInt8):Bool:=!s.isEmpty && (decide (s.getLastD 0=58) && cJ s.dropLast)
def bK:List UInt8->List (List UInt8)
 | []=>[[]]
 | c :: r=>if c=10 then [] :: bK r else iB c (bK r)
def pM:List (List UInt8)->Int->List (List UInt8×Int)->List (aM×List UInt8×Int)->(Int×Int) ⊕ (List (List UInt8×Int)×List (aM×List UInt8×Int))
 | [],_,ls,rs=>.inr (ls,rs)
 | s :: more,n,ls,rs=>
  if pO s=U then
   if (ls.any fun x=>x.1==s.dropLast)=U then .inl (n,2) else pM more (n+1) (ls++[(s.dropLast,(rs.length:Int))]) rs
  else match eC s with
   | none=>.inl (n,8)
   | some (i,nm)=>if 64<=rs.length then .inl (n,9) else pM more (n+1) ls (rs++[(i,nm,n)])
def bd (ls:List (List UInt8×Int))(s:List UInt8)(n:Int):Int:=
 match ls.find? fun x=>x.1==s && decide (x.2<n) with
 | some x=>x.2
 | none=>-1
def fV (ls:List (List UInt8×Int))(n:Int):List (aM×List UInt8×Int)->(Int×Int) ⊕ List aM
 | []=>.inr []
 | (i,nm,row) :: more=>
  if nm=[] then
   match fV ls n more with
   | .inl e=>.inl e
   | .inr l=>.inr (i :: l)
  else if bd ls nm n<0 then .inl (row,10)
  else match fV ls n more with
   | .inl e=>.inl e
   | .inr l=>.inr ({ i with pl:=bd ls nm n } :: l)
def fF:List UInt8:=[108,111,99,107]
def df:List UInt8:=[117,110,108,111,99,107]
def eF (text:List UInt8):ie×Int×Int:=
 match pM (bK text).dropLast 1 [] [] with
 | .inl (n,e)=>(ie.zero,n,e)
 | .inr (ls,rs)=>
  if (bK text).getLastD []≠[] then (ie.zero,((bK text).length:Int),8)
  else match fV ls rs.length rs with
   | .inl (n,e)=>(ie.zero,n,e)
   | .inr l=>if bd ls fF rs.length<0\/bd ls df rs.length<0 then (ie.zero,0,10)
    else (⟨l,bd ls fF rs.length,bd ls df rs.length⟩,0,0)
theorem vW (c:UInt8)(a b:List (List UInt8))(h:a≠[]):iB c (a++b)=iB c a++b:=by
 cases a with
 | nil=>exact absurd rfl h
 | cons x y=>rfl
theorem nD (s:List UInt8):ah s≠[]:=by
 have:=fQ s
 intro h
 rw[h] at this
 simp at this
theorem fR:∀ (a b:List UInt8),ah (a++32 :: b)=ah a++ah b
 | [],b=>by simp[ah]
 | c :: a,b=>by
  have ih:=fR a b
  show ah (c :: (a++32 :: b))=_
  by_cases hc:c=32
  ·rw[ah,if_pos hc,ih,ah,if_pos hc];rfl
  ·rw[ah,if_neg hc,ih,ah,if_neg hc,vW _ _ _ (nD a)]
theorem nT (a b:List UInt8)(h:Bf b):dH (a++32 :: b)=b:=by
 unfold dH
 rw[fR,cH b h]
 simp
theorem nZ (a b:List UInt8)(h:Bf b):dP (a++32 :: b)=a++[32]:=by
 unfold dP
 rw[nT a b h]
 have e:(a++32 :: b).length-b.length=(a++[32]).length:=by simp;omega
 have e2:a++32 :: b=(a++[32])++b:=by simp
 rw[e,e2,List.take_left]
theorem AB {s:List UInt8}(h:cJ s=U):Bf s:=by
 unfold cJ at h
 simp only[Bool.and_eq_true] at h
 intro c hc e
 have:=List.all_eq_true.1 h.2.2.2 c hc
 subst e
 revert this
 decide
theorem mi (op:Int)(h:cX op≠[]):eM (bE op) 23=op:=by
 rcases ci op with rfl|rfl|rfl|rfl|rfl|rfl|rfl|rfl|rfl|rfl|rfl|rfl|rfl|rfl|rfl|rfl|rfl|rfl|rfl|rfl|rfl | hn
 all_goals first | decide | exact absurd (dv hn).1 h
theorem jA {i:aM}{p:Int}(h:au i p=U):cX i.op≠[]:=by
 unfold au at h
 simp only[Bool.and_eq_true,Bool.not_eq_true',List.isEmpty_eq_false_iff] at h
 exact h.1
theorem CD {i j:aM}{p q:Int}(hi:au i p=U)(hj:au j q=U)(h:bE i.op=bE j.op):i.op=j.op:=by
 rw[<-mi i.op (jA hi),h,mi j.op (jA hj)]
theorem Ee (op:Int):Bf (bE op):=by
 rcases ci op with rfl|rfl|rfl|rfl|rfl|rfl|rfl|rfl|rfl|rfl|rfl|rfl|rfl|rfl|rfl|rfl|rfl|rfl|rfl|rfl|rfl | hn
 all_goals first | (unfold Bf;decide) | (rw[(dv hn).2];unfold Bf;simp)
theorem mf {i:aM}{p q:Int}(hq:p<=q)(h:au i p=U):au i q=U:=by
 unfold au at *
 simp only[Bool.and_eq_true,List.all_eq_true] at *
 refine⟨h.1,fun c hc=>?_,h.2.2⟩
 have:=h.2.1 c hc
 unfold oP ep at *
 simp only[Bool.and_eq_true,decide_eq_true_eq] at *
 refine⟨this.1,?_⟩
 have h2:=this.2
 generalize (c.toNat:Int)=x at *
 generalize aY i x=y at *
 repeat' split at h2
 all_goals first | (simp_all;done) | (simp_all;omega)
theorem sq {i:aM}(h:dh i=U):i.op=8\/i.op=9\/i.op=10\/(i.op=21/\0<=i.pl):=by
 unfold dh at h
 simp only[Bool.or_eq_true,Bool.and_eq_true,decide_eq_true_eq] at h
 omega
theorem i8:∀ s:List UInt8,Bf s\/∃ a b,Bf b/\s=a++32 :: b
 | []=>.inl (by unfold Bf;simp)
 | c :: r=>by
  rcases i8 r with h | ⟨a,b,hb,rfl⟩
  ·by_cases hc:c=32
   ·exact .inr ⟨[],r,h,by rw[hc];rfl⟩
   ·refine .inl fun x hx=>?_
    rcases List.mem_cons.1 hx with rfl | hx
    ·exact hc
    ·exact h x hx
  ·exact .inr ⟨c :: a,b,hb,rfl⟩
theorem ma {i:aM}{p:Int}(hr:au i p=U):∃ r,af i=bE i.op++32 :: r:=by
 have hh:=jA hr
 obtain⟨op,d,s,t,u,a,k,pl⟩:=i
 simp only at hh
 rcases ci op with rfl|rfl|rfl|rfl|rfl|rfl|rfl|rfl|rfl|rfl|rfl|rfl|rfl|rfl|rfl|rfl|rfl|rfl|rfl|rfl|rfl | hn
 all_goals first
  | exact absurd (dv hn).1 hh
  | (unfold af az;simp only[cX];simp[aW,aY])
theorem nH {i:aM}{p:Int}(hr:au i p=U):(ah (af i)).head?=P (bE i.op):=by
 obtain⟨r,h⟩:=ma hr
 rw[h,fR,cH _ (Ee _)]
 rfl
theorem me {i:aM}{p:Int}(hr:au i p=U)(hp:p<=1073741824)(k0:0<=i.k)(k1:i.k<4294967296)(h:i.op=21):(i.pl=-1/\(ah (af i)).length=6)\/(0<=i.pl/\(ah (af i)).length=8):=by
 obtain⟨hd,hs,ht,hu,ha⟩:=eu i _ hr
 obtain⟨op,d,s,t,u,a,k,pl⟩:=i
 simp only at hd hs ht hu ha k0 k1 h
 subst h
 have hr2:=mf hp hr
 have hr3:=gM d s t u a k pl 1073741824 hd hs ht hu ha k0 k1
 rw[hr2] at hr3
 simp[dg] at hr3
 obtain⟨dn,rfl⟩:∃ n:Nat,d=n:=⟨d.toNat,by omega⟩
 obtain⟨sn,rfl⟩:∃ n:Nat,s=n:=⟨s.toNat,by omega⟩
 obtain⟨tn,rfl⟩:∃ n:Nat,t=n:=⟨t.toNat,by omega⟩
 obtain⟨un,rfl⟩:∃ n:Nat,u=n:=⟨u.toNat,by omega⟩
 obtain⟨an,rfl⟩:∃ n:Nat,a=n:=⟨a.toNat,by omega⟩
 obtain⟨kn,rfl⟩:∃ n:Nat,k=n:=⟨k.toNat,by omega⟩
 obtain rfl:un=0:=by omega
 by_cases hm:pl=-1
 ·subst hm
  refine .inl ⟨rfl,?_⟩
  by_cases hk:kn=0
  ·subst hk
   exact congrArg List.length (gd dn sn tn an 0)
  ·obtain rfl:kn=1:=by omega
   exact congrArg List.length (ga dn sn tn an 0)
 ·obtain⟨pn,rfl⟩:∃ n:Nat,pl=n:=⟨pl.toNat,by omega⟩
  refine .inr ⟨by simp,?_⟩
  by_cases hk:kn=0
  ·subst hk
   exact congrArg List.length (gc dn sn tn an pn)
  ·obtain rfl:kn=1:=by omega
   exact congrArg List.length (fZ dn sn tn an pn)
theorem uU (i:aM){p:Int}(hr:au i p=U)(hp:p<=1073741824)(k0:0<=i.k)(k1:i.k<4294967296)(h:dh i=S):eC (af i)=P (i,[]):=by
 have hr2:=mf hp hr
 have h0:qg (af i)=P i:=(jT _ _).2 ⟨hr2,k0,k1,rfl⟩
 unfold eC
 cases hj:qg (dP (af i)++[48]) with
 | none=>simp only[h0,h];rfl
 | some j=>
  simp only
  rw[if_neg,h0]
  ·simp only[h];rfl
  ·rintro⟨hg,-⟩
   obtain⟨jr,j0,j1,jt⟩:=(jT _ _).1 hj
   rcases i8 (af i) with hb | ⟨a,b,hb,hs⟩
   ·obtain⟨r,hr3⟩:=ma hr
    rw[hr3] at hb
    exact hb 32 (by simp) rfl
   ·rw[hs,nZ a b hb] at jt
    have jt2:af j=a++32 :: [48]:=by rw[jt];simp
    have w1:ah (af i)=ah a++[b]:=by rw[hs,fR,cH b hb]
    have w2:ah (af j)=ah a++[[48]]:=by rw[jt2,fR,cH [48] (by simp)]
    have e1:=nH hr
    have e2:=nH jr
    rw[w1] at e1
    rw[w2] at e2
    have hop:i.op=j.op:=by
     refine CD hr jr ?_
     cases hw:ah a with
     | nil=>exact absurd hw (nD a)
     | cons x y=>
      rw[hw] at e1 e2
      simp at e1 e2
      rw[<-e1,<-e2]
    rcases sq hg with e | e | e | ⟨e,e3⟩
    ·unfold dh at h;rw[hop,e] at h;revert h;simp
    ·unfold dh at h;rw[hop,e] at h;revert h;simp
    ·unfold dh at h;rw[hop,e] at h;revert h;simp
    ·have c1:=me hr hp k0 k1 (hop.trans e)
     have c2:=me jr (Int.le_refl _) j0 j1 e
     rw[w1] at c1
     rw[w2] at c2
     simp only[List.length_append,List.length_cons,List.length_nil] at c1 c2
     have:¬ 0<=i.pl:=by
      unfold dh at h
      rw[hop,e] at h
      simp at h
      omega
     omega
theorem Ei {s a b:List UInt8}(h:s=a++32 :: b)(hb:b≠[]):pO s=S:=by
 rw[Bool.eq_false_iff]
 intro hl
 unfold pO at hl
 simp only[Bool.and_eq_true] at hl
 have hn:=AB hl.2.2
 refine hn 32 ?_ rfl
 rw[h,List.dropLast_append_of_ne_nil (by simp)]
 cases b with
 | nil=>exact absurd rfl hb
 | cons x y=>simp
theorem CJ {s:List UInt8}(h:cJ s=U):pO (s++[58])=U:=by
 unfold pO
 simp[h]
inductive uj where
 | lab (nm:List UInt8)
 | ins (i:aM) (nm s:List UInt8)
def uj.text:uj->List UInt8
 | .lab nm=>nm++[58]
 | .ins _ _ s=>s
def uj.Ok:uj->Prop
 | .lab nm=>cJ nm=U
 | .ins i nm s=>pO s=S/\eC s=P (i,nm)
def iZ:List uj->Int->List (List UInt8×Int)
 | [],_=>[]
 | .lab nm :: m,k=>(nm,k) :: iZ m k
 | .ins _ _ _ :: m,k=>iZ m (k+1)
def ir:List uj->Int->List (aM×List UInt8×Int)
 | [],_=>[]
 | .lab _ :: m,n=>ir m (n+1)
 | .ins i nm _ :: m,n=>(i,nm,n) :: ir m (n+1)
def iQ:List uj->List (List UInt8)
 | []=>[]
 | .lab nm :: m=>nm :: iQ m
 | .ins _ _ _ :: m=>iQ m
theorem kM:∀ (toks:List uj) (n:Int) (ls:List (List UInt8×Int)) (rs:List (aM×List UInt8×Int)),(∀ t∈toks,t.Ok)->(ls.map (·.1)++iQ toks).Nodup->rs.length+(ir toks n).length<=64->
 pM (toks.map uj.text) n ls rs=.inr (ls++iZ toks rs.length,rs++ir toks n)
 | [],n,ls,rs,_,_,_=>by simp[pM,iZ,ir]
 | .lab nm :: m,n,ls,rs,hok,hnd,hc=>by
  have h1:cJ nm=U:=hok _ List.mem_cons_self
  have hany:(ls.any fun x=>x.1==nm)=S:=by
   rw[Bool.eq_false_iff]
   intro h
   obtain⟨x,hx,he⟩:=List.any_eq_true.1 h
   have he2:x.1=nm:=by simpa using he
   have:=(List.nodup_append.1 hnd).2.2 x.1 (List.mem_map.2 ⟨x,hx,rfl⟩) nm (by simp[iQ])
   exact this he2
  have ih:=kM m (n+1) (ls++[(nm,(rs.length:Int))]) rs (fun t ht=>hok t (List.mem_cons_of_mem _ ht)) (by simpa [iQ] using hnd) (by simpa [ir] using hc)
  simp only[List.map_cons,uj.text,pM,CJ h1,if_pos,List.dropLast_concat,hany]
  rw[if_neg (by decide),ih]
  simp[iZ,ir]
 | .ins i nm s :: m,n,ls,rs,hok,hnd,hc=>by
  obtain⟨h1,h2⟩:pO s=S/\eC s=P (i,nm):=hok _ List.mem_cons_self
  have hc2:rs.length+((ir m (n+1)).length+1)<=64:=by simpa [ir] using hc
  have ih:=kM m (n+1) ls (rs++[(i,nm,n)]) (fun t ht=>hok t (List.mem_cons_of_mem _ ht)) (by simpa [iQ] using hnd) (by simp;omega)
  simp only[List.map_cons,uj.text,pM,h1,h2]
  rw[if_neg (by decide),if_neg (by omega),ih]
  simp[iZ,ir]
theorem rX:∀ s:List UInt8,bK s≠[]
 | []=>by simp[bK]
 | c :: r=>by
  unfold bK
  split
  ·simp
  ·cases h:bK r with
   | nil=>simp[iB]
   | cons a b=>simp[iB]
theorem ip:∀ (t r:List UInt8),Nl t->bK (t++10 :: r)=t :: bK r
 | [],r,_=>by simp[bK]
 | c :: t,r,h=>by
  have ih:=ip t r fun d hd=>h d (List.mem_cons_of_mem _ hd)
  show bK (c :: (t++10 :: r))=_
  rw[bK,if_neg (h c List.mem_cons_self),ih]
  rfl
theorem jm:∀ (l:List (List UInt8)),(∀ s∈l,Nl s)->bK (l.flatMap fun s=>s++[10])=l++[[]]
 | [],_=>rfl
 | s :: m,h=>by
  have ih:=jm m fun x hx=>h x (List.mem_cons_of_mem _ hx)
  rw[List.flatMap_cons,List.append_assoc]
  show bK (s++10 :: (m.flatMap fun s=>s++[10]))=_
  rw[ip s _ (h s List.mem_cons_self),ih]
  rfl
theorem AY (n:Int):Nl (Lib.itoa n):=by
 have key:∀ k:Nat,Nl (Lib.decDigits k):=fun k c hc e=>by
  have:=om k c hc
  rw[e] at this
  revert this
  decide
 unfold Lib.itoa
 split
 ·intro c hc
  rcases List.mem_cons.1 hc with rfl | hc
  ·decide
  ·exact key _ c hc
 ·exact key _
theorem Ed (op:Int):Nl (bE op):=by
 rcases ci op with rfl|rfl|rfl|rfl|rfl|rfl|rfl|rfl|rfl|rfl|rfl|rfl|rfl|rfl|rfl|rfl|rfl|rfl|rfl|rfl|rfl | hn
 all_goals first | (unfold Nl;decide) | (rw[(dv hn).2];unfold Nl;simp)
theorem Av (i:aM)(x:Int):Nl (aW i x):=by
 have key:∀ (a:List UInt8) (n:Int),(∀ y∈a,y≠10)->Nl (a++Lib.itoa n):=fun a n ha=>Nl.app ha (AY n)
 have k1:∀ n:Int,Nl (32 :: Lib.itoa n):=fun n=>key [32] n (by decide)
 unfold aW
 repeat' split
 all_goals first
  | exact k1 _
  | exact key _ _ (by decide)
  | (unfold Nl;decide)
theorem qr (i:aM):∀ l:List UInt8,Nl (az i l)
 | []=>by unfold Nl az;simp
 | x :: l=>by
  have:az i (x :: l)=aW i x.toNat++az i l:=by simp[az]
  rw[this]
  exact Nl.app (Av i _) (qr i l)
theorem zS (i:aM):Nl (af i):=Nl.app (Ed _) (qr i _)
theorem Az {s:List UInt8}(h:cJ s=U):Nl s:=by
 unfold cJ at h
 simp only[Bool.and_eq_true] at h
 intro c hc e
 have:=List.all_eq_true.1 h.2.2.2 c hc
 subst e
 revert this
 decide
theorem AZ (n:Int):Lib.itoa n≠[]:=by
 unfold Lib.itoa
 split
 ·simp
 ·obtain⟨c,r,h,-⟩:=iH n.toNat
  rw[h]
  simp
theorem uu {i:aM}{p:Int}(hr:au i p=U):∃ r,af i=bE i.op++32 :: r/\r≠[]:=by
 have hh:=jA hr
 have hi:=AZ
 obtain⟨op,d,s,t,u,a,k,pl⟩:=i
 simp only at hh
 rcases ci op with rfl|rfl|rfl|rfl|rfl|rfl|rfl|rfl|rfl|rfl|rfl|rfl|rfl|rfl|rfl|rfl|rfl|rfl|rfl|rfl|rfl | hn
 all_goals first
  | exact absurd (dv hn).1 hh
  | (unfold af az;simp only[cX];simp[aW,aY,hi])
theorem xN {ls:List (List UInt8×Int)}{s:List UInt8}{n:Int}(h:0<=bd ls s n):bd ls s n<n:=by
 unfold bd at *
 split at h
 ·rename_i x hx
  have:=List.find?_some hx
  simp only[Bool.and_eq_true,decide_eq_true_eq] at this
  exact this.2
 ·omega
def dK (ls:List (List UInt8×Int))(rs:List (aM×List UInt8×Int)):ie×Int×Int:=
 match fV ls rs.length rs with
 | .inl (n,e)=>(ie.zero,n,e)
 | .inr l=>if bd ls fF rs.length<0\/bd ls df rs.length<0 then (ie.zero,0,10)
  else (⟨l,bd ls fF rs.length,bd ls df rs.length⟩,0,0)
def gN (t:List UInt8)(n:Int)(ls:List (List UInt8×Int))(rs:List (aM×List UInt8×Int)):ie×Int×Int:=
 match pM (bK t).dropLast n ls rs with
 | .inl (m,e)=>(ie.zero,m,e)
 | .inr (ls,rs)=>if (bK t).getLastD []≠[] then (ie.zero,n+(bK t).length-1,8) else dK ls rs
theorem oq (text:List UInt8):eF text=gN text 1 [] []:=by
 have e:(1:Int)+((bK text).length:Int)-1=((bK text).length:Int):=by omega
 unfold eF gN dK
 rw[e]
theorem nn {α:Type}(x:α)(l:List α)(h:l≠[]):(x :: l).dropLast=x :: l.dropLast:=by
 cases l with
 | nil=>exact absurd rfl h
 | cons a b=>rfl
theorem lH {α:Type}(x d:α)(l:List α)(h:l≠[]):(x :: l).getLastD d=l.getLastD d:=by
 cases l with
 | nil=>exact absurd rfl h
 | cons a b=>rfl
theorem eT (s r:List UInt8)(h:Nl s)(n:Int)(ls:List (List UInt8×Int))(rs:List (aM×List UInt8×Int)):
 gN (s++10 :: r) n ls rs =
  if pO s=U then (if (ls.any fun x=>x.1==s.dropLast)=U then (ie.zero,n,2) else gN r (n+1) (ls++[(s.dropLast,(rs.length:Int))]) rs)
  else match eC s with
   | none=>(ie.zero,n,8)
   | some (i,nm)=>if 64<=rs.length then (ie.zero,n,9) else gN r (n+1) ls (rs++[(i,nm,n)]):=by
 have hp:=ip s r h
 have hne:=rX r
 have e:n+((bK (s++10 :: r)).length:Int)-1=n+1+((bK r).length:Int)-1:=by
  rw[hp]
  simp
  omega
 unfold gN
 rw[e,hp,nn _ _ hne,lH _ _ _ hne]
 simp only[pM]
 by_cases h1:pO s=U
 ·simp only[h1,if_true]
  by_cases h2:(ls.any fun x=>x.1==s.dropLast)=U
  ·simp only[h2,if_true]
  ·simp only[h2]
   rfl
 ·simp only[h1]
  cases hl:eC s with
  | none=>simp
  | some q=>
   obtain⟨i,nm⟩:=q
   simp only
   by_cases h3:64<=rs.length
   ·simp[h3]
   ·simp[h3]
theorem iO (s:List UInt8)(h:Nl s)(n:Int)(ls:List (List UInt8×Int))(rs:List (aM×List UInt8×Int)):gN s n ls rs=if s≠[] then (ie.zero,n,8) else dK ls rs:=by
 have hp:∀ t:List UInt8,Nl t->bK t=[t]:=by
  intro t
  induction t with
  | nil=>intro _;rfl
  | cons c t ih=>
   intro ht
   rw[bK,if_neg (ht c List.mem_cons_self),ih fun d hd=>ht d (List.mem_cons_of_mem _ hd)]
   rfl
 unfold gN
 rw[hp s h]
 simp[pM]
theorem vQ (ls:List (List UInt8×Int))(n:Int)(i:aM)(row:Int)(more:List (aM×List UInt8×Int)):
 fV ls n ((i,[],row) :: more)=match fV ls n more with | .inl e=>.inl e | .inr l=>.inr (i :: l):=by
 simp only[fV]
 rfl
theorem ot (ls:List (List UInt8×Int))(n:Int)(i:aM)(nm:List UInt8)(hn:nm≠[])(row:Int)(more:List (aM×List UInt8×Int)):
 fV ls n ((i,nm,row) :: more)=if bd ls nm n<0 then .inl (row,10) else match fV ls n more with | .inl e=>.inl e | .inr l=>.inr ({ i with pl:=bd ls nm n } :: l):=by
 simp only[fV]
 rw[if_neg hn]
theorem yq (c:ie)(toks:List uj)(N:Nat)(hN:N<=64)(hok:∀ t∈toks,t.Ok/\Nl t.text)(hnd:(iQ toks).Nodup)(hlen:(ir toks 1).length=N)
 (h2:fV (iZ toks 0) N (ir toks 1)=.inr c.l) (hlo:bd (iZ toks 0) fF N=c.lo) (hun:bd (iZ toks 0) df N=c.un) (h0:0<=c.lo) (h1:0<=c.un):
 eF ((toks.map uj.text).flatMap fun s=>s++[10])=(c,0,0):=by
 have hp:=jm (toks.map uj.text) (by
  intro s hs
  obtain⟨t,ht,rfl⟩:=List.mem_map.1 hs
  exact(hok t ht).2)
 have h3:=kM toks 1 [] [] (fun t ht=>(hok t ht).1) (by simpa using hnd) (by simpa [hlen] using hN)
 simp only[List.nil_append,List.length_nil,Int.ofNat_zero] at h3
 unfold eF
 rw[hp,List.dropLast_concat,h3]
 simp only[List.getLastD_concat,hlen,h2,hlo,hun]
 rw[if_neg (by simp),if_neg (by omega)]
theorem tI (nm:List UInt8)(h:cJ nm=U):(uj.lab nm).Ok/\Nl (uj.lab nm).text:=by
 refine⟨h,?_⟩
 show Nl (nm++[58])
 exact Nl.app (Az h) (by intro c hc;simp at hc;subst hc;decide)
theorem cY (i:aM)(s:List UInt8)(hr:au i 64=U)(k0:0<=i.k)(k1:i.k<4294967296)(hg:dh i=S)(hs:af i=s):(uj.ins i [] s).Ok/\Nl (uj.ins i [] s).text:=by
 subst hs
 obtain⟨r,e,hn⟩:=uu hr
 exact⟨⟨Ei e hn,uU i hr (by decide) k0 k1 hg⟩,zS i⟩
end
section
open Go.ChangeShapes Go.WideShapes Go.ChangeAt Go.RowKit
theorem ja {w:World}{k:Nat}{s:ByteArray}{p:Nat}(h:w.heap[k]?=P (.stringIter s p)):w.iterPos k=p:=by simp[World.iterPos,h]
theorem uA (s:List UInt8)(n:Nat)(h:n<s.length):js (s.drop n) n=(wL n (s.getD n 0) && js (s.drop (n+1)) (n+1)):=by
 rw[List.drop_eq_getElem_cons h,js]
 simp[List.getD_eq_getElem?_getD,h]
def DC (n c:Nat):Bool:=(decide (97<=c) && decide (c<=122)) || ((decide (48<=c) && decide (c<=57)) && decide (n≠0))
theorem CB (n:Nat)(c:UInt8):wL n c=DC n c.toNat:=rfl
theorem tO {n c:Nat}(h:DC n c=U):(97<=c/\c<=122)\/(48<=c/\c<=57/\n≠0):=by
 unfold DC at h
 simp only[Bool.or_eq_true,Bool.and_eq_true,decide_eq_true_eq] at h
 omega
theorem Cz {n c:Nat}(h:DC n c=S):c<48\/(48<=c/\c<=57/\n=0)\/(57<c/\c<97)\/122<c:=by
 unfold DC at h
 simp only[Bool.or_eq_false_iff,Bool.and_eq_false_iff,decide_eq_false_iff_not] at h
 omega
theorem uc (s:List UInt8)(w:World):
 Calls Tryz.prog 103 #[bs s] w fun e w'=>e=.returned (.bool (cJ s))/\Below w.heap.size w w':=by
 have hsz:(⟨s.toArray⟩:ByteArray).size=s.length:=by show s.toArray.size=_;simp
 unfold bs
 by_cases h0:s=[]
 ·subst h0
  go_enter Tryz.func103,Tryz.ntmps103
  go_wp2
  go_ret
  exact⟨rfl,C _ _⟩
 by_cases h1:16<s.length
 ·have e:cJ s=S:=by
   unfold cJ
   have:decide (s.length<=16)=S:=by simp;omega
   simp[this]
  rw[e]
  have q0:(s==[])=S:=by simpa using h0
  have q1:(16:Int)<s.length:=by omega
  go_enter Tryz.func103,Tryz.ntmps103
  go_wp2
  go_ret
  exact⟨rfl,C _ _⟩
 have q0:(s==[])=S:=by simpa using h0
 have q1:¬ (16:Int)<s.length:=by omega
 have hl:1<=s.length:=by cases s with
  | nil=>exact absurd rfl h0
  | cons=>simp
 have HN:=D (uR s hl (by omega))
 generalize cJ s=r at *
 go_enter Tryz.func103,Tryz.ntmps103
 go_wp2
 go_loopw [2] (fun v wr=>∃ n:Nat,v=.bool S/\n<=s.length/\wr.heap[w.heap.size]?=P (.stringIter ⟨s.toArray⟩ n)/\Below w.heap.size w wr/\Hid (r=js (s.drop n) n))
  (fun v wr=>s.length-wr.iterPos w.heap.size)
 case atStart=>exact⟨0,rfl,by omega,World.iter_heap w _ 0,(C _ _).alloc (M _) _,D (by simpa using HN.out)⟩
 case round=>
  obtain⟨n,rfl,hn,hit,hb,HR⟩:=hrel
  have hpos:=ja hit
  by_cases hp:n<s.length
  ·have hnx:∀ ty,(Instr.next (G (P ⟨w.heap.size,0,Z⟩)) U ty).run Tryz.prog wr=_:=fun ty=>Lib.run_next_any_at wr w.heap.size ⟨s.toArray⟩ n ty hit (by omega)
   have hg:(⟨s.toArray⟩:ByteArray)[n]'(by omega)=s.getD n 0:=by
    simp[ByteArray.getElem_eq_getElem_data,hp]
   have HD:=D (uA s n hp)
   have HK:Hid (wL n (s.getD n 0)=DC n (s.getD n 0).toNat):=D (CB _ _)
   have hit2:=Lib.iterAt_heap wr w.heap.size ⟨s.toArray⟩ n (n+(Utf8.decode ⟨s.toArray⟩ n).2) hit
   have hb2:=Lib.below_iterAt hb (k:=w.heap.size) (M _) ⟨s.toArray⟩ (n+(Utf8.decode ⟨s.toArray⟩ n).2)
   by_cases hc:(s.getD n 0).toNat<128
   ·have hd:=decode_ascii ⟨s.toArray⟩ n (by omega) (by rw[hg];exact hc)
    rw[hg] at hd
    rw[hd] at hnx hit2 hb2
    simp only at hnx hit2 hb2
    clear hd hg hc
    generalize wr.iterAt w.heap.size ⟨s.toArray⟩ (n+1)=W1 at *
    rw[HK.out] at HD
    clear HK
    generalize (s.getD n 0).toNat=c at *
    clear hit
    cases ho:DC n c with
    | true=>
     have HR2:Hid (r=js (s.drop (n+1)) (n+1)):=D (by rw[HR.out,HD.out,ho];simp)
     rcases tO ho with ⟨k1,k2⟩ | ⟨k1,k2,k3⟩
     ·have z1:(97:Int)<=(c:Int):=by omega
      have z2:(c:Int)<=122:=by omega
      clear HR HD ho k1 k2
      go_wp2
      all_goals (
       go_roundw
       case rel=>exact⟨n+1,rfl,by omega,hit2,hb2,HR2⟩
       case measure=>rw[ja hit2,hpos];omega)
     ·have z1:¬ (97:Int)<=(c:Int):=by omega
      have z2:(48:Int)<=(c:Int):=by omega
      have z3:(c:Int)<=57:=by omega
      have z4:((n:Int)==0)=S:=by simp;omega
      clear HR HD ho k1 k2
      go_wp2
      all_goals (
       go_roundw
       case rel=>exact⟨n+1,rfl,by omega,hit2,hb2,HR2⟩
       case measure=>rw[ja hit2,hpos];omega)
    | false=>
     have HR2:Hid (r=S):=D (by rw[HR.out,HD.out,ho];simp)
     rcases Cz ho with k1 | ⟨k1,k2,k3⟩ | ⟨k1,k2⟩ | k1
     ·have z1:¬ (97:Int)<=(c:Int):=by omega
      have z2:¬ (48:Int)<=(c:Int):=by omega
      clear HR HD ho k1
      go_wp2
      go_ret
      exact⟨by rw[HR2.out];rfl,hb2⟩
     ·have z1:¬ (97:Int)<=(c:Int):=by omega
      have z2:(48:Int)<=(c:Int):=by omega
      have z3:(c:Int)<=57:=by omega
      have z4:((n:Int)==0)=U:=by simp;omega
      clear HR HD ho k1 k2
      go_wp2
      go_ret
      exact⟨by rw[HR2.out];rfl,hb2⟩
     ·have z1:¬ (97:Int)<=(c:Int):=by omega
      have z2:(48:Int)<=(c:Int):=by omega
      have z3:¬ (c:Int)<=57:=by omega
      clear HR HD ho k1 k2
      go_wp2
      go_ret
      exact⟨by rw[HR2.out];rfl,hb2⟩
     ·have z1:(97:Int)<=(c:Int):=by omega
      have z2:¬ (c:Int)<=122:=by omega
      have z3:(48:Int)<=(c:Int):=by omega
      have z4:¬ (c:Int)<=57:=by omega
      clear HR HD ho k1
      go_wp2
      go_ret
      exact⟨by rw[HR2.out];rfl,hb2⟩
   ·have hd:=(decode_high ⟨s.toArray⟩ n (by omega) (by rw[hg];omega)).1
    have HR2:Hid (r=S):=D (by
     rw[HR.out,HD.out,HK.out]
     have:DC n (s.getD n 0).toNat=S:=by
      cases ho:DC n (s.getD n 0).toNat with
      | false=>rfl
      | true=>rcases tO ho with ⟨k1,k2⟩ | ⟨k1,k2,k3⟩ <;> omega
     rw[this];simp)
    generalize (Utf8.decode ⟨s.toArray⟩ n).1=c at *
    generalize wr.iterAt w.heap.size ⟨s.toArray⟩ (n+(Utf8.decode ⟨s.toArray⟩ n).2)=W1 at *
    have z1:(97:Int)<=(c:Int):=by omega
    have z2:¬ (c:Int)<=122:=by omega
    have z3:(48:Int)<=(c:Int):=by omega
    have z4:¬ (c:Int)<=57:=by omega
    clear HR HD HK hd hc hg hit2 hit
    go_wp2
    go_ret
    exact⟨by rw[HR2.out];rfl,hb2⟩
  ·have hnx:∀ ty,(Instr.next (G (P ⟨w.heap.size,0,Z⟩)) U ty).run Tryz.prog wr=_:=fun ty=>Lib.run_next_end_at wr w.heap.size ⟨s.toArray⟩ n ty hit (by omega)
   have HR2:Hid (r=U):=D (by rw[HR.out,List.drop_of_length_le (by omega)];rfl)
   clear HR hit
   go_wp2
   go_ret
   exact⟨by rw[HR2.out];rfl,hb⟩
theorem pT (i:aM):(eH i=U/\(i.op=8\/i.op=9\/i.op=10))\/(i.op=21/\eH i=decide (i.pl≠-1))\/(eH i=S/\i.op≠8/\i.op≠9/\i.op≠10/\i.op≠21):=by
 unfold eH
 by_cases h:i.op=8\/i.op=9\/i.op=10
 ·exact .inl ⟨by simp[h],h⟩
 by_cases h2:i.op=21
 ·exact .inr (.inl ⟨h2,by simp[h2]⟩)
 ·exact .inr (.inr ⟨by simp[h,h2],by omega,by omega,by omega,h2⟩)
theorem vK (i:aM)(w:World):
 Calls Tryz.prog 155 #[iv i] w fun e w'=>e=.returned (.bool (eH i))/\Below w.heap.size w w':=by
 have hb:∀ cs:Array Value,Below w.heap.size w (w.alloc (.cells cs 121)):=fun cs=>(C _ _).alloc (M _) _
 have HP:=pT i
 generalize eH i=r at *
 obtain⟨op,d,s,t,u,a,k,pl⟩:=i
 simp only at HP
 unfold iv
 rcases HP with ⟨rfl,rfl|rfl|rfl⟩ | ⟨rfl,h⟩ | ⟨rfl,h1,h2,h3,h4⟩
 ·go_enter Tryz.func155,Tryz.ntmps155
  go_wp2
  go_ret
  exact⟨rfl,hb _⟩
 ·go_enter Tryz.func155,Tryz.ntmps155
  go_wp2
  go_ret
  exact⟨rfl,hb _⟩
 ·go_enter Tryz.func155,Tryz.ntmps155
  go_wp2
  go_ret
  exact⟨rfl,hb _⟩
 ·have HH:=D h
  clear h
  go_enter Tryz.func155,Tryz.ntmps155
  go_wp2
  go_ret
  refine⟨?_,hb _⟩
  rw[HH.out]
  congr 2
  simp[bne]
  by_cases e:pl=-1 <;> simp[e]
 ·have e1:(op==8)=S:=by simpa using h1
  have e2:(op==9)=S:=by simpa using h2
  have e3:(op==10)=S:=by simpa using h3
  have e4:(op==21)=S:=by simpa using h4
  go_enter Tryz.func155,Tryz.ntmps155
  go_wp2
  go_ret
  exact⟨rfl,hb _⟩
end
section
open Go.ChangeShapes Go.WideShapes Go.ChangeAt Go.RowKit Go.Shelf
attribute [local go_sem] Oper.semAt_some
theorem vJ (s:List UInt8)(w:World):
 Calls Tryz.prog 64 #[bs s] w fun e w'=>e=.returned (.func (.func 100) #[] #[G (P ⟨w.heap.size,0,Z⟩)])/\w'=w.alloc (E #[bs s] 9):=by
 unfold bs
 go_enter Tryz.func64,Tryz.ntmps64
 go_wp2
 go_ret
 exact⟨rfl,rfl⟩
theorem p6 (text:List UInt8)(b l:Nat)(W1:World)(hb:Bk W1 b 9 #[bs text])(hlen:text.length<1000000000):
 Dx Tryz.prog 100 #[G (P ⟨b,0,Z⟩)] (fun k=>#[I Q ((k:Int)+1),bs (ef text k)]) (bG text).length l W1 (fun x=>W1.heap.size<=x/\x<W1.heap.size+5):=by
 intro J Jx hJ hJx hY h0
 have hc0:W1.cell? ⟨b,0,Z⟩=P (.string ⟨text.toArray⟩):=hb.cell 0
 have HL:=D (fun W=>callsIn_wide (n:=0) |>.2 (CN text W))
 refine callsIn_of_wp_marks Tryz.func100 rfl trivial ?_ rfl
 simp only[Tryz.ntmps100,List.size_toArray,List.length_cons,List.length_nil,Nat.reduceAdd,Nat.reduceSub,Array.replicate_succ,Array.replicate_zero,List.push_toArray,List.append_toArray,List.nil_append,List.cons_append]
 have y2:=Bk.alloc (Bk.made W1 196 #[.func (.yield l) #[] #[]]) (E #[I Q 0] 3)
 have n2:=Bk.made (W1.alloc (E #[.func (.yield l) #[] #[]] 196)) 3 #[I Q 0]
 have t2:=Bk.alloc (Bk.alloc hb (E #[.func (.yield l) #[] #[]] 196)) (E #[I Q 0] 3)
 have w2:ab W1 ((W1.alloc (E #[.func (.yield l) #[] #[]] 196)).alloc (E #[I Q 0] 3)) (fun _=>False):=((ab.refl _ _).alloc _).alloc _
 have s2:((W1.alloc (E #[.func (.yield l) #[] #[]] 196)).alloc (E #[I Q 0] 3)).heap.size=W1.heap.size+2:=by simp
 rw[World.size_alloc] at n2
 have hc2:((W1.alloc (E #[.func (.yield l) #[] #[]] 196)).alloc (E #[I Q 0] 3)).cell? ⟨b,0,Z⟩=P (.string ⟨text.toArray⟩):=t2.cell 0
 gi_wp2
 generalize (W1.alloc (E #[.func (.yield l) #[] #[]] 196)).alloc (E #[I Q 0] 3)=W2 at *
 refine⟨trivial,rfl,?_⟩
 refine(HL.out _).mono ?_
 rintro e W3 ⟨rfl,rfl⟩
 have y3:=y2.alloc (E #[bs text] 9)
 have n3:=n2.alloc (E #[bs text] 9)
 have t3:=Bk.made W2 9 #[bs text]
 have s3:(W2.alloc (E #[bs text] 9)).heap.size=W1.heap.size+3:=by simp[s2]
 have w3:ab W1 (W2.alloc (E #[bs text] 9)) (fun _=>False):=w2.alloc _
 rw[s2] at t3 ⊢
 generalize W2.alloc (E #[bs text] 9)=W3 at *
 clear hc2 t2 n2 y2 w2 s2 W2 HL hc0
 gi_wp2
 have e0:W3.heap.size=W1.heap.size+3:=s3
 refine lY (gf:=150) (lb:=#[G (P ⟨W1.heap.size+2,0,Z⟩)]) rfl (enters_of Tryz.func150 (by kernel_rfl) rfl)
  (encs:=fun k=>#[bs (ef text k)]) (N:=(bG text).length) (T:=fun x=>x=W1.heap.size+2) (fun _=>rfl) (by omega) (by omega)
  (fun W4 hb4 hz4=>xG text _ _ W4 ((hb4.block _ (by omega)).trans t3) hlen)
  (fun k W=>J k W/\Bk W W1.heap.size 196 #[.func (.yield l) #[] #[]]/\Bk W (W1.heap.size+1) 3 #[I Q k])
  (fun c W=>c=.ret/\Jx W) ?calm ?calmx ⟨hJ 0 _ _ h0 (w3.wide (by simp)),y3,n3⟩
  (fun k=>{ tmps:=#[.func (.yield l) #[] #[],G (P ⟨b,0,Z⟩),G (P ⟨W1.heap.size,0,Z⟩),G (P ⟨W1.heap.size+1,0,Z⟩),.string ⟨(ef text k).toArray⟩,.string ⟨text.toArray⟩,
   .func (.func 150) #[] #[G (P ⟨W1.heap.size+2,0,Z⟩)],.string ⟨(ef text k).toArray⟩,X,X,X,X,X,X,X],defers:=[] }) ?assign ?body ?done ?stop
 case calm=>
  rintro k A B ⟨j,y,n⟩ hw
  exact⟨hJ k A B j (hw.wide (by rintro i (rfl|rfl|rfl) _ <;> omega)),y.within hw (by omega),n.within hw (by omega)⟩
 case calmx=>
  rintro c A B ⟨rfl,j⟩ hw
  exact⟨rfl,hJx A B j (hw.wide (by rintro i (rfl|rfl|rfl) _ <;> omega))⟩
 case assign=>
  intro l2 k W K hK
  unfold bs
  gi_wp2
  exact hK
 case body=>
  rintro l2 k W hk ⟨hj,hy,hn⟩ hT
  have hkl:k<1000000000:=Nat.lt_of_lt_of_le hk (Nat.le_trans (kA text) (Nat.le_of_lt hlen))
  have hwr:wrap64 ((k:Int)+1)=(k:Int)+1:=by unfold wrap64;omega
  have cn:W.cell? ⟨W1.heap.size+1,0,Z⟩=P (I Q k):=hn.cell 0
  have fn:=hn.free 0
  have w1:ab W (W.setCell ⟨W1.heap.size+1,0,Z⟩ (I Q ((k:Int)+1))) (fun x=>x=W1.heap.size+1):=(ab.refl _ _).put _ 0 _ (.inl rfl)
  have n1:Bk (W.setCell ⟨W1.heap.size+1,0,Z⟩ (I Q ((k:Int)+1))) (W1.heap.size+1) 3 #[I Q ((k:Int)+1)]:=hn.put 0 _
  have y1:=hy.within w1 (by omega)
  have hj1:=hJ k _ _ hj (w1.wide (by rintro i rfl _;omega))
  obtain⟨fn2,tmps,assign,body,hyy,hR⟩:=hY k _ hk hj1 (by intro x hx;have:=w1.size;have:=hT (W3.heap.size+1) (.inr (.inl rfl));omega)
  unfold bs at hyy
  have cy:(W.setCell ⟨W1.heap.size+1,0,Z⟩ (I Q ((k:Int)+1))).cell? ⟨W1.heap.size,0,Z⟩=P (.func (.yield l) #[] #[]):=y1.cell 0
  have cn1:(W.setCell ⟨W1.heap.size+1,0,Z⟩ (I Q ((k:Int)+1))).cell? ⟨W1.heap.size+1,0,Z⟩=P (I Q ((k:Int)+1)):=n1.cell 0
  gi_wp2
  refine⟨rfl,RoundIn.mono (F:=Fence.wide) hR ?_⟩
  rintro e W5 ⟨hh,hQ⟩
  have hT5:gE (fun x=>x=W3.heap.size\/x=W3.heap.size+1\/x=W1.heap.size+2) W W5:=by
   refine⟨Nat.le_trans w1.size hh.1,?_⟩
   rintro x (rfl|rfl|rfl)
   ·exact(hh.2 _ ⟨by omega,by omega⟩).trans (w1.block _ (hT _ (.inl rfl)) (by omega))
   ·exact(hh.2 _ ⟨by omega,by omega⟩).trans (w1.block _ (hT _ (.inr (.inl rfl))) (by omega))
   ·exact(hh.2 _ ⟨by omega,by omega⟩).trans (w1.block _ (hT _ (.inr (.inr rfl))) (by omega))
  rcases hQ with ⟨rfl,hJ5⟩ | ⟨rfl,hJx5⟩
  ·gi_wp2
   exact⟨hT5,hJ5,(hh.2 _ ⟨by omega,by omega⟩).trans y1,(hh.2 _ ⟨by omega,by omega⟩).trans n1⟩
  ·gi_wp2
   exact⟨hT5,rfl,hJx5⟩
 case done=>
  rintro W ⟨hj,_,_⟩ hd
  gi_wp2
  refine⟨by simp,.inl ⟨_,_,rfl,run_takeDeferred hd,?_⟩⟩
  exact⟨_,results_none rfl _ _ _,⟨_,rfl⟩,.inl (hJ _ _ _ hj (cz _ _ _ _ ⟨by omega,by omega⟩))⟩
 case stop=>
  rintro c W ⟨rfl,hj⟩ hd
  gi_wp2
  refine⟨by simp,.inl ⟨_,_,rfl,run_takeDeferred hd,?_⟩⟩
  exact⟨_,results_none rfl _ _ _,⟨_,rfl⟩,.inr (hJx _ _ hj (cz _ _ _ _ ⟨by omega,by omega⟩))⟩
end
section
def BT (m:Nat):ie:=⟨Fh m,0,8⟩
def iS (m:Nat):List uj:=[.lab [108,111,99,107],.ins ⟨20,1,0,0,0,0,1,0⟩ [] ([102,97,100,100,32,114,49,32,48,32,114,48,32,49]),.ins ⟨12,0,0,0,0,0,1,0⟩ [] ([109,97,114,107,32,49]),.ins ⟨4,2,1,0,0,0,(m:Int)-1,0⟩ [] ([97,110,100,107,32,114,50,32,114,49,32]++Lib.itoa ((m:Int)-1)),.ins ⟨1,3,0,0,0,0,1,0⟩ [] ([99,111,110,115,116,32,114,51,32,49]),.ins ⟨21,4,2,3,0,1,0,-1⟩ [] ([97,119,97,105,116,32,114,52,32,49,32,114,50,32,101,113,32,114,51]),.ins ⟨12,0,0,0,0,0,2,0⟩ [] ([109,97,114,107,32,50]),.ins ⟨17,0,2,0,0,1,0,0⟩ [] ([115,116,111,114,101,32,49,32,114,50,32,114,48]),.ins ⟨13,0,0,0,0,0,1,0⟩ [] ([100,111,110,101,32,49]),.lab [117,110,108,111,99,107],.ins ⟨3,2,1,0,0,0,1,0⟩ [] ([97,100,100,107,32,114,50,32,114,49,32,49]),.ins ⟨4,2,2,0,0,0,(m:Int)-1,0⟩ [] ([97,110,100,107,32,114,50,32,114,50,32]++Lib.itoa ((m:Int)-1)),.ins ⟨1,3,0,0,0,0,1,0⟩ [] ([99,111,110,115,116,32,114,51,32,49]),.ins ⟨17,0,2,3,0,1,0,0⟩ [] ([115,116,111,114,101,32,49,32,114,50,32,114,51]),.ins ⟨12,0,0,0,0,0,4,0⟩ [] ([109,97,114,107,32,52]),.ins ⟨13,0,0,0,0,0,2,0⟩ [] ([100,111,110,101,32,50])]
def dN (m:Nat):List UInt8:=[108,111,99,107,58,10,102,97,100,100,32,114,49,32,48,32,114,48,32,49,10,109,97,114,107,32,49,10,97,110,100,107,32,114,50,32,114,49,32]++Lib.itoa ((m:Int)-1)++[10,99,111,110,115,116,32,114,51,32,49,10,97,119,97,105,116,32,114,52,32,49,32,114,50,32,101,113,32,114,51,10,109,97,114,107,32,50,10,115,116,111,114,101,32,49,32,114,50,32,114,48,10,100,111,110,101,32,49,10,117,110,108,111,99,107,58,10,97,100,100,107,32,114,50,32,114,49,32,49,10,97,110,100,107,32,114,50,32,114,50,32]++Lib.itoa ((m:Int)-1)++[10,99,111,110,115,116,32,114,51,32,49,10,115,116,111,114,101,32,49,32,114,50,32,114,51,10,109,97,114,107,32,52,10,100,111,110,101,32,50,10]
theorem Bh (m:Nat):((iS m).map uj.text).flatMap (fun s=>s++[10])=dN m:=by
 unfold iS dN
 simp[uj.text]
theorem CE {m:Nat}(hs:dj m):(0:Int)<=(m:Int)-1/\(m:Int)-1<4294967296:=by have:=fc hs;omega
theorem ib:Lib.itoa 0=[48]:=by
 unfold Lib.itoa
 rw[if_neg (by decide)]
 show Lib.decDigits 0=_
 rw[Lib.decDigits,dif_pos (by decide)]
 rfl
theorem jx:Lib.itoa 1=[49]:=by
 unfold Lib.itoa
 rw[if_neg (by decide)]
 show Lib.decDigits 1=_
 rw[Lib.decDigits,dif_pos (by decide)]
 rfl
theorem lC:Lib.itoa 2=[50]:=by
 unfold Lib.itoa
 rw[if_neg (by decide)]
 show Lib.decDigits 2=_
 rw[Lib.decDigits,dif_pos (by decide)]
 rfl
theorem wv:Lib.itoa 3=[51]:=by
 unfold Lib.itoa
 rw[if_neg (by decide)]
 show Lib.decDigits 3=_
 rw[Lib.decDigits,dif_pos (by decide)]
 rfl
theorem BS:Lib.itoa 4=[52]:=by
 unfold Lib.itoa
 rw[if_neg (by decide)]
 show Lib.decDigits 4=_
 rw[Lib.decDigits,dif_pos (by decide)]
 rfl
theorem Bg (m:Nat)(hs:dj m):∀ t∈iS m,t.Ok/\Nl t.text:=by
 have hb:=CE hs
 intro t ht
 simp only[iS,List.mem_cons,List.not_mem_nil,or_false] at ht
 rcases ht with rfl|rfl|rfl|rfl|rfl|rfl|rfl|rfl|rfl|rfl|rfl|rfl|rfl|rfl|rfl|rfl
 ·exact tI _ (by decide)
 ·exact cY _ _ (by decide) (by decide) (by decide) (by first | decide | rfl) (by simp[af,az,aW,cX,bE,aY,ib,jx])
 ·exact cY _ _ (by decide) (by decide) (by decide) (by first | decide | rfl) (by simp[af,az,aW,cX,bE,aY,ib,jx])
 ·exact cY _ _ (by rcases hs with rfl|rfl|rfl|rfl|rfl|rfl|rfl <;> decide) (hb.1) (hb.2) (by first | decide | rfl) (by simp[af,az,aW,cX,bE,aY,ib,jx,lC])
 ·exact cY _ _ (by decide) (by decide) (by decide) (by first | decide | rfl) (by simp[af,az,aW,cX,bE,aY,ib,jx,wv])
 ·exact cY _ _ (by decide) (by decide) (by decide) (by first | decide | rfl) (by simp[af,az,aW,cX,bE,aY,jx,lC,wv,BS])
 ·exact cY _ _ (by decide) (by decide) (by decide) (by first | decide | rfl) (by simp[af,az,aW,cX,bE,aY,ib,lC])
 ·exact cY _ _ (by decide) (by decide) (by decide) (by first | decide | rfl) (by simp[af,az,aW,cX,bE,aY,ib,jx,lC])
 ·exact cY _ _ (by decide) (by decide) (by decide) (by first | decide | rfl) (by simp[af,az,aW,cX,bE,aY,ib,jx])
 ·exact tI _ (by decide)
 ·exact cY _ _ (by decide) (by decide) (by decide) (by first | decide | rfl) (by simp[af,az,aW,cX,bE,aY,ib,jx,lC])
 ·exact cY _ _ (by rcases hs with rfl|rfl|rfl|rfl|rfl|rfl|rfl <;> decide) (hb.1) (hb.2) (by first | decide | rfl) (by simp[af,az,aW,cX,bE,aY,ib,lC])
 ·exact cY _ _ (by decide) (by decide) (by decide) (by first | decide | rfl) (by simp[af,az,aW,cX,bE,aY,ib,jx,wv])
 ·exact cY _ _ (by decide) (by decide) (by decide) (by first | decide | rfl) (by simp[af,az,aW,cX,bE,aY,ib,jx,lC,wv])
 ·exact cY _ _ (by decide) (by decide) (by decide) (by first | decide | rfl) (by simp[af,az,aW,cX,bE,aY,ib,BS])
 ·exact cY _ _ (by decide) (by decide) (by decide) (by first | decide | rfl) (by simp[af,az,aW,cX,bE,aY,ib,lC])
theorem zh (m:Nat)(hs:dj m):eF (dN m)=(BT m,0,0):=by
 rw[<-Bh m]
 exact yq (BT m) (iS m) 14 (by decide) (Bg m hs) (by unfold iS;simp only[iQ];decide) rfl rfl (by show _=(0:Int);unfold iS;simp only[iZ];decide) (by show _=(8:Int);unfold iS;simp only[iZ];decide) (by show (0:Int)<=0;decide) (by show (0:Int)<=8;decide)
theorem qU (m:Nat)(hs:dj m):(dN m).length<80000:=by
 rcases hs with rfl|rfl|rfl|rfl|rfl|rfl|rfl <;> (unfold dN;simp[Lib.itoa,Lib.decDigits])
end
section
open Go.ChangeShapes Go.WideShapes Go.ChangeAt Go.RowKit
theorem D8 (i:aM)(w:World):
 Calls Tryz.prog 110 #[iv i] w fun e w'=>e=.returned (.bool (dh i))/\Below w.heap.size w w':=by
 have HX:Hid (dh i=((decide (8<=i.op) && decide (i.op<=10)) || (decide (i.op=21) && decide (0<=i.pl)))):=D rfl
 generalize dh i=r at *
 obtain⟨op,d,s,t,u,a,k,pl⟩:=i
 unfold iv
 simp only at HX ⊢
 have k1:=Bk.made w 127 #[I Q op,I Q d,I Q s,I Q t,I Q u,I Q a,I O k,I Q pl]
 have b0:Below w.heap.size w (w.alloc (E #[I Q op,I Q d,I Q s,I Q t,I Q u,I Q a,I O k,I Q pl] 127)):=(C _ _).alloc (M _) _
 go_enter Tryz.func110,Tryz.ntmps110
 go_upto_region 1 with fail
 generalize w.alloc (E #[I Q op,I Q d,I Q s,I Q t,I Q u,I Q a,I O k,I Q pl] 127)=x at *
 obtain⟨c0,c7⟩:x.cell? ⟨w.heap.size,0,Z⟩=P (I Q op)/\x.cell? ⟨w.heap.size,7,Z⟩=P (I Q pl):=⟨k1.cell 0,k1.cell 7⟩
 by_cases h1:8<=op
 ·by_cases h2:op<=10
  ·have HQ:Hid (r=U):=D (by rw[HX.out];simp[h1,h2])
   clear HX
   go_wp2
   go_ret
   exact⟨by rw[HQ.out];rfl,b0⟩
  ·by_cases h3:op=21
   ·have e3:(op==21)=U:=by simpa using h3
    by_cases h4:0<=pl
    ·have HQ:Hid (r=U):=D (by rw[HX.out];simp[h3,h4])
     subst h3
     clear HX
     go_wp2
     go_ret
     exact⟨by rw[HQ.out];rfl,b0⟩
    ·have HQ:Hid (r=S):=D (by rw[HX.out];simp[h2,h4])
     subst h3
     clear HX
     go_wp2
     go_ret
     exact⟨by rw[HQ.out];rfl,b0⟩
   ·have e3:(op==21)=S:=by simpa using h3
    have HQ:Hid (r=S):=D (by rw[HX.out];simp[h2,h3])
    clear HX h3
    go_wp2
    go_ret
    exact⟨by rw[HQ.out];rfl,b0⟩
 ·have h3:¬ op=21:=by omega
  have e3:(op==21)=S:=by simpa using h3
  have HQ:Hid (r=S):=D (by rw[HX.out];simp[h1,h3])
  clear HX h3
  go_wp2
  go_ret
  exact⟨by rw[HQ.out];rfl,b0⟩
theorem yF (s:List UInt8)(f:UInt8->Bool)(n:Nat)(h:n<s.length):(s.drop n).all f=(f (s.getD n 0) && (s.drop (n+1)).all f):=by
 rw[List.drop_eq_getElem_cons h,List.all_cons]
 simp[List.getD_eq_getElem?_getD,h]
theorem tJ (s:List UInt8)(w:World):
 Calls Tryz.prog 67 #[bs s] w fun e w'=>e=.returned (.bool (cJ s))/\w'=w:=by
 have HX:Hid (cJ s=(decide (1<=s.length) && (decide (s.length<=16) && (mr (s.getD 0 0) && s.all fun c=>mr c || digB c)))):=D rfl
 generalize cJ s=r at *
 unfold bs
 by_cases h1:1<=s.length
 ·have i1:¬ (s.length:Int)<1:=by omega
  by_cases h2:s.length<=16
  ·have i2:¬ (16:Int)<s.length:=by omega
   have hix:=fun W=>eD s 0 (by omega) W
   simp only[Int.natCast_zero] at hix
   have HL:Hid (mr (s.getD 0 0)=(decide (97<=(s.getD 0 0).toNat) && decide ((s.getD 0 0).toNat<=122))):=D rfl
   generalize (s.getD 0 0)=c0 at *
   by_cases h3:97<=c0.toNat
   ·by_cases h4:c0.toNat<=122
    ·have HR:Hid (r=(s.drop 0).all fun c=>mr c || digB c):=D (by rw[HX.out,HL.out];simp[h1,h2,h3,h4])
     clear HX HL
     generalize c0.toNat=q0 at *
     have z1:¬ (q0:Int)<97:=by omega
     have z2:¬ (122:Int)<q0:=by omega
     go_enter Tryz.func67,Tryz.ntmps67
     go_wp2
     clear hix z1 z2
     go_loopw [2,3] (fun v i wr=>∃ n:Nat,v=.bool S/\i=I Q n/\n<=s.length/\wr=w/\Hid (r=(s.drop n).all fun c=>mr c || digB c)) (fun _ i _=>s.length-(intOf i).toNat)
     case atStart=>exact⟨0,rfl,rfl,by omega,rfl,HR⟩
     case round=>
      obtain⟨n,rfl,rfl,hn,rfl,HA⟩:=hrel
      by_cases hlt:n<s.length
      ·have hii:(n:Int)<s.length:=by omega
       have hix:=fun W=>eD s n hlt W
       have HD:=D (yF s (fun c=>mr c || digB c) n hlt)
       have HL:Hid ((mr (s.getD n 0) || digB (s.getD n 0))=((decide (97<=(s.getD n 0).toNat) && decide ((s.getD n 0).toNat<=122)) || (decide (48<=(s.getD n 0).toNat) && decide ((s.getD n 0).toNat<=57)))):=D rfl
       generalize s.getD n 0=ch at *
       simp only[HL.out] at HD
       clear HL
       generalize ch.toNat=c at *
       by_cases y1:(97<=c/\c<=122)\/(48<=c/\c<=57)
       ·have HB:Hid (r=(s.drop (n+1)).all fun c=>mr c || digB c):=D (by
         rw[HA.out,HD.out]
         rcases y1 with ⟨a,b⟩ | ⟨a,b⟩ <;> simp[a,b])
        clear HA HD
        rcases y1 with ⟨a,b⟩ | ⟨a,b⟩
        ·have z1:(97:Int)<=c:=by omega
         have z2:(c:Int)<=122:=by omega
         go_wp2
         all_goals (
          go_roundw
          case rel=>exact⟨n+1,rfl,by go_num,by omega,by trivial,HB⟩
          case measure=>
           show s.length-((n:Int)+1).toNat<s.length-(n:Int).toNat
           omega)
        ·have z1:¬ (97:Int)<=c:=by omega
         have z2:(48:Int)<=c:=by omega
         have z3:(c:Int)<=57:=by omega
         go_wp2
         all_goals (
          go_roundw
          case rel=>exact⟨n+1,rfl,by go_num,by omega,by trivial,HB⟩
          case measure=>
           show s.length-((n:Int)+1).toNat<s.length-(n:Int).toNat
           omega)
       ·have HB:Hid (r=S):=D (by
         rw[HA.out,HD.out]
         have:((decide (97<=c) && decide (c<=122)) || (decide (48<=c) && decide (c<=57)))=S:=by
          simp only[Bool.or_eq_false_iff,Bool.and_eq_false_iff,decide_eq_false_iff_not]
          omega
         rw[this];rfl)
        clear HA HD
        by_cases z1:(97:Int)<=c
        ·have z2:¬ (c:Int)<=122:=by omega
         have z3:(48:Int)<=c:=by omega
         have z4:¬ (c:Int)<=57:=by omega
         clear y1
         go_wp2
         go_ret
         exact⟨by rw[HB.out];rfl,rfl⟩
        ·by_cases z3:(48:Int)<=c
         ·have z4:¬ (c:Int)<=57:=by omega
          clear y1
          go_wp2
          go_ret
          exact⟨by rw[HB.out];rfl,rfl⟩
         ·clear y1
          go_wp2
          go_ret
          exact⟨by rw[HB.out];rfl,rfl⟩
      ·have hii:¬ (n:Int)<s.length:=by omega
       have HB:Hid (r=U):=D (by rw[HA.out,List.drop_eq_nil_of_le (by omega)];rfl)
       clear HA
       go_wp2
       go_ret
       exact⟨by rw[HB.out];rfl,rfl⟩
    ·have HR:Hid (r=S):=D (by rw[HX.out,HL.out];simp[h4])
     clear HX HL
     generalize c0.toNat=q0 at *
     have z1:¬ (q0:Int)<97:=by omega
     have z2:(122:Int)<q0:=by omega
     go_enter Tryz.func67,Tryz.ntmps67
     go_wp2
     go_ret
     exact⟨by rw[HR.out];rfl,rfl⟩
   ·have HR:Hid (r=S):=D (by rw[HX.out,HL.out];simp[h3])
    clear HX HL
    generalize c0.toNat=q0 at *
    have z1:(q0:Int)<97:=by omega
    go_enter Tryz.func67,Tryz.ntmps67
    go_wp2
    go_ret
    exact⟨by rw[HR.out];rfl,rfl⟩
  ·have i2:(16:Int)<s.length:=by omega
   have HR:Hid (r=S):=D (by rw[HX.out];simp[h2])
   clear HX
   go_enter Tryz.func67,Tryz.ntmps67
   go_wp2
   go_ret
   exact⟨by rw[HR.out];rfl,rfl⟩
 ·have i1:(s.length:Int)<1:=by omega
  have HR:Hid (r=S):=D (by rw[HX.out];simp[h1])
  clear HX
  go_enter Tryz.func67,Tryz.ntmps67
  go_wp2
  go_ret
  exact⟨by rw[HR.out];rfl,rfl⟩
end
section
def wG (m:Nat)(st:Int):List Int:=st :: Dl m (st % m).toNat U
section
variable {n m:Nat}{st:Int}
theorem jZ:(wG m st).length=m+1:=by simp[wG,zX]
theorem Bl (h0:0<=st)(h1:st<4294967296):fz (wG m st):=by
 intro x hx
 unfold wG Dl at hx
 simp only[List.mem_cons,List.mem_map] at hx
 rcases hx with rfl | ⟨i,_,rfl⟩
 ·exact⟨h0,h1⟩
 ·split <;> omega
theorem yB (hs:dj m):pK (BT m)=U:=by
 rcases hs with rfl|rfl|rfl|rfl|rfl|rfl|rfl <;> decide
theorem Dc (hs:dj m):∀ i∈(BT m).l,0<=i.k/\i.k<4294967296:=by
 rcases hs with rfl|rfl|rfl|rfl|rfl|rfl|rfl <;> decide
theorem yz (hs:dj m):dO [1,(m:Int)]:=by
 have hb:=fc hs
 refine⟨by show 2<=8;omega,?_⟩
 intro k hk
 have:k=0\/k=1:=by simp at hk;omega
 rcases this with rfl|rfl
 ·show 0<=(1:Int)/\(1:Int)<=4096;decide
 ·show 0<=(m:Int)/\(m:Int)<=4096;omega
theorem ze (hs:dj m):jf [1,(m:Int)]=m+1:=by
 rcases hs with rfl|rfl|rfl|rfl|rfl|rfl|rfl <;> decide
theorem ED (hs:dj m)(h1:1<=n)(h64:n<=64):lu (Do n m):=
 ⟨yB hs,Dc hs,yz hs,by have:=fc hs;show jf [1,(m:Int)]<=8192;rw[ze hs];omega,h1,h64,by show 0<=8;omega⟩
section
variable (hs:dj m)(hm:n<=m)(g1:1<=n)(hn:n<=64)(h0:0<=st)(h1:st<4294967296)
include hs hm g1 hn h0 h1
end
end
end
section
open Go.RowKit
def dX:List UInt8:=[77,65,83,75]
def tD:List UInt8:=[108,111,99,107,58,10,102,97,100,100,32,114,49,32,48,32,114,48,32,49,10,109,97,114,107,32,49,10,97,110,100,107,32,114,50,32,114,49,32]
def tC:List UInt8:=List.append [10,99,111,110,115,116,32,114,51,32,49,10,97,119,97,105,116,32,114,52,32,49,32,114,50,32,101,113,32,114,51,10,109,97,114,107,32,50,10,115,116,111,114,101,32,49] [32,114,50,32,114,48,10,100,111,110,101,32,49,10,117,110,108,111,99,107,58,10,97,100,100,107,32,114,50,32,114,49,32,49,10,97,110,100,107,32,114,50,32,114,50,32]
def tB:List UInt8:=[10,99,111,110,115,116,32,114,51,32,49,10,115,116,111,114,101,32,49,32,114,50,32,114,51,10,109,97,114,107,32,52,10,100,111,110,101,32,50,10]
def ic:List UInt8:=tD++dX++tC++dX++tB
theorem qT (m:Nat):dN m=tD++Lib.itoa ((m:Int)-1)++tC++Lib.itoa ((m:Int)-1)++tB:=rfl
theorem EG:Lib.index ic dX=(39:Nat):=by decide +kernel
theorem EF:Lib.index (ic.drop 43) dX=(92:Nat):=by decide +kernel
theorem qW:Lib.count ic dX=2:=by decide +kernel
theorem Da (new:List UInt8)(h:(dX==new)=S):Lib.replaceAll ic dX new=tD++new++tC++new++tB:=by
 unfold Lib.replaceAll Lib.replace Lib.replaceNum
 rw[h,if_neg (by decide),if_pos (.inl (by decide)),qW,Lib.replaceK_hit dX new 1 ic 39 EG]
 rw[show 39+dX.length=43 from rfl,Lib.replaceK_hit dX new 0 (ic.drop 43) 92 EF]
 rw[show ic.take 39=tD by decide +kernel,show (ic.drop 43).take 92=tC by decide +kernel,show (ic.drop 43).drop (92+dX.length)=tB by decide +kernel]
 rw[Lib.replaceK]
 simp only[List.append_assoc]
theorem vT {m:Nat}(hs:dj m):(dX==Lib.itoa ((m:Int)-1))=S:=by
 rcases hs with rfl|rfl|rfl|rfl|rfl|rfl|rfl <;> simp[dX,Lib.itoa,Lib.decDigits]
def wJ (m:Int):Prop:=m=1\/m=2\/m=4\/m=8\/m=16\/m=32\/m=64
instance (m:Int):Decidable (wJ m):=by unfold wJ;infer_instance
theorem Cl {m:Int}(h:wJ m):∃ k:Nat,m=k/\dj k:=by
 refine⟨m.toNat,?_,?_⟩
 ·unfold wJ at h;omega
 ·unfold wJ at h;unfold dj;omega
def Ff (n m:Int):Prop:=(1<=n/\n<=64)/\n<=m/\wJ m
end
section
open Go.ChangeShapes Go.WideShapes Go.ChangeAt Go.RowKit
def zJ (w:World)(a:Option Addr)(ls:List (List UInt8×Int)):Prop:=∀ j x,ls[j]?=P x->∃ g,a=P ⟨g,0,Z⟩/\g<w.heap.size/\w.cell? ⟨g,j*2,Z⟩=P (bs x.1)/\w.cell? ⟨g,j*2+1,Z⟩=P (I Q x.2)
theorem zJ.below {w w':World}{a:Option Addr}{ls:List (List UInt8×Int)}(h:zJ w a ls)(hb:Below w.heap.size w w'):zJ w' a ls:=fun j x hx=>by
 obtain⟨g,e,h1,h2,h3⟩:=h j x hx
 exact⟨g,e,Nat.lt_of_lt_of_le h1 hb.size,(hb.cell (p:=⟨g,j*2,Z⟩) h1).trans h2,(hb.cell (p:=⟨g,j*2+1,Z⟩) h1).trans h3⟩
theorem su (ls:List (List UInt8×Int))(s:List UInt8)(n:Int)(j:Nat)(h:j<ls.length):bd (ls.drop j) s n=if (ls[j].1==s && decide (ls[j].2<n))=U then ls[j].2 else bd (ls.drop (j+1)) s n:=by
 unfold bd
 rw[List.drop_eq_getElem_cons h,List.find?_cons]
 cases (ls[j].1==s && decide (ls[j].2<n)) <;> simp
theorem sZ (ls:List (List UInt8×Int))(s:List UInt8)(n:Int)(a:Option Addr)(cap:Nat)(w:World)(ha:zJ w a ls)(hl:ls.length<=1000000):
 Calls Tryz.prog 69 #[H a ls.length cap,bs s,I Q n] w fun e w'=>e=.returned (I Q (bd ls s n))/\Below w.heap.size w w':=by
 have HR:Hid (bd ls s n=bd (ls.drop 0) s n):=D rfl
 have HS:=D (fun j h=>su ls s n j h)
 have HE:Hid (∀ j,¬ j<ls.length->bd (ls.drop j) s n=-1):=D fun j h=>by rw[List.drop_eq_nil_of_le (by omega)];rfl
 generalize bd ls s n=r at *
 unfold bs
 go_enter Tryz.func69,Tryz.ntmps69
 go_wp2
 go_loopw [6,11] (fun v i wr=>∃ j:Nat,v=I Q 0/\i=I Q j/\j<=ls.length/\Below w.heap.size w wr/\Hid (r=bd (ls.drop j) s n)) (fun _ i _=>ls.length-(intOf i).toNat)
 case atStart=>exact⟨0,rfl,rfl,Nat.zero_le _,C _ _,HR⟩
 case round=>
  clear HR
  obtain⟨j,rfl,rfl,hj,hb,HR⟩:=hrel
  by_cases hlt:j<ls.length
  ·have hji:(j:Int)<ls.length:=by omega
   obtain⟨g,rfl,hgl,e0,e1⟩:=(ha.below hb) j _ (List.getElem?_eq_getElem hlt)
   have HD:=D (HS.out j hlt)
   generalize ls[j]=x at *
   obtain⟨nm,at_⟩:=x
   simp only at e0 e1 HD
   unfold bs at e0
   go_upto_region 4 with fail
   have k1:=Bk.made wr 149 #[.string ⟨nm.toArray⟩,I Q at_]
   replace hb:=hb.alloc (o:=E #[.string ⟨nm.toArray⟩,I Q at_] 149) hb.size
   generalize wr.heap.size=q at *
   generalize wr.alloc (E #[.string ⟨nm.toArray⟩,I Q at_] 149)=y at *
   clear e0 e1
   obtain⟨y0,y1⟩:=k1.FN
   cases h1:(nm==s) with
   | true=>
    by_cases h2:at_<n
    ·have HQ:Hid (r=at_):=D (by rw[HR.out,HD.out,h1];simp[h2])
     obtain rfl:nm=s:=by simpa using h1
     clear HD HR HS HE h1
     go_wp2
     go_ret
     exact⟨by rw[HQ.out];rfl,hb⟩
    ·have HQ:Hid (r=bd (ls.drop (j+1)) s n):=D (by rw[HR.out,HD.out,h1];simp[h2])
     obtain rfl:nm=s:=by simpa using h1
     clear HD HR HS HE h1
     go_wp2
     go_roundw
     case rel=>exact⟨j+1,rfl,by go_num,by omega,hb,HQ⟩
     case measure=>
      show ls.length-((j:Int)+1).toNat<ls.length-(j:Int).toNat
      omega
   | false=>
    have HQ:Hid (r=bd (ls.drop (j+1)) s n):=D (by rw[HR.out,HD.out,h1];simp)
    clear HD HR HS HE
    go_wp2
    go_roundw
    case rel=>exact⟨j+1,rfl,by go_num,by omega,hb,HQ⟩
    case measure=>
     show ls.length-((j:Int)+1).toNat<ls.length-(j:Int).toNat
     omega
  ·have hji:¬ (j:Int)<ls.length:=by omega
   have HQ:Hid (r=-1):=D (by rw[HR.out,HE.out j hlt])
   clear HR HS HE
   go_wp2
   go_ret
   exact⟨by rw[HQ.out];rfl,hb⟩
theorem C3:Builder.Extra Tryz.prog Tryz.lays155_ren where
 sizeBuilder:=by kernel_rfl
 liesBuilder:=by kernel_rfl
 t5:=Tryz.lays155.t5
 a5:=Tryz.lays155.a5
 z5:=Tryz.lays155.z5
 v5:=Tryz.lays155.v5
 infoByte:=by kernel_rfl
 cellsByte:=by kernel_rfl
 sizeByte:=by kernel_rfl
 neB5:=by decide
theorem sU (new:List UInt8)(hn:new.length<=30)(h:(dX==new)=S)(w:World)(L:Lb w):
 Calls Tryz.prog 34 #[bs ic,bs dX,bs new] w fun e w'=>e=.returned (bs (tD++new++tC++new++tB))/\Below w.heap.size w w':=by
 obtain⟨m,hm⟩:=L.mx
 have hc:Lib.countB ⟨ic.toArray⟩ ⟨dX.toArray⟩=2:=qW
 have h1:(⟨new.toArray⟩:ByteArray).size=new.length:=by simp[ByteArray.size]
 have h2:(⟨ic.toArray⟩:ByteArray).size=179:=rfl
 have h9:=Any.strings_ReplaceAll Tryz.lays155 C3 ⟨ic.toArray⟩ ⟨dX.toArray⟩ ⟨new.toArray⟩ m w (by rw[h2];omega) hm (by decide) (by rw[hc,h1,h2];omega)
 simp only[Da new h] at h9
 exact h9
theorem xF {m:Nat}(hs:dj m):(Lib.itoa ((m:Int)-1)).length<=30:=by
 have hb:=fc hs
 exact jN _ (by omega) (by omega)
theorem yx (m:Nat)(hs:dj m)(w:World)(L:Lb w):
 Calls Tryz.prog 13 #[I Q m] w fun e w'=>e=.returned (bs (dN m))/\Below w.heap.size w w':=by
 have hb:=fc hs
 have HI:=D (BN ((m:Int)-1) (by omega) (by omega) w L)
 have HR:=D (fun V (hV:Below w.heap.size w V)=>sU (Lib.itoa ((m:Int)-1)) (xF hs) (vT hs) V (L.below hV))
 have HT:=D (qT m)
 generalize Lib.itoa ((m:Int)-1)=d at *
 clear hs L
 go_enter Tryz.func13,Tryz.ntmps13
 go_wp2_with fail
 refine HI.out.mono ?_
 rintro e y ⟨rfl,hy⟩
 go_wp2_with fail
 refine(HR.out y hy).mono ?_
 rintro e z ⟨rfl,hz⟩
 have hf:=hy.trans (hz.mono hy.size)
 clear HI HR hy hz
 rw[<-HT.out]
 unfold bs
 go_wp2
 go_ret
 exact⟨rfl,hf⟩
theorem yw (m:Nat)(hs:dj m)(w:World):
 Calls Tryz.prog 14 #[I Q m] w fun e w'=>e=.returned (bs (dN m))/\Below w.heap.size w w':=by
 have hb:=fc hs
 obtain⟨p,hp⟩:∃ p:Nat,(m:Int)-1=(p:Int):=⟨m-1,by omega⟩
 have hp2:p<5000000000:=by omega
 have HI:=D (pf p w hp2)
 have HT:=D (qT m)
 rw[hp,aE] at HT
 have hl:=cg p hp2
 generalize Lib.decDigits p=d at *
 obtain⟨z1,g1,c1,b1,l1⟩:=bz tD d 39 30 (by decide) hl
 obtain⟨z2,g2,c2,b2,l2⟩:=bz z1 tC 69 92 l1 (by decide)
 obtain⟨z3,g3,c3,b3,l3⟩:=bz z2 d 161 30 l2 hl
 obtain⟨z4,g4,c4,b4,l4⟩:=bz z3 tB 191 40 l3 (by decide)
 rw[<-g1,<-g2,<-g3,<-g4] at HT
 have HC:=D (And.intro c2 (And.intro c3 c4))
 clear hs g1 g2 g3 g4 c2 c3 c4
 rw[show dN m=_ from HT.out]
 clear HT
 go_enter Tryz.func14,Tryz.ntmps14
 go_wp2_with fail
 refine HI.out.mono ?_
 rintro e y ⟨rfl,hy⟩
 unfold bs
 clear HI
 unfold tD at c1
 unfold tD at b1
 unfold tC at b2
 unfold tB at b4
 go_wp2
 go_ret
 obtain⟨c2,c3,c4⟩:=HC.out
 refine⟨?_,hy⟩
 show Ending.returned (.string ((((⟨z1.toArray⟩:ByteArray)++⟨tC.toArray⟩)++⟨d.toArray⟩)++⟨tB.toArray⟩))=_
 rw[c2,c3,c4]
 rfl
theorem yv (m q:Nat):List.replicate m (0:Int)=Dl m q S:=by
 apply List.ext_getElem?
 intro i
 unfold Dl
 rw[List.getElem?_replicate,List.getElem?_map]
 by_cases h:i<m <;> simp[h]
theorem zg {m p:Nat}(st:Int)(hp:p<m):((List.replicate (m+1) 0).set 0 st).set (1+p) 1=st :: Dl m p U:=by
 rw[List.replicate_succ,List.set_cons_zero,yv m p,zW st hp]
theorem De {m:Nat}(hs:dj m){st:Int}(h0:0<=st)(h1:st<4294967296):bits .and .u32 st ((m:Int)-1)=st % m:=by
 have hb:=fc hs
 have h:=vS hs h0
 unfold kX at h
 rw[u32_and st ((m:Int)-1) h0 h1 (by omega) (by omega)]
 exact h
theorem yC (m:Nat)(hs:dj m)(st:Int)(h0:0<=st)(h1:st<4294967296)(w:World):
 Calls Tryz.prog 29 #[I Q m,I O st] w fun e w'=>∃ v,e=.returned v/\jk (wG m st) v w'/\Below w.heap.size w w':=by
 have hb:=fc hs
 obtain⟨p,hp⟩:∃ p:Nat,st % (m:Int)=(p:Int):=⟨(st % m).toNat,by have:=Int.emod_nonneg st (show (m:Int)≠0 by omega);omega⟩
 have hpm:p<m:=by have:=Int.emod_lt_of_pos st (show (0:Int)<m by omega);omega
 have hand:=De hs h0 h1
 rw[hp] at hand
 have HI:Hid (wG m st=((List.replicate (m+1) 0).set 0 st).set (1+p) 1):=D (by rw[zg st hpm];unfold wG;rw[hp];rfl)
 have hmk:∀ W:World,(Instr.makeSlice 27 (I Q (1+(m:Int))) (I Q (1+(m:Int)))).run Tryz.prog W=.ok (H (P ⟨W.heap.size,0,Z⟩) (m+1) (m+1)) (W.alloc (E (words (List.replicate (m+1) 0)) 22)):=fun W=>by rw[show 1+(m:Int)=((m+1:Nat):Int) by omega,<-gU];exact iK (m+1) (by omega) W
 have q0:=Bk.made w 22 (words (List.replicate (m+1) 0))
 have b0:Below w.heap.size w (w.alloc (E (words (List.replicate (m+1) 0)) 22)):=(C _ _).alloc (M _) _
 clear hs hp
 go_enter Tryz.func29,Tryz.ntmps29
 go_upto_region 2 with fail
 generalize w.alloc (E (words (List.replicate (m+1) 0)) 22)=y at *
 have q1:=q0.put 0 (I O st)
 rw[fL] at q1
 have q2:=q1.put (1+p) (I O 1)
 rw[fL,<-HI.out] at q2
 have b2:Below w.heap.size w ((y.setCell ⟨w.heap.size,0,Z⟩ (I O st)).setCell ⟨w.heap.size,1+p,Z⟩ (I O 1)):=(b0.setCell (M _) _).setCell (M _) _
 have HQ:=D (And.intro q2 b2)
 have y0:y.cell? ⟨w.heap.size,0,Z⟩=P (I O 0):=by rw[q0.cell];exact fm _ 0 (by simp)
 have zf:=Bk.free q0
 have y1:(y.setCell ⟨w.heap.size,0,Z⟩ (I O st)).cell? ⟨w.heap.size,1+p,Z⟩=P (I O (aG ((List.replicate (m+1) 0).set 0 st) (1+p))):=by rw[q1.cell];exact fm _ _ (by simp;omega)
 have zf1:=Bk.free q1
 clear q0 q1 q2 b0 b2
 go_upto_region 3 with fail
 clear y0 zf
 generalize y.setCell ⟨w.heap.size,0,Z⟩ (I O st)=x at *
 have HL:=D (jZ (m:=m) (st:=st))
 clear HI
 go_wp2
 go_ret
 obtain⟨k1,k2⟩:=HQ.out
 exact⟨H (P ⟨w.heap.size,0,Z⟩) (m+1) (m+1),rfl,⟨w.heap.size,by rw[HL.out],k1⟩,k2⟩
theorem zV {m:Nat}(h:dj m):wJ (m:Int):=by unfold dj at h;unfold wJ;omega
theorem AC:∀ k:_root_.Fin 65,1<=(k:Nat)->((bits .and .i64 ((k:Nat):Int) (((k:Nat):Int)-1)==0)=decide (wJ ((k:Nat):Int))):=by decide +kernel
theorem ug (m:Int)(w:World):Calls Tryz.prog 27 #[I Q m] w fun e w'=>e=.returned (.bool (decide (wJ m)))/\w=w':=by
 by_cases h1:1<=m
 ·by_cases h2:m<=64
  ·obtain⟨k,rfl⟩:∃ k:Nat,m=k:=⟨m.toNat,by omega⟩
   have hk:=AC ⟨k,by omega⟩ (by show 1<=k;omega)
   simp only at hk
   go_enter Tryz.func27,Tryz.ntmps27
   go_wp2
   go_ret
   exact⟨rfl,rfl⟩
  ·have hf:¬ wJ m:=by unfold wJ;omega
   rw[decide_eq_false hf]
   clear hf
   go_enter Tryz.func27,Tryz.ntmps27
   go_wp2
   go_ret
   exact⟨rfl,rfl⟩
 ·have hf:¬ wJ m:=by unfold wJ;omega
  rw[decide_eq_false hf]
  clear hf
  go_enter Tryz.func27,Tryz.ntmps27
  go_wp2
  go_ret
  exact⟨rfl,rfl⟩
theorem yy (N m:Nat)(st:Int)(w:World)(hs:dj m)(h1:1<=N)(hm:N<=m)(h64:N<=64)(h0:0<=st)(h2:st<4294967296)
 (HT:∀ V,Below w.heap.size w V->Calls Tryz.prog 13 #[I Q m] V fun e w'=>e=.returned (bs (dN m))/\Below V.heap.size V w')
 (HA:∀ V,Below w.heap.size w V->Calls Tryz.prog 28 #[bs (dN m)] V (zB (BT m) V)):
 Calls Tryz.prog 8 #[I Q N,I Q m,I O st] w fun e w'=>∃ v,e=.returned (.tuple #[v,I Q 0])/\Sv w' v (BT m) [1,(m:Int)] (wG m st) (gp N) 0/\Below w.heap.size w w':=by
 have hb:=fc hs
 have HAA:=D HA
 have HTT:=D HT
 have HCC:=D (fun V=>yC m hs st h0 h2 V)
 have HMM:=D (fun V=>ug (m:Int) V)
 have hsz:decide (wJ (m:Int))=U:=decide_eq_true (zV hs)
 unfold zB at HAA
 rw[hsz] at HMM
 have HL:=D (jZ (m:=m) (st:=st))
 have HR:=D (kh N)
 have HMK:Hid (∀ W:World,(Instr.makeSlice 27 (I Q N) (I Q N)).run Tryz.prog W=.ok (H (P ⟨W.heap.size,0,Z⟩) N N) (W.alloc (E (words (gp N)) 22))):=D (fun W=>by rw[iK N (by omega) W,i7];rfl)
 generalize BT m=c at *
 generalize bs (dN m)=tx at *
 generalize wG m st=ii at *
 generalize gp N=rr at *
 have hb1:Below w.heap.size w (w.alloc (E #[H Z 0 0,I Q 0,I Q 0,H Z 0 0,H Z 0 0,I Q 0,H Z 0 0] 29)):=(C _ _).alloc (M _) _
 have q0:=Bk.made w 29 #[H Z 0 0,I Q 0,I Q 0,H Z 0 0,H Z 0 0,I Q 0,H Z 0 0]
 clear HA HT hs hsz
 go_enter Tryz.func8,Tryz.ntmps8
 go_upto_region 1 with fail
 generalize w.alloc (E #[H Z 0 0,I Q 0,I Q 0,H Z 0 0,H Z 0 0,I Q 0,H Z 0 0] 29)=y at *
 go_wp2_with fail
 refine(HMM.out y).mono ?_
 rintro e y1 ⟨rfl,rfl⟩
 go_wp2_with fail
 refine(HTT.out y hb1).mono ?_
 rintro e y2 ⟨rfl,hy2⟩
 have hb2:=hb1.trans (hy2.mono hb1.size)
 have q00:=(hy2.block _ (Bk.lt q0)).trans q0
 go_wp2_with fail
 refine(HAA.out y2 hb2).mono ?_
 rintro e z ⟨v,rfl,⟨sl,rfl,hO⟩,hz⟩
 obtain⟨aL,cL,rfl,hcl⟩:=bp hO
 have q1:=(hz.block _ (Bk.lt q00)).trans q00
 have b1:=hb2.trans (hz.mono hb2.size)
 have q2:=Bk.made z 25 #[H aL c.l.length cL,I Q c.lo,I Q c.un]
 have hza:Below z.heap.size z (z.alloc (E #[H aL c.l.length cL,I Q c.lo,I Q c.un] 25)):=(C _ _).alloc (M _) _
 replace q1:Bk _ w.heap.size 29 #[H Z 0 0,I Q 0,I Q 0,H Z 0 0,H Z 0 0,I Q 0,H Z 0 0]:=(hza.block _ (Bk.lt q1)).trans q1
 replace b1:=b1.trans (hza.mono b1.size)
 have hO2:=World.ownsRow.mono (base':=y.heap.size) (dG hO hza) hy2.size
 obtain⟨zb,hzb⟩:∃ zb,z.heap.size=zb:=⟨_,rfl⟩
 rw[hzb] at q2
 go_upto_region 4 with fail
 try rw[hzb]
 generalize z.alloc (E #[H aL c.l.length cL,I Q c.lo,I Q c.un] 25)=x at *
 have HQ:Hid (∀ W,Below x.heap.size x W->Bk W zb 25 #[H aL c.l.length cL,I Q c.lo,I Q c.un]/\Bk W w.heap.size 29 #[H Z 0 0,I Q 0,I Q 0,H Z 0 0,H Z 0 0,I Q 0,H Z 0 0]/\Below w.heap.size w W/\W.ownsRow y.heap.size 121 8 (H aL c.l.length cL) c.l.length (bD c.l)):=D fun W hW=>⟨(hW.block _ (Bk.lt q2)).trans q2,(hW.block _ (Bk.lt q1)).trans q1,b1.trans (hW.mono b1.size),dG hO2 hW⟩
 clear hO hO2 hza hz hb1 hb2 hy2 q0 q00 q1 q2 b1 hzb HAA HTT HMM hcl
 refine cG [9] (fun j W=>match j with | 0=>Below x.heap.size x W | _=>∃ v,wI aL cL c [1,(m:Int)] ii rr 0 v W/\(∃ cs,v=.agg cs/\Bk W w.heap.size 29 cs)/\Below w.heap.size w W/\W.ownsRow y.heap.size 121 8 (H aL c.l.length cL) c.l.length (bD c.l)) (fun _ W W2=>ab W W2 (fun i=>i=w.heap.size)/\∃ cs,Bk W w.heap.size 29 cs) (fun vs=>{ tmps:=#[I Q (N:Int),I Q (m:Int),I O st,X,X,X,G (P ⟨w.heap.size,0,Z⟩),vs 10,G (P ⟨zb,0,Z⟩),I Q 0,I Q 0,I Q (N:Int),.bool (decide ((N:Int)<1)),.bool (decide ((N:Int)<1)),I Q (N:Int),.bool (decide (64<(N:Int))),.bool (decide ((N:Int)<1) || decide (64<(N:Int))),.bool (decide ((N:Int)<1) || decide (64<(N:Int))),I Q (m:Int),.bool U,.bool S,.bool (decide ((N:Int)<1) || decide (64<(N:Int))),.bool (decide ((N:Int)<1) || decide (64<(N:Int))),I Q (m:Int),I Q (N:Int),.bool S,.bool (decide ((N:Int)<1) || decide (64<(N:Int))),X,.tuple #[.agg #[H aL c.l.length cL,I Q c.lo,I Q c.un],I Q 0,I Q 0],I Q (m:Int),tx,.tuple #[.agg #[H aL c.l.length cL,I Q c.lo,I Q c.un],I Q 0,I Q 0],.agg #[H aL c.l.length cL,I Q c.lo,I Q c.un],I Q 0,I Q 0,vs 0,vs 1,vs 2,vs 3,vs 4,vs 5,vs 6,vs 7,vs 8],defers:=[] }) (lq [(2,oF [1,(m:Int)]),(5,jk ii),(7,jk rr),(8,wI aL cL c [1,(m:Int)] ii rr 0)] [.agg #[H aL c.l.length cL,I Q c.lo,I Q c.un],I Q (m:Int),X,I Q (m:Int),I O st,X,I Q (N:Int),X,X,X,I Q 0]) ?ghm ?ghr ?ghc ?ghnd ?ghlit ?gh0 ?ghW ?ghF ?ghS ?gops ?gdone
 case ghm=>kernel_rfl
 case ghr=>kernel_rfl
 case ghc=>kernel_rfl
 case ghnd=>decide
 case ghlit=>intro vs;rfl
 case gh0=>exact C _ _
 case ghW=>exact fun kk W W2 h hb=>match kk,h with
  | 0,h=>h.trans (hb.mono h.size)
  | _+1,⟨v,h1,⟨cs,h2,h3⟩,h4,h5⟩=>⟨v,h1.below hb,⟨cs,h2,(hb.block _ (Bk.lt h3)).trans h3⟩,h4.trans (hb.mono h4.size),dG h5 hb⟩
 case ghF=>exact dy (by
  intro p0 hp
  simp only[List.mem_cons,List.not_mem_nil,or_false] at hp
  rcases hp with rfl|rfl|rfl|rfl
  ·exact fun v W W2 h hb=>oF.below h hb
  ·exact fun v W W2 h hb=>jk.below h hb
  ·exact fun v W W2 h hb=>jk.below h hb
  ·exact fun v W W2 h hb=>wI.below h hb)
 case ghS=>exact fun kk W W2 _ hs i v h=>gK (R:=fun W W2=>ab W W2 (fun i=>i=w.heap.size)/\∃ cs,Bk W w.heap.size 29 cs) (ps:=[(2,oF [1,(m:Int)]),(5,jk ii),(7,jk rr),(8,wI aL cL c [1,(m:Int)] ii rr 0)] ) (l:=[.agg #[H aL c.l.length cL,I Q c.lo,I Q c.un],I Q (m:Int),X,I Q (m:Int),I O st,X,I Q (N:Int),X,X,X,I Q 0]) (by
  intro p0 hp
  simp only[List.mem_cons,List.not_mem_nil,or_false] at hp
  rcases hp with rfl|rfl|rfl|rfl
  ·rintro v W W2 h ⟨hw,cs,hb⟩;exact oF.within h hw (by rintro b rfl;exact⟨_,_,hb,by decide,by decide⟩)
  ·rintro v W W2 h ⟨hw,cs,hb⟩;exact jk.within h hw (by rintro b rfl;exact⟨_,_,hb,by decide,by decide⟩)
  ·rintro v W W2 h ⟨hw,cs,hb⟩;exact jk.within h hw (by rintro b rfl;exact⟨_,_,hb,by decide,by decide⟩)
  ·rintro v W W2 h ⟨hw,cs,hb⟩;exact wI.within h hw (by rintro b rfl;exact⟨_,_,hb,by decide,by decide⟩)) i v W W2 h hs
 case gops=>
  refine⟨?_,?_,?_,?_,?_,?_,?_,?_,?_,?_,?_,trivial⟩
  ·intro vs W kk h1 h2 hW hd
   obtain rfl:kk=0:=Nat.le_zero.1 h2
   refine aa rfl ?_
   have hq:=(HQ.out W hW).1
   obtain⟨y0,y1,y2⟩:=hq.kY
   clear hq
   clear hd
   go_simp
   exact⟨rfl,C _ _⟩
  ·intro vs W kk h1 h2 hW hd
   obtain rfl:kk=0:=Nat.le_zero.1 h2
   refine aa rfl ?_
   clear hd
   go_simp
   exact⟨rfl,C _ _⟩
  ·intro vs W kk h1 h2 hW hd
   obtain rfl:kk=0:=Nat.le_zero.1 h2
   refine aa rfl ?_
   have e1:vs 1=I Q (m:Int):=hd 1 (by decide)
   clear hd
   go_simp
   exact⟨⟨_,rfl,Bk.made W _ _⟩,(C _ _).alloc (M _) _⟩
  ·intro vs W kk h1 h2 hW hd
   obtain rfl:kk=0:=Nat.le_zero.1 h2
   refine aa rfl ?_
   clear hd
   go_simp
   exact⟨rfl,C _ _⟩
  ·intro vs W kk h1 h2 hW hd
   obtain rfl:kk=0:=Nat.le_zero.1 h2
   refine aa rfl ?_
   clear hd
   go_simp
   exact⟨rfl,C _ _⟩
  ·intro vs W kk h1 h2 hW hd
   obtain rfl:kk=0:=Nat.le_zero.1 h2
   refine aa rfl ?_
   have e3:vs 3=I Q (m:Int):=hd 3 (by decide)
   have e4:vs 4=I O st:=hd 4 (by decide)
   have HV:=D (HCC.out W)
   clear hd
   go_simp
   refine HV.out.mono ?_
   rintro e zz ⟨v9,rfl,h5,h6⟩
   exact⟨_,rfl,h5,h6⟩
  ·intro vs W kk h1 h2 hW hd
   obtain rfl:kk=0:=Nat.le_zero.1 h2
   refine aa rfl ?_
   clear hd
   go_simp
   exact⟨rfl,C _ _⟩
  ·intro vs W kk h1 h2 hW hd
   obtain rfl:kk=0:=Nat.le_zero.1 h2
   refine aa rfl ?_
   have e6:vs 6=I Q (N:Int):=hd 6 (by decide)
   have hmk:=HMK.out W
   clear hd
   go_simp
   try simp only[hmk]
   have hrr:=HR.out
   exact⟨⟨_,by rw[hrr],Bk.made W _ _⟩,(C _ _).alloc (M _) _⟩
  ·intro vs W kk h1 h2 hW hd
   obtain rfl:kk=0:=Nat.le_zero.1 h2
   refine aa rfl ?_
   have e0:vs 0=.agg #[H aL c.l.length cL,I Q c.lo,I Q c.un]:=hd 0 (by decide)
   obtain⟨d1,e2,k1⟩:oF [1,(m:Int)] (vs 2) W:=hd 2 (by decide)
   obtain⟨d2,e5,k2⟩:jk ii (vs 5) W:=hd 5 (by decide)
   obtain⟨d3,e7,k3⟩:jk rr (vs 7) W:=hd 7 (by decide)
   clear hd
   go_simp
   exact⟨⟨d1,d2,d3,rfl,k1,k2,k3⟩,C _ _⟩
  ·intro vs W hW hd
   have hsp:wI aL cL c [1,(m:Int)] ii rr 0 (vs 8) W:=hd 8 (by decide)
   obtain⟨d1,d2,d3,e8,k1,k2,k3⟩:=id hsp
   rw[show ([1,(m:Int)]:List Int).length=2 from rfl] at e8
   obtain⟨-,hq,hbw,hown⟩:=HQ.out W hW
   obtain⟨y0,y1,y2,y3,y4,y5,y6⟩:=hq.Bq
   have zf:=Bk.free hq
   have hw7:=kR (y:=W) (g:=w.heap.size) (H aL c.l.length cL) (I Q c.lo) (I Q c.un) (H (P ⟨d1,0,Z⟩) 2 2) (H (P ⟨d2,0,Z⟩) ii.length ii.length) (I Q 0) (H (P ⟨d3,0,Z⟩) rr.length rr.length)
   have hk7:=lR hq (H aL c.l.length cL) (I Q c.lo) (I Q c.un) (H (P ⟨d1,0,Z⟩) 2 2) (H (P ⟨d2,0,Z⟩) ii.length ii.length) (I Q 0) (H (P ⟨d3,0,Z⟩) rr.length rr.length)
   have hb7:=gS hbw (M _) (H aL c.l.length cL) (I Q c.lo) (I Q c.un) (H (P ⟨d1,0,Z⟩) 2 2) (H (P ⟨d2,0,Z⟩) ii.length ii.length) (I Q 0) (H (P ⟨d3,0,Z⟩) rr.length rr.length)
   rw[e8] at hsp
   have hs7:=wI.within hsp hw7 (by rintro b rfl;exact⟨_,_,hq,by decide,by decide⟩)
   have ho7:=mV hown hw7 hq (by decide)
   have HKK:=D (And.intro hs7 (And.intro hk7 (And.intro hb7 (And.intro ho7 (And.intro hw7 hq)))))
   refine aO rfl ?_
   clear hd hsp hs7 hk7 hb7 ho7 hw7 hq hbw hown k1 k2 k3
   go_simp
   exact⟨rfl,⟨_,HKK.out.1,⟨_,rfl,HKK.out.2.1⟩,HKK.out.2.2.1,HKK.out.2.2.2.1⟩,HKK.out.2.2.2.2.1,_,HKK.out.2.2.2.2.2⟩
  ·intro vs W kk h1 h2 hW hd
   refine aa rfl ?_
   clear hd
   go_simp
   exact⟨rfl,C _ _⟩
 case gdone=>
  intro vs W hW hf
  have f0:vs 0=.agg #[H aL c.l.length cL,I Q c.lo,I Q c.un]:=hf 0 (by decide)
  have f1:vs 1=I Q (m:Int):=hf 1 (by decide)
  have f3:vs 3=I Q (m:Int):=hf 3 (by decide)
  have f4:vs 4=I O st:=hf 4 (by decide)
  have f6:vs 6=I Q (N:Int):=hf 6 (by decide)
  have f10:vs 10=I Q 0:=hf 10 (by decide)
  simp only[f0,f1,f3,f4,f6,f10]
  clear f0 f1 f3 f4 f6 f10
  obtain⟨v,hsp,⟨cs,hcs,hq⟩,hbw,hown⟩:∃ v,wI aL cL c [1,(m:Int)] ii rr 0 v W/\(∃ cs,v=.agg cs/\Bk W w.heap.size 29 cs)/\Below w.heap.size w W/\W.ownsRow y.heap.size 121 8 (H aL c.l.length cL) c.l.length (bD c.l):=hW
  obtain⟨d1,d2,d3,rfl,k1,k2,k3⟩:=id hsp
  injection hcs with hcs
  subst hcs
  generalize vs 2=r2 at *
  generalize vs 5=r5 at *
  generalize vs 7=r7 at *
  generalize vs 8=r8 at *
  clear hf HQ
  have hfin:=hsp.sv hown (by simp[maxLen]) (by rw[HL.out];unfold maxLen;omega) (by rw[HR.out];unfold maxLen;omega)
  rw[show ([1,(m:Int)]:List Int).length=2 from rfl] at hq hfin
  obtain⟨y0,y1,y2,y3,y4,y5,y6⟩:=hq.Bq
  have HF:=D (And.intro hfin hbw)
  clear hq hfin hbw hown hsp k1 k2 k3
  go_wp
  exact bodyPost_ret (v:=.tuple #[.agg #[H aL c.l.length cL,I Q c.lo,I Q c.un,H (P ⟨d1,0,Z⟩) 2 2,H (P ⟨d2,0,Z⟩) ii.length ii.length,I Q 0,H (P ⟨d3,0,Z⟩) rr.length rr.length],I Q 0]) (by simp[results,Tryz.results8,go_sem,y0,y1,y2,y3,y4,y5,y6]) rfl ⟨_,rfl,HF.out.1,HF.out.2⟩
end
