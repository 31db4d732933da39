import Derived.Test.YtieiifdhdjhnoaaDoorPMem
import Derived.Test.YtieiifdhdjhnoaaDoorPFlow
import Derived.Test.YtieiifdhdjhnoaaDoorPInstP
import Derived.Test.YtieiifdhdjhnoaaDoorPRuI
import Derived.Laws.RangeAny
import Derived.Lib.OthersKept
import Derived.BigRegionIn
import Derived.Deep.DeepCutAuto
set_option linter.unusedVariables false
set_option maxHeartbeats 4000000
set_option maxRecDepth 100000
open Go.Value renaming int->I,slice->U,pointer->H
open Go.IntKind renaming i64->Q
open Option renaming none->O,some->Z
open Bool renaming false->P,true->S
open Go.Obj renaming cells->G
open Go.Lib renaming hid->E
open Go.RowKit.Below renaming refl->D
open Nat renaming le_refl->C
open Go renaming undef->L
namespace Go.Proofs.YtieiifdhdjhnoaaDoor
section
def l5 (c:UInt8):Bool:=decide (97<=c.toNat) && decide (c.toNat<=122)
def digB (c:UInt8):Bool:=decide (48<=c.toNat) && decide (c.toNat<=57)
def aW (s:List UInt8):Bool:=decide (1<=s.length) && (decide (s.length<=16) && (l5 (s.getD 0 0) && s.all fun c=>l5 c || digB c))
def bk (i:ay):Bool:=(decide (8<=i.op) && decide (i.op<=10)) || (decide (i.op=21) && decide (0<=i.pl))
def bx (i:ay):Bool:=decide (i.op=8\/i.op=9\/i.op=10) || (decide (i.op=21) && decide (i.pl≠-1))
def kT (n:Nat)(c:UInt8):Bool:=l5 c || (digB c && decide (n≠0))
def dr:List UInt8->Nat->Bool
 | [],_=>S
 | c :: r,n=>kT n c && dr r (n+1)
theorem gT:∀ (s:List UInt8) (n:Nat),0<n->dr s n=s.all fun c=>l5 c || digB c
 | [],_,_=>rfl
 | c :: r,n,h=>by
  have hn:decide (n≠0)=S:=by simpa using Nat.ne_of_gt h
  rw[dr,gT r (n+1) (by omega),List.all_cons,kT,hn,Bool.and_true]
theorem jS (s:List UInt8)(h0:1<=s.length)(h1:s.length<=16):aW s=dr s 0:=by
 cases s with
 | nil=>simp at h0
 | cons c r=>
  unfold aW
  rw[dr,gT r 1 (by omega)]
  simp only[h0,h1,decide_true,Bool.true_and,List.getD_cons_zero,List.all_cons,kT]
  cases l5 c <;> simp
theorem ic (ws:List (List UInt8)):0<=(ap ws).k/\(ap ws).k<4294967296:=by
 have hk:0<=jF ws.tail/\jF ws.tail<4294967296:=by unfold jF;split <;> omega
 unfold ap ci
 generalize jF ws.tail=k at *
 repeat' split
 all_goals (simp only;omega)
def jE (s:List UInt8):Option ay:=if ej s=S then Z (ap (ab s)) else O
theorem cU (s:List UInt8)(i:ay):jE s=Z i↔ag i 1073741824=S/\0<=i.k/\i.k<4294967296/\aa i=s:=by
 unfold jE
 constructor
 ·intro h
  split at h
  ·rename_i hp
   injection h with h
   subst h
   have hp2:=hp
   unfold ej at hp2
   simp only[Bool.and_eq_true,decide_eq_true_eq] at hp2
   exact⟨hp2.2.1,(ic _).1,(ic _).2,hp2.2.2⟩
  ·cases h
 ·rintro⟨hr,k0,k1,rfl⟩
  rw[if_pos (gv i hr k0 k1),(dX i hr k0 k1).2]
def ct (s:List UInt8):List UInt8:=(ab s).getLastD []
def bU (s:List UInt8):List UInt8:=s.take (s.length-(ct s).length)
def bT (s:List UInt8):Option (ay×List UInt8):=
 match jE (bU s++[48]) with
 | some i=>if bk i=S/\aW (ct s)=S then Z (i,ct s)
  else match jE s with
   | some j=>if bk j=S then O else Z (j,[])
   | none=>O
 | none=>match jE s with
  | some j=>if bk j=S then O else Z (j,[])
  | none=>O
def lY (s:List UInt8):Bool:=!s.isEmpty && (decide (s.getLastD 0=58) && aW s.dropLast)
def aC:List UInt8->List (List UInt8)
 | []=>[[]]
 | c :: r=>if c=10 then [] :: aC r else dv c (aC r)
def gn:List (List UInt8)->Int->List (List UInt8×Int)->List (ay×List UInt8×Int)->(Int×Int) ⊕ (List (List UInt8×Int)×List (ay×List UInt8×Int))
 | [],_,ls,rs=>.inr (ls,rs)
 | s :: more,n,ls,rs=>
  if lY s=S then
   if (ls.any fun x=>x.1==s.dropLast)=S then .inl (n,2) else gn more (n+1) (ls++[(s.dropLast,(rs.length:Int))]) rs
  else match bT s with
   | none=>.inl (n,8)
   | some (i,nm)=>if 64<=rs.length then .inl (n,9) else gn more (n+1) ls (rs++[(i,nm,n)])
def aJ (ls:List (List UInt8×Int))(s:List UInt8)(n:Int):Int:=
 match ls.find? fun x=>x.1==s && decide (x.2<n) with
 | some x=>x.2
 | none=>-1
def cx (ls:List (List UInt8×Int))(n:Int):List (ay×List UInt8×Int)->(Int×Int) ⊕ List ay
 | []=>.inr []
 | (i,nm,row) :: more=>
  if nm=[] then
   match cx ls n more with
   | .inl e=>.inl e
   | .inr l=>.inr (i :: l)
  else if aJ ls nm n<0 then .inl (row,10)
  else match cx ls n more with
   | .inl e=>.inl e
   | .inr l=>.inr ({ i with pl:=aJ ls nm n } :: l)
def cM:List UInt8:=[108,111,99,107]
def bv:List UInt8:=[117,110,108,111,99,107]
def dE (text:List UInt8):cF×Int×Int:=
 match gn (aC text).dropLast 1 [] [] with
 | .inl (n,e)=>(cF.zero,n,e)
 | .inr (ls,rs)=>
  if (aC text).getLastD []≠[] then (cF.zero,((aC text).length:Int),8)
  else match cx ls rs.length rs with
   | .inl (n,e)=>(cF.zero,n,e)
   | .inr l=>if aJ ls cM rs.length<0\/aJ ls bv rs.length<0 then (cF.zero,0,10)
    else (⟨l,aJ ls cM rs.length,aJ ls bv rs.length⟩,0,0)
def bz (i:ay):List UInt8:=aT i.op++aj i (bc i.op).dropLast++(if i.op=21 then [32,101,108,115,101,32] else [32])
theorem kI (c:UInt8)(a b:List (List UInt8))(h:a≠[]):dv c (a++b)=dv c a++b:=by
 cases a with
 | nil=>exact absurd rfl h
 | cons x y=>rfl
theorem fd (s:List UInt8):ab s≠[]:=by
 have:=cZ s
 intro h
 rw[h] at this
 simp at this
theorem bX:∀ (a b:List UInt8),ab (a++32 :: b)=ab a++ab b
 | [],b=>by simp[ab]
 | c :: a,b=>by
  have ih:=bX a b
  show ab (c :: (a++32 :: b))=_
  by_cases hc:c=32
  ·rw[ab,if_pos hc,ih,ab,if_pos hc];rfl
  ·rw[ab,if_neg hc,ih,ab,if_neg hc,kI _ _ _ (fd a)]
theorem dK (a b:List UInt8)(h:Bf b):ct (a++32 :: b)=b:=by
 unfold ct
 rw[bX,aU b h]
 simp
theorem dM (a b:List UInt8)(h:Bf b):bU (a++32 :: b)=a++[32]:=by
 unfold bU
 rw[dK a b h]
 have e:(a++32 :: b).length-b.length=(a++[32]).length:=by simp;omega
 have e2:a++32 :: b=(a++[32])++b:=by simp
 rw[e,e2,List.take_left]
theorem fZ {s:List UInt8}(h:aW s=S):Bf s:=by
 unfold aW at h
 simp only[Bool.and_eq_true] at h
 intro c hc e
 have:=List.all_eq_true.1 h.2.2.2 c hc
 subst e
 revert this
 decide
theorem mn {s:List UInt8}(h:aW s=S):s≠[]:=by
 rintro rfl
 revert h
 decide
theorem ew (op:Int)(h:bc op≠[]):bZ (aT op) 23=op:=by
 rcases aZ op with rfl|rfl|rfl|rfl|rfl|rfl|rfl|rfl|rfl|rfl|rfl|rfl|rfl|rfl|rfl|rfl|rfl|rfl|rfl|rfl|rfl | hn
 all_goals first | decide | exact absurd (bA hn).1 h
theorem dw {i:ay}{p:Int}(h:ag i p=S):bc i.op≠[]:=by
 unfold ag at h
 simp only[Bool.and_eq_true,Bool.not_eq_true',List.isEmpty_eq_false_iff] at h
 exact h.1
theorem ni {i j:ay}{p q:Int}(hi:ag i p=S)(hj:ag j q=S)(h:aT i.op=aT j.op):i.op=j.op:=by
 rw[<-ew i.op (dw hi),h,ew j.op (dw hj)]
theorem nY (op:Int):Bf (aT op):=by
 rcases aZ op with rfl|rfl|rfl|rfl|rfl|rfl|rfl|rfl|rfl|rfl|rfl|rfl|rfl|rfl|rfl|rfl|rfl|rfl|rfl|rfl|rfl | hn
 all_goals first | (unfold Bf;decide) | (rw[(bA hn).2];unfold Bf;simp)
theorem eu {i:ay}{p q:Int}(hq:p<=q)(h:ag i p=S):ag i q=S:=by
 unfold ag at *
 simp only[Bool.and_eq_true,List.all_eq_true] at *
 refine⟨h.1,fun c hc=>?_,h.2.2⟩
 have:=h.2.1 c hc
 unfold fC br at *
 simp only[Bool.and_eq_true,decide_eq_true_eq] at *
 refine⟨this.1,?_⟩
 have h2:=this.2
 generalize (c.toNat:Int)=x at *
 generalize au i x=y at *
 repeat' split at h2
 all_goals first | (simp_all;done) | (simp_all;omega)
theorem cA {i:ay}(h:bk i=S):i.op=8\/i.op=9\/i.op=10\/(i.op=21/\0<=i.pl):=by
 unfold bk at h
 simp only[Bool.or_eq_true,Bool.and_eq_true,decide_eq_true_eq] at h
 omega
theorem lj (i:ay)(h:bk i=S)(p:Int):bz { i with pl:=p }=bz i:=by
 obtain⟨op,d,s,t,u,a,k,pl⟩:=i
 rcases cA h with e | e | e | ⟨e,e2⟩ <;> (simp only at e;subst e;simp[bz,bc,aj,ar,au])
theorem jI (i:ay)(h:bk i=S)(h0:0<=i.pl):aa i=bz i++Lib.itoa i.pl:=by
 obtain⟨op,d,s,t,u,a,k,pl⟩:=i
 rcases cA h with e | e | e | ⟨e,e2⟩
 ·simp only at e;subst e;simp[aa,bz,bc,aj,ar,au]
 ·simp only at e;subst e;simp[aa,bz,bc,aj,ar,au]
 ·simp only at e;subst e;simp[aa,bz,bc,aj,ar,au]
 ·simp only at e e2
  subst e
  have hne:pl≠-1:=by omega
  simp[aa,bz,bc,aj,ar,au,hne]
theorem fs (i:ay):∃ a,bz i=a++[32]:=by
 unfold bz
 split
 ·exact⟨aT i.op++aj i (bc i.op).dropLast++[32,101,108,115,101],by simp⟩
 ·exact⟨aT i.op++aj i (bc i.op).dropLast,rfl⟩
theorem ix {i:ay}{p q:Int}(hr:ag i p=S)(h:bk i=S)(hq:0<q):ag { i with pl:=0 } q=S:=by
 obtain⟨op,d,s,t,u,a,k,pl⟩:=i
 unfold ag at *
 rcases cA h with e | e | e | ⟨e,e2⟩ <;> (simp only at e;subst e;simp[bc,fC,bD,br,au,gB,fD,aO] at hr ⊢)
 ·refine⟨⟨hr.1.1,hr.1.2.1,hq⟩,hr.2⟩
 ·refine⟨⟨hr.1.1,hr.1.2.1,hq⟩,hr.2⟩
 ·refine⟨hq,hr.2⟩
 ·obtain⟨⟨q1,q2,q3,q4,q5,q6⟩,q7⟩:=hr
  refine⟨⟨q1,q2,q3,q4,q5,?_⟩,q7⟩
  split <;> omega
theorem ft {i:ay}(h:bk i=S):bk { i with pl:=0 }=S:=by
 unfold bk at *
 simp only[Bool.or_eq_true,Bool.and_eq_true,decide_eq_true_eq] at *
 omega
theorem jZ:Lib.itoa 0=[48]:=by
 rw[show (0:Int)=((0:Nat):Int) from rfl,aw,Lib.decDigits,dif_pos (by decide)]
 rfl
theorem jV (i:ay){p:Int}(hr:ag i p=S)(hp:p<=1073741824)(k0:0<=i.k)(k1:i.k<4294967296)(h:bk i=S)(nm:List UInt8)(hn:aW nm=S):
 bT (bz i++nm)=Z ({ i with pl:=0 },nm):=by
 obtain⟨a,ha⟩:=fs i
 have hs:bz i++nm=a++32 :: nm:=by rw[ha];simp
 have h1:ct (bz i++nm)=nm:=by rw[hs];exact dK a nm (fZ hn)
 have h2:bU (bz i++nm)=bz i:=by rw[hs,dM a nm (fZ hn),ha]
 have h3:jE (bz i++[48])=Z { i with pl:=0 }:=by
  rw[cU]
  refine⟨ix hr h (by decide),k0,k1,?_⟩
  rw[jI _ (ft h) (Int.le_refl 0),lj i h 0]
  show bz i++Lib.itoa 0=_
  rw[jZ]
 unfold bT
 rw[h2,h3,h1]
 simp only
 rw[if_pos ⟨ft h,hn⟩]
theorem dd:∀ s:List UInt8,Bf s\/∃ a b,Bf b/\s=a++32 :: b
 | []=>.inl (by unfold Bf;simp)
 | c :: r=>by
  rcases dd r with h | ⟨a,b,hb,rfl⟩
  ·by_cases hc:c=32
   ·exact .inr ⟨[],r,h,by rw[hc];rfl⟩
   ·refine .inl fun x hx=>?_
    rcases List.mem_cons.1 hx with rfl | hx
    ·exact hc
    ·exact h x hx
  ·exact .inr ⟨c :: a,b,hb,rfl⟩
theorem em {i:ay}{p:Int}(hr:ag i p=S):∃ r,aa i=aT i.op++32 :: r:=by
 have hh:=dw hr
 obtain⟨op,d,s,t,u,a,k,pl⟩:=i
 simp only at hh
 rcases aZ op with rfl|rfl|rfl|rfl|rfl|rfl|rfl|rfl|rfl|rfl|rfl|rfl|rfl|rfl|rfl|rfl|rfl|rfl|rfl|rfl|rfl | hn
 all_goals first
  | exact absurd (bA hn).1 hh
  | (unfold aa aj;simp only[bc];simp[ar,au])
theorem ff {i:ay}{p:Int}(hr:ag i p=S):(ab (aa i)).head?=Z (aT i.op):=by
 obtain⟨r,h⟩:=em hr
 rw[h,bX,aU _ (nY _)]
 rfl
theorem eo {i:ay}{p:Int}(hr:ag i p=S)(hp:p<=1073741824)(k0:0<=i.k)(k1:i.k<4294967296)(h:i.op=21):(i.pl=-1/\(ab (aa i)).length=6)\/(0<=i.pl/\(ab (aa i)).length=8):=by
 obtain⟨hd,hs,ht,hu,ha⟩:=da i _ hr
 obtain⟨op,d,s,t,u,a,k,pl⟩:=i
 simp only at hd hs ht hu ha k0 k1 h
 subst h
 have hr2:=eu hp hr
 have hr3:=eL d s t u a k pl 1073741824 hd hs ht hu ha k0 k1
 rw[hr2] at hr3
 simp[bw] at hr3
 obtain⟨dn,rfl⟩:∃ n:Nat,d=n:=⟨d.toNat,by omega⟩
 obtain⟨sn,rfl⟩:∃ n:Nat,s=n:=⟨s.toNat,by omega⟩
 obtain⟨tn,rfl⟩:∃ n:Nat,t=n:=⟨t.toNat,by omega⟩
 obtain⟨un,rfl⟩:∃ n:Nat,u=n:=⟨u.toNat,by omega⟩
 obtain⟨an,rfl⟩:∃ n:Nat,a=n:=⟨a.toNat,by omega⟩
 obtain⟨kn,rfl⟩:∃ n:Nat,k=n:=⟨k.toNat,by omega⟩
 obtain rfl:un=0:=by omega
 by_cases hm:pl=-1
 ·subst hm
  refine .inl ⟨rfl,?_⟩
  by_cases hk:kn=0
  ·subst hk
   exact congrArg List.length (co dn sn tn an 0)
  ·obtain rfl:kn=1:=by omega
   exact congrArg List.length (ck dn sn tn an 0)
 ·obtain⟨pn,rfl⟩:∃ n:Nat,pl=n:=⟨pl.toNat,by omega⟩
  refine .inr ⟨by simp,?_⟩
  by_cases hk:kn=0
  ·subst hk
   exact congrArg List.length (cm dn sn tn an pn)
  ·obtain rfl:kn=1:=by omega
   exact congrArg List.length (cj dn sn tn an pn)
theorem jT (i:ay){p:Int}(hr:ag i p=S)(hp:p<=1073741824)(k0:0<=i.k)(k1:i.k<4294967296)(h:bk i=P):bT (aa i)=Z (i,[]):=by
 have hr2:=eu hp hr
 have h0:jE (aa i)=Z i:=(cU _ _).2 ⟨hr2,k0,k1,rfl⟩
 unfold bT
 cases hj:jE (bU (aa i)++[48]) with
 | none=>simp only[h0,h];rfl
 | some j=>
  simp only
  rw[if_neg,h0]
  ·simp only[h];rfl
  ·rintro⟨hg,-⟩
   obtain⟨jr,j0,j1,jt⟩:=(cU _ _).1 hj
   rcases dd (aa i) with hb | ⟨a,b,hb,hs⟩
   ·obtain⟨r,hr3⟩:=em hr
    rw[hr3] at hb
    exact hb 32 (by simp) rfl
   ·rw[hs,dM a b hb] at jt
    have jt2:aa j=a++32 :: [48]:=by rw[jt];simp
    have w1:ab (aa i)=ab a++[b]:=by rw[hs,bX,aU b hb]
    have w2:ab (aa j)=ab a++[[48]]:=by rw[jt2,bX,aU [48] (by simp)]
    have e1:=ff hr
    have e2:=ff jr
    rw[w1] at e1
    rw[w2] at e2
    have hop:i.op=j.op:=by
     refine ni hr jr ?_
     cases hw:ab a with
     | nil=>exact absurd hw (fd a)
     | cons x y=>
      rw[hw] at e1 e2
      simp at e1 e2
      rw[<-e1,<-e2]
    rcases cA hg with e | e | e | ⟨e,e3⟩
    ·unfold bk at h;rw[hop,e] at h;revert h;simp
    ·unfold bk at h;rw[hop,e] at h;revert h;simp
    ·unfold bk at h;rw[hop,e] at h;revert h;simp
    ·have c1:=eo hr hp k0 k1 (hop.trans e)
     have c2:=eo jr (Int.le_refl _) j0 j1 e
     rw[w1] at c1
     rw[w2] at c2
     simp only[List.length_append,List.length_cons,List.length_nil] at c1 c2
     have:¬ 0<=i.pl:=by
      unfold bk at h
      rw[hop,e] at h
      simp at h
      omega
     omega
theorem mY {s a b:List UInt8}(h:s=a++32 :: b)(hb:b≠[]):lY s=P:=by
 rw[Bool.eq_false_iff]
 intro hl
 unfold lY at hl
 simp only[Bool.and_eq_true] at hl
 have hn:=fZ hl.2.2
 refine hn 32 ?_ rfl
 rw[h,List.dropLast_append_of_ne_nil (by simp)]
 cases b with
 | nil=>exact absurd rfl hb
 | cons x y=>simp
theorem nk {s:List UInt8}(h:aW s=S):lY (s++[58])=S:=by
 unfold lY
 simp[h]
inductive jh where
 | lab (nm:List UInt8)
 | ins (i:ay) (nm s:List UInt8)
def jh.text:jh->List UInt8
 | .lab nm=>nm++[58]
 | .ins _ _ s=>s
def jh.Ok:jh->Prop
 | .lab nm=>aW nm=S
 | .ins i nm s=>lY s=P/\bT s=Z (i,nm)
def cX:List jh->Int->List (List UInt8×Int)
 | [],_=>[]
 | .lab nm :: m,k=>(nm,k) :: cX m k
 | .ins _ _ _ :: m,k=>cX m (k+1)
def cK:List jh->Int->List (ay×List UInt8×Int)
 | [],_=>[]
 | .lab _ :: m,n=>cK m (n+1)
 | .ins i nm _ :: m,n=>(i,nm,n) :: cK m (n+1)
def cQ:List jh->List (List UInt8)
 | []=>[]
 | .lab nm :: m=>nm :: cQ m
 | .ins _ _ _ :: m=>cQ m
theorem dQ:∀ (toks:List jh) (n:Int) (ls:List (List UInt8×Int)) (rs:List (ay×List UInt8×Int)),(∀ t∈toks,t.Ok)->(ls.map (·.1)++cQ toks).Nodup->rs.length+(cK toks n).length<=64->
 gn (toks.map jh.text) n ls rs=.inr (ls++cX toks rs.length,rs++cK toks n)
 | [],n,ls,rs,_,_,_=>by simp[gn,cX,cK]
 | .lab nm :: m,n,ls,rs,hok,hnd,hc=>by
  have h1:aW nm=S:=hok _ List.mem_cons_self
  have hany:(ls.any fun x=>x.1==nm)=P:=by
   rw[Bool.eq_false_iff]
   intro h
   obtain⟨x,hx,he⟩:=List.any_eq_true.1 h
   have he2:x.1=nm:=by simpa using he
   have:=(List.nodup_append.1 hnd).2.2 x.1 (List.mem_map.2 ⟨x,hx,rfl⟩) nm (by simp[cQ])
   exact this he2
  have ih:=dQ m (n+1) (ls++[(nm,(rs.length:Int))]) rs (fun t ht=>hok t (List.mem_cons_of_mem _ ht)) (by simpa [cQ] using hnd) (by simpa [cK] using hc)
  simp only[List.map_cons,jh.text,gn,nk h1,if_pos,List.dropLast_concat,hany]
  rw[if_neg (by decide),ih]
  simp[cX,cK]
 | .ins i nm s :: m,n,ls,rs,hok,hnd,hc=>by
  obtain⟨h1,h2⟩:lY s=P/\bT s=Z (i,nm):=hok _ List.mem_cons_self
  have hc2:rs.length+((cK m (n+1)).length+1)<=64:=by simpa [cK] using hc
  have ih:=dQ m (n+1) ls (rs++[(i,nm,n)]) (fun t ht=>hok t (List.mem_cons_of_mem _ ht)) (by simpa [cQ] using hnd) (by simp;omega)
  simp only[List.map_cons,jh.text,gn,h1,h2]
  rw[if_neg (by decide),if_neg (by omega),ih]
  simp[cX,cK]
theorem iy:∀ s:List UInt8,aC s≠[]
 | []=>by simp[aC]
 | c :: r=>by
  unfold aC
  split
  ·simp
  ·cases h:aC r with
   | nil=>simp[dv]
   | cons a b=>simp[dv]
theorem cH:∀ (t r:List UInt8),Nl t->aC (t++10 :: r)=t :: aC r
 | [],r,_=>by simp[aC]
 | c :: t,r,h=>by
  have ih:=cH t r fun d hd=>h d (List.mem_cons_of_mem _ hd)
  show aC (c :: (t++10 :: r))=_
  rw[aC,if_neg (h c List.mem_cons_self),ih]
  rfl
theorem dp:∀ (l:List (List UInt8)),(∀ s∈l,Nl s)->aC (l.flatMap fun s=>s++[10])=l++[[]]
 | [],_=>rfl
 | s :: m,h=>by
  have ih:=dp m fun x hx=>h x (List.mem_cons_of_mem _ hx)
  rw[List.flatMap_cons,List.append_assoc]
  show aC (s++10 :: (m.flatMap fun s=>s++[10]))=_
  rw[cH s _ (h s List.mem_cons_self),ih]
  rfl
theorem mD (n:Int):Nl (Lib.itoa n):=by
 have lZ:∀ k:Nat,Nl (Lib.decDigits k):=fun k c hc e=>by
  have:=fw k c hc
  rw[e] at this
  revert this
  decide
 unfold Lib.itoa
 split
 ·intro c hc
  rcases List.mem_cons.1 hc with rfl | hc
  ·decide
  ·exact lZ _ c hc
 ·exact lZ _
theorem mX (op:Int):Nl (aT op):=by
 rcases aZ op with rfl|rfl|rfl|rfl|rfl|rfl|rfl|rfl|rfl|rfl|rfl|rfl|rfl|rfl|rfl|rfl|rfl|rfl|rfl|rfl|rfl | hn
 all_goals first | (unfold Nl;decide) | (rw[(bA hn).2];unfold Nl;simp)
theorem mj (i:ay)(x:Int):Nl (ar i x):=by
 have lZ:∀ (a:List UInt8) (n:Int),(∀ y∈a,y≠10)->Nl (a++Lib.itoa n):=fun a n ha=>Nl.app ha (mD n)
 have k1:∀ n:Int,Nl (32 :: Lib.itoa n):=fun n=>lZ [32] n (by decide)
 unfold ar
 repeat' split
 all_goals first
  | exact k1 _
  | exact lZ _ _ (by decide)
  | (unfold Nl;decide)
theorem eM (i:ay):∀ l:List UInt8,Nl (aj i l)
 | []=>by unfold Nl aj;simp
 | x :: l=>by
  have:aj i (x :: l)=ar i x.toNat++aj i l:=by simp[aj]
  rw[this]
  exact Nl.app (mj i _) (eM i l)
theorem l9 (i:ay):Nl (aa i):=Nl.app (mX _) (eM i _)
theorem mG (i:ay):Nl (bz i):=by
 unfold bz
 refine Nl.app (Nl.app (mX _) (eM i _)) ?_
 split <;> (unfold Nl;decide)
theorem jx {s:List UInt8}(h:aW s=S):Nl s:=by
 unfold aW at h
 simp only[Bool.and_eq_true] at h
 intro c hc e
 have:=List.all_eq_true.1 h.2.2.2 c hc
 subst e
 revert this
 decide
theorem mE (n:Int):Lib.itoa n≠[]:=by
 unfold Lib.itoa
 split
 ·simp
 ·obtain⟨c,r,h,-⟩:=cO n.toNat
  rw[h]
  simp
theorem jH {i:ay}{p:Int}(hr:ag i p=S):∃ r,aa i=aT i.op++32 :: r/\r≠[]:=by
 have hh:=dw hr
 have hi:=mE
 obtain⟨op,d,s,t,u,a,k,pl⟩:=i
 simp only at hh
 rcases aZ op with rfl|rfl|rfl|rfl|rfl|rfl|rfl|rfl|rfl|rfl|rfl|rfl|rfl|rfl|rfl|rfl|rfl|rfl|rfl|rfl|rfl | hn
 all_goals first
  | exact absurd (bA hn).1 hh
  | (unfold aa aj;simp only[bc];simp[ar,au,hi])
def bC (ls:List (List UInt8×Int))(rs:List (ay×List UInt8×Int)):cF×Int×Int:=
 match cx ls rs.length rs with
 | .inl (n,e)=>(cF.zero,n,e)
 | .inr l=>if aJ ls cM rs.length<0\/aJ ls bv rs.length<0 then (cF.zero,0,10)
  else (⟨l,aJ ls cM rs.length,aJ ls bv rs.length⟩,0,0)
def cY (t:List UInt8)(n:Int)(ls:List (List UInt8×Int))(rs:List (ay×List UInt8×Int)):cF×Int×Int:=
 match gn (aC t).dropLast n ls rs with
 | .inl (m,e)=>(cF.zero,m,e)
 | .inr (ls,rs)=>if (aC t).getLastD []≠[] then (cF.zero,n+(aC t).length-1,8) else bC ls rs
theorem kG (text:List UInt8):dE text=cY text 1 [] []:=by
 have e:(1:Int)+((aC text).length:Int)-1=((aC text).length:Int):=by omega
 unfold dE cY bC
 rw[e]
theorem eU {α:Type}(x:α)(l:List α)(h:l≠[]):(x :: l).dropLast=x :: l.dropLast:=by
 cases l with
 | nil=>exact absurd rfl h
 | cons a b=>rfl
theorem ee {α:Type}(x d:α)(l:List α)(h:l≠[]):(x :: l).getLastD d=l.getLastD d:=by
 cases l with
 | nil=>exact absurd rfl h
 | cons a b=>rfl
theorem i8 (s r:List UInt8)(h:Nl s)(n:Int)(ls:List (List UInt8×Int))(rs:List (ay×List UInt8×Int)):
 cY (s++10 :: r) n ls rs =
  if lY s=S then (if (ls.any fun x=>x.1==s.dropLast)=S then (cF.zero,n,2) else cY r (n+1) (ls++[(s.dropLast,(rs.length:Int))]) rs)
  else match bT s with
   | none=>(cF.zero,n,8)
   | some (i,nm)=>if 64<=rs.length then (cF.zero,n,9) else cY r (n+1) ls (rs++[(i,nm,n)]):=by
 have hp:=cH s r h
 have hne:=iy r
 have e:n+((aC (s++10 :: r)).length:Int)-1=n+1+((aC r).length:Int)-1:=by
  rw[hp]
  simp
  omega
 unfold cY
 rw[e,hp,eU _ _ hne,ee _ _ _ hne]
 simp only[gn]
 by_cases h1:lY s=S
 ·simp only[h1,if_true]
  by_cases h2:(ls.any fun x=>x.1==s.dropLast)=S
  ·simp only[h2,if_true]
  ·simp only[h2]
   rfl
 ·simp only[h1]
  cases hl:bT s with
  | none=>simp
  | some q=>
   obtain⟨i,nm⟩:=q
   simp only
   by_cases h3:64<=rs.length
   ·simp[h3]
   ·simp[h3]
theorem fz (s:List UInt8)(h:Nl s)(n:Int)(ls:List (List UInt8×Int))(rs:List (ay×List UInt8×Int)):cY s n ls rs=if s≠[] then (cF.zero,n,8) else bC ls rs:=by
 have hp:∀ t:List UInt8,Nl t->aC t=[t]:=by
  intro t
  induction t with
  | nil=>intro _;rfl
  | cons c t ih=>
   intro ht
   rw[aC,if_neg (ht c List.mem_cons_self),ih fun d hd=>ht d (List.mem_cons_of_mem _ hd)]
   rfl
 unfold cY
 rw[hp s h]
 simp[gn]
theorem kH (ls:List (List UInt8×Int))(n:Int)(i:ay)(row:Int)(more:List (ay×List UInt8×Int)):
 cx ls n ((i,[],row) :: more)=match cx ls n more with | .inl e=>.inl e | .inr l=>.inr (i :: l):=by
 simp only[cx]
 rfl
theorem fA (ls:List (List UInt8×Int))(n:Int)(i:ay)(nm:List UInt8)(hn:nm≠[])(row:Int)(more:List (ay×List UInt8×Int)):
 cx ls n ((i,nm,row) :: more)=if aJ ls nm n<0 then .inl (row,10) else match cx ls n more with | .inl e=>.inl e | .inr l=>.inr ({ i with pl:=aJ ls nm n } :: l):=by
 simp only[cx]
 rw[if_neg hn]
theorem lJ (c:cF)(toks:List jh)(N:Nat)(hN:N<=64)(hok:∀ t∈toks,t.Ok/\Nl t.text)(hnd:(cQ toks).Nodup)(hlen:(cK toks 1).length=N)
 (h2:cx (cX toks 0) N (cK toks 1)=.inr c.l) (hlo:aJ (cX toks 0) cM N=c.lo) (hun:aJ (cX toks 0) bv N=c.un) (h0:0<=c.lo) (h1:0<=c.un):
 dE ((toks.map jh.text).flatMap fun s=>s++[10])=(c,0,0):=by
 have hp:=dp (toks.map jh.text) (by
  intro s hs
  obtain⟨t,ht,rfl⟩:=List.mem_map.1 hs
  exact(hok t ht).2)
 have h3:=dQ toks 1 [] [] (fun t ht=>(hok t ht).1) (by simpa using hnd) (by simpa [hlen] using hN)
 simp only[List.nil_append,List.length_nil,Int.ofNat_zero] at h3
 unfold dE
 rw[hp,List.dropLast_concat,h3]
 simp only[List.getLastD_concat,hlen,h2,hlo,hun]
 rw[if_neg (by simp),if_neg (by omega)]
theorem fU (nm:List UInt8)(h:aW nm=S):(jh.lab nm).Ok/\Nl (jh.lab nm).text:=by
 refine⟨h,?_⟩
 show Nl (nm++[58])
 exact Nl.app (jx h) (by intro c hc;simp at hc;subst hc;decide)
theorem aN (i:ay)(s:List UInt8)(hr:ag i 64=S)(k0:0<=i.k)(k1:i.k<4294967296)(hg:bk i=P)(hs:aa i=s):(jh.ins i [] s).Ok/\Nl (jh.ins i [] s).text:=by
 subst hs
 obtain⟨r,e,hn⟩:=jH hr
 exact⟨⟨mY e hn,jT i hr (by decide) k0 k1 hg⟩,l9 i⟩
theorem kX (i:ay)(nm s:List UInt8)(hr:ag i 64=S)(k0:0<=i.k)(k1:i.k<4294967296)(hg:bk i=S)(hn:aW nm=S)(hs:bz i++nm=s)(h0:i.pl=0):(jh.ins i nm s).Ok/\Nl (jh.ins i nm s).text:=by
 subst hs
 obtain⟨a,ha⟩:=fs i
 have h:=jV i hr (by decide) k0 k1 hg nm hn
 have e:({ i with pl:=0 }:ay)=i:=by rw[<-h0]
 rw[e] at h
 exact⟨⟨mY (a:=a) (b:=nm) (by rw[ha];simp) (mn hn),h⟩,Nl.app (mG i) (jx hn)⟩
end
section
open Go.ChangeShapes Go.WideShapes Go.ChangeAt Go.RowKit
theorem df {w:World}{k:Nat}{s:ByteArray}{p:Nat}(h:w.heap[k]?=Z (.stringIter s p)):w.iterPos k=p:=by simp[World.iterPos,h]
theorem jO (s:List UInt8)(n:Nat)(h:n<s.length):dr (s.drop n) n=(kT n (s.getD n 0) && dr (s.drop (n+1)) (n+1)):=by
 rw[List.drop_eq_getElem_cons h,dr]
 simp[List.getD_eq_getElem?_getD,h]
def nS (n c:Nat):Bool:=(decide (97<=c) && decide (c<=122)) || ((decide (48<=c) && decide (c<=57)) && decide (n≠0))
theorem nf (n:Nat)(c:UInt8):kT n c=nS n c.toNat:=rfl
theorem jw {n c:Nat}(h:nS n c=S):(97<=c/\c<=122)\/(48<=c/\c<=57/\n≠0):=by
 unfold nS at h
 simp only[Bool.or_eq_true,Bool.and_eq_true,decide_eq_true_eq] at h
 omega
theorem nd {n c:Nat}(h:nS n c=P):c<48\/(48<=c/\c<=57/\n=0)\/(57<c/\c<97)\/122<c:=by
 unfold nS at h
 simp only[Bool.or_eq_false_iff,Bool.and_eq_false_iff,decide_eq_false_iff_not] at h
 omega
theorem jD (s:List UInt8)(w:World):
 Calls Tryd.prog 20 #[bs s] w fun e w'=>e=.returned (.bool (aW s))/\Below w.heap.size w w':=by
 have hsz:(⟨s.toArray⟩:ByteArray).size=s.length:=by show s.toArray.size=_;simp
 unfold bs
 by_cases h0:s=[]
 ·subst h0
  go_enter Tryd.func20,Tryd.ntmps20
  go_wp2
  go_ret
  exact⟨rfl,D _ _⟩
 by_cases h1:16<s.length
 ·have e:aW s=P:=by
   unfold aW
   have:decide (s.length<=16)=P:=by simp;omega
   simp[this]
  rw[e]
  have q0:(s==[])=P:=by simpa using h0
  have q1:(16:Int)<s.length:=by omega
  go_enter Tryd.func20,Tryd.ntmps20
  go_wp2
  go_ret
  exact⟨rfl,D _ _⟩
 have q0:(s==[])=P:=by simpa using h0
 have q1:¬ (16:Int)<s.length:=by omega
 have hl:1<=s.length:=by cases s with
  | nil=>exact absurd rfl h0
  | cons=>simp
 have HN:=E (jS s hl (by omega))
 generalize aW s=r at *
 go_enter Tryd.func20,Tryd.ntmps20
 go_wp2
 go_loopw [2] (fun v wr=>∃ n:Nat,v=.bool P/\n<=s.length/\wr.heap[w.heap.size]?=Z (.stringIter ⟨s.toArray⟩ n)/\Below w.heap.size w wr/\Hid (r=dr (s.drop n) n))
  (fun v wr=>s.length-wr.iterPos w.heap.size)
 case atStart=>exact⟨0,rfl,by omega,World.iter_heap w _ 0,(D _ _).alloc (C _) _,E (by simpa using HN.out)⟩
 case round=>
  obtain⟨n,rfl,hn,hit,hb,HR⟩:=hrel
  have hpos:=df hit
  by_cases hp:n<s.length
  ·have hnx:∀ ty,(Instr.next (H (Z ⟨w.heap.size,0,O⟩)) S ty).run Tryd.prog wr=_:=fun ty=>Lib.run_next_any_at wr w.heap.size ⟨s.toArray⟩ n ty hit (by omega)
   have hg:(⟨s.toArray⟩:ByteArray)[n]'(by omega)=s.getD n 0:=by
    simp[ByteArray.getElem_eq_getElem_data,hp]
   have HD:=E (jO s n hp)
   have HK:Hid (kT n (s.getD n 0)=nS n (s.getD n 0).toNat):=E (nf _ _)
   have hit2:=Lib.iterAt_heap wr w.heap.size ⟨s.toArray⟩ n (n+(Utf8.decode ⟨s.toArray⟩ n).2) hit
   have hb2:=Lib.below_iterAt hb (k:=w.heap.size) (C _) ⟨s.toArray⟩ (n+(Utf8.decode ⟨s.toArray⟩ n).2)
   by_cases hc:(s.getD n 0).toNat<128
   ·have hd:=decode_ascii ⟨s.toArray⟩ n (by omega) (by rw[hg];exact hc)
    rw[hg] at hd
    rw[hd] at hnx hit2 hb2
    simp only at hnx hit2 hb2
    clear hd hg hc
    generalize wr.iterAt w.heap.size ⟨s.toArray⟩ (n+1)=W1 at *
    rw[HK.out] at HD
    clear HK
    generalize (s.getD n 0).toNat=c at *
    clear hit
    cases ho:nS n c with
    | true=>
     have HR2:Hid (r=dr (s.drop (n+1)) (n+1)):=E (by rw[HR.out,HD.out,ho];simp)
     rcases jw ho with ⟨k1,k2⟩ | ⟨k1,k2,k3⟩
     ·have z1:(97:Int)<=(c:Int):=by omega
      have z2:(c:Int)<=122:=by omega
      clear HR HD ho k1 k2
      go_wp2
      all_goals (
       go_roundw
       case rel=>exact⟨n+1,rfl,by omega,hit2,hb2,HR2⟩
       case measure=>rw[df hit2,hpos];omega)
     ·have z1:¬ (97:Int)<=(c:Int):=by omega
      have z2:(48:Int)<=(c:Int):=by omega
      have z3:(c:Int)<=57:=by omega
      have z4:((n:Int)==0)=P:=by simp;omega
      clear HR HD ho k1 k2
      go_wp2
      all_goals (
       go_roundw
       case rel=>exact⟨n+1,rfl,by omega,hit2,hb2,HR2⟩
       case measure=>rw[df hit2,hpos];omega)
    | false=>
     have HR2:Hid (r=P):=E (by rw[HR.out,HD.out,ho];simp)
     rcases nd ho with k1 | ⟨k1,k2,k3⟩ | ⟨k1,k2⟩ | k1
     ·have z1:¬ (97:Int)<=(c:Int):=by omega
      have z2:¬ (48:Int)<=(c:Int):=by omega
      clear HR HD ho k1
      go_wp2
      go_ret
      exact⟨by rw[HR2.out];rfl,hb2⟩
     ·have z1:¬ (97:Int)<=(c:Int):=by omega
      have z2:(48:Int)<=(c:Int):=by omega
      have z3:(c:Int)<=57:=by omega
      have z4:((n:Int)==0)=S:=by simp;omega
      clear HR HD ho k1 k2
      go_wp2
      go_ret
      exact⟨by rw[HR2.out];rfl,hb2⟩
     ·have z1:¬ (97:Int)<=(c:Int):=by omega
      have z2:(48:Int)<=(c:Int):=by omega
      have z3:¬ (c:Int)<=57:=by omega
      clear HR HD ho k1 k2
      go_wp2
      go_ret
      exact⟨by rw[HR2.out];rfl,hb2⟩
     ·have z1:(97:Int)<=(c:Int):=by omega
      have z2:¬ (c:Int)<=122:=by omega
      have z3:(48:Int)<=(c:Int):=by omega
      have z4:¬ (c:Int)<=57:=by omega
      clear HR HD ho k1
      go_wp2
      go_ret
      exact⟨by rw[HR2.out];rfl,hb2⟩
   ·have hd:=(decode_high ⟨s.toArray⟩ n (by omega) (by rw[hg];omega)).1
    have HR2:Hid (r=P):=E (by
     rw[HR.out,HD.out,HK.out]
     have:nS n (s.getD n 0).toNat=P:=by
      cases ho:nS n (s.getD n 0).toNat with
      | false=>rfl
      | true=>rcases jw ho with ⟨k1,k2⟩ | ⟨k1,k2,k3⟩ <;> omega
     rw[this];simp)
    generalize (Utf8.decode ⟨s.toArray⟩ n).1=c at *
    generalize wr.iterAt w.heap.size ⟨s.toArray⟩ (n+(Utf8.decode ⟨s.toArray⟩ n).2)=W1 at *
    have z1:(97:Int)<=(c:Int):=by omega
    have z2:¬ (c:Int)<=122:=by omega
    have z3:(48:Int)<=(c:Int):=by omega
    have z4:¬ (c:Int)<=57:=by omega
    clear HR HD HK hd hc hg hit2 hit
    go_wp2
    go_ret
    exact⟨by rw[HR2.out];rfl,hb2⟩
  ·have hnx:∀ ty,(Instr.next (H (Z ⟨w.heap.size,0,O⟩)) S ty).run Tryd.prog wr=_:=fun ty=>Lib.run_next_end_at wr w.heap.size ⟨s.toArray⟩ n ty hit (by omega)
   have HR2:Hid (r=S):=E (by rw[HR.out,List.drop_of_length_le (by omega)];rfl)
   clear HR hit
   go_wp2
   go_ret
   exact⟨by rw[HR2.out];rfl,hb⟩
theorem gq (i:ay):(bx i=S/\(i.op=8\/i.op=9\/i.op=10))\/(i.op=21/\bx i=decide (i.pl≠-1))\/(bx i=P/\i.op≠8/\i.op≠9/\i.op≠10/\i.op≠21):=by
 unfold bx
 by_cases h:i.op=8\/i.op=9\/i.op=10
 ·exact .inl ⟨by simp[h],h⟩
 by_cases h2:i.op=21
 ·exact .inr (.inl ⟨h2,by simp[h2]⟩)
 ·exact .inr (.inr ⟨by simp[h,h2],by omega,by omega,by omega,h2⟩)
theorem kA (i:ay)(w:World):
 Calls Tryd.prog 30 #[iv i] w fun e w'=>e=.returned (.bool (bx i))/\Below w.heap.size w w':=by
 have hb:∀ cs:Array Value,Below w.heap.size w (w.alloc (.cells cs 59)):=fun cs=>(D _ _).alloc (C _) _
 have HP:=gq i
 generalize bx i=r at *
 obtain⟨op,d,s,t,u,a,k,pl⟩:=i
 simp only at HP
 unfold iv
 rcases HP with ⟨rfl,rfl|rfl|rfl⟩ | ⟨rfl,h⟩ | ⟨rfl,h1,h2,h3,h4⟩
 ·go_enter Tryd.func30,Tryd.ntmps30
  go_wp2
  go_ret
  exact⟨rfl,hb _⟩
 ·go_enter Tryd.func30,Tryd.ntmps30
  go_wp2
  go_ret
  exact⟨rfl,hb _⟩
 ·go_enter Tryd.func30,Tryd.ntmps30
  go_wp2
  go_ret
  exact⟨rfl,hb _⟩
 ·have HH:=E h
  clear h
  go_enter Tryd.func30,Tryd.ntmps30
  go_wp2
  go_ret
  refine⟨?_,hb _⟩
  rw[HH.out]
  congr 2
  simp[bne]
  by_cases e:pl=-1 <;> simp[e]
 ·have e1:(op==8)=P:=by simpa using h1
  have e2:(op==9)=P:=by simpa using h2
  have e3:(op==10)=P:=by simpa using h3
  have e4:(op==21)=P:=by simpa using h4
  go_enter Tryd.func30,Tryd.ntmps30
  go_wp2
  go_ret
  exact⟨rfl,hb _⟩
end
section
open Go.ChangeShapes Go.WideShapes Go.ChangeAt Go.RowKit Go.Shelf
attribute [local go_sem] Oper.semAt_some
theorem kz (s:List UInt8)(w:World):
 Calls Tryd.prog 13 #[bs s] w fun e w'=>e=.returned (.func (.func 17) #[] #[H (Z ⟨w.heap.size,0,O⟩)])/\w'=w.alloc (G #[bs s] 9):=by
 unfold bs
 go_enter Tryd.func13,Tryd.ntmps13
 go_wp2
 go_ret
 exact⟨rfl,rfl⟩
theorem gz (text:List UInt8)(b l:Nat)(W1:World)(hb:Bk W1 b 9 #[bs text])(hlen:text.length<1000000000):
 nR Tryd.prog 17 #[H (Z ⟨b,0,O⟩)] (fun k=>#[I Q ((k:Int)+1),bs (bt text k)]) (az text).length l W1 (fun x=>W1.heap.size<=x/\x<W1.heap.size+5):=by
 intro J Jx hJ hJx hY h0
 have hc0:W1.cell? ⟨b,0,O⟩=Z (.string ⟨text.toArray⟩):=hb.cell 0
 have HL:=E (fun W=>callsIn_wide (n:=0) |>.2 (np text W))
 refine callsIn_of_wp_marks Tryd.func17 rfl trivial ?_ rfl
 simp only[Tryd.ntmps17,List.size_toArray,List.length_cons,List.length_nil,Nat.reduceAdd,Nat.reduceSub,Array.replicate_succ,Array.replicate_zero,List.push_toArray,List.append_toArray,List.nil_append,List.cons_append]
 have y2:=Bk.alloc (Bk.made W1 61 #[.func (.yield l) #[] #[]]) (G #[I Q 0] 3)
 have n2:=Bk.made (W1.alloc (G #[.func (.yield l) #[] #[]] 61)) 3 #[I Q 0]
 have t2:=Bk.alloc (Bk.alloc hb (G #[.func (.yield l) #[] #[]] 61)) (G #[I Q 0] 3)
 have w2:af W1 ((W1.alloc (G #[.func (.yield l) #[] #[]] 61)).alloc (G #[I Q 0] 3)) (fun _=>False):=((af.refl _ _).alloc _).alloc _
 have s2:((W1.alloc (G #[.func (.yield l) #[] #[]] 61)).alloc (G #[I Q 0] 3)).heap.size=W1.heap.size+2:=by simp
 rw[World.size_alloc] at n2
 have hc2:((W1.alloc (G #[.func (.yield l) #[] #[]] 61)).alloc (G #[I Q 0] 3)).cell? ⟨b,0,O⟩=Z (.string ⟨text.toArray⟩):=t2.cell 0
 gi_wp2
 generalize (W1.alloc (G #[.func (.yield l) #[] #[]] 61)).alloc (G #[I Q 0] 3)=W2 at *
 refine⟨trivial,rfl,?_⟩
 refine(HL.out _).mono ?_
 rintro e W3 ⟨rfl,rfl⟩
 have y3:=y2.alloc (G #[bs text] 9)
 have n3:=n2.alloc (G #[bs text] 9)
 have t3:=Bk.made W2 9 #[bs text]
 have s3:(W2.alloc (G #[bs text] 9)).heap.size=W1.heap.size+3:=by simp[s2]
 have w3:af W1 (W2.alloc (G #[bs text] 9)) (fun _=>False):=w2.alloc _
 rw[s2] at t3 ⊢
 generalize W2.alloc (G #[bs text] 9)=W3 at *
 clear hc2 t2 n2 y2 w2 s2 W2 HL hc0
 gi_wp2
 have e0:W3.heap.size=W1.heap.size+3:=s3
 refine ek (gf:=25) (lb:=#[H (Z ⟨W1.heap.size+2,0,O⟩)]) rfl (enters_of Tryd.func25 (by kernel_rfl) rfl)
  (encs:=fun k=>#[bs (bt text k)]) (N:=(az text).length) (T:=fun x=>x=W1.heap.size+2) (fun _=>rfl) (by omega) (by omega)
  (fun W4 hb4 hz4=>lh text _ _ W4 ((hb4.block _ (by omega)).trans t3) hlen)
  (fun k W=>J k W/\Bk W W1.heap.size 61 #[.func (.yield l) #[] #[]]/\Bk W (W1.heap.size+1) 3 #[I Q k])
  (fun c W=>c=.ret/\Jx W) ?calm ?calmx ⟨hJ 0 _ _ h0 (w3.wide (by simp)),y3,n3⟩
  (fun k=>{ tmps:=#[.func (.yield l) #[] #[],H (Z ⟨b,0,O⟩),H (Z ⟨W1.heap.size,0,O⟩),H (Z ⟨W1.heap.size+1,0,O⟩),.string ⟨(bt text k).toArray⟩,.string ⟨text.toArray⟩,
   .func (.func 25) #[] #[H (Z ⟨W1.heap.size+2,0,O⟩)],.string ⟨(bt text k).toArray⟩,L,L,L,L,L,L,L],defers:=[] }) ?assign ?body ?done ?stop
 case calm=>
  rintro k A B ⟨j,y,n⟩ hw
  exact⟨hJ k A B j (hw.wide (by rintro i (rfl|rfl|rfl) _ <;> omega)),y.within hw (by omega),n.within hw (by omega)⟩
 case calmx=>
  rintro c A B ⟨rfl,j⟩ hw
  exact⟨rfl,hJx A B j (hw.wide (by rintro i (rfl|rfl|rfl) _ <;> omega))⟩
 case assign=>
  intro l2 k W K hK
  unfold bs
  gi_wp2
  exact hK
 case body=>
  rintro l2 k W hk ⟨hj,hy,hn⟩ hT
  have hkl:k<1000000000:=Nat.lt_of_lt_of_le hk (Nat.le_trans (dJ text) (Nat.le_of_lt hlen))
  have hwr:wrap64 ((k:Int)+1)=(k:Int)+1:=by unfold wrap64;omega
  have cn:W.cell? ⟨W1.heap.size+1,0,O⟩=Z (I Q k):=hn.cell 0
  have fn:=hn.free 0
  have w1:af W (W.setCell ⟨W1.heap.size+1,0,O⟩ (I Q ((k:Int)+1))) (fun x=>x=W1.heap.size+1):=(af.refl _ _).put _ 0 _ (.inl rfl)
  have n1:Bk (W.setCell ⟨W1.heap.size+1,0,O⟩ (I Q ((k:Int)+1))) (W1.heap.size+1) 3 #[I Q ((k:Int)+1)]:=hn.put 0 _
  have y1:=hy.within w1 (by omega)
  have hj1:=hJ k _ _ hj (w1.wide (by rintro i rfl _;omega))
  obtain⟨fn2,tmps,assign,body,hyy,hR⟩:=hY k _ hk hj1 (by intro x hx;have:=w1.size;have:=hT (W3.heap.size+1) (.inr (.inl rfl));omega)
  unfold bs at hyy
  have cy:(W.setCell ⟨W1.heap.size+1,0,O⟩ (I Q ((k:Int)+1))).cell? ⟨W1.heap.size,0,O⟩=Z (.func (.yield l) #[] #[]):=y1.cell 0
  have cn1:(W.setCell ⟨W1.heap.size+1,0,O⟩ (I Q ((k:Int)+1))).cell? ⟨W1.heap.size+1,0,O⟩=Z (I Q ((k:Int)+1)):=n1.cell 0
  gi_wp2
  refine⟨rfl,RoundIn.mono (F:=Fence.wide) hR ?_⟩
  rintro e W5 ⟨hh,hQ⟩
  have hT5:cv (fun x=>x=W3.heap.size\/x=W3.heap.size+1\/x=W1.heap.size+2) W W5:=by
   refine⟨Nat.le_trans w1.size hh.1,?_⟩
   rintro x (rfl|rfl|rfl)
   ·exact(hh.2 _ ⟨by omega,by omega⟩).trans (w1.block _ (hT _ (.inl rfl)) (by omega))
   ·exact(hh.2 _ ⟨by omega,by omega⟩).trans (w1.block _ (hT _ (.inr (.inl rfl))) (by omega))
   ·exact(hh.2 _ ⟨by omega,by omega⟩).trans (w1.block _ (hT _ (.inr (.inr rfl))) (by omega))
  rcases hQ with ⟨rfl,hJ5⟩ | ⟨rfl,hJx5⟩
  ·gi_wp2
   exact⟨hT5,hJ5,(hh.2 _ ⟨by omega,by omega⟩).trans y1,(hh.2 _ ⟨by omega,by omega⟩).trans n1⟩
  ·gi_wp2
   exact⟨hT5,rfl,hJx5⟩
 case done=>
  rintro W ⟨hj,_,_⟩ hd
  gi_wp2
  refine⟨by simp,.inl ⟨_,_,rfl,run_takeDeferred hd,?_⟩⟩
  exact⟨_,results_none rfl _ _ _,⟨_,rfl⟩,.inl (hJ _ _ _ hj (aM _ _ _ _ ⟨by omega,by omega⟩))⟩
 case stop=>
  rintro c W ⟨rfl,hj⟩ hd
  gi_wp2
  refine⟨by simp,.inl ⟨_,_,rfl,run_takeDeferred hd,?_⟩⟩
  exact⟨_,results_none rfl _ _ _,⟨_,rfl⟩,.inr (hJx _ _ hj (aM _ _ _ _ ⟨by omega,by omega⟩))⟩
end
section
def m6:cF:=⟨oM,0,11⟩
def dj:List jh:=[.lab [108,111,99,107],.ins ⟨11,1,0,0,0,0,0,0⟩ [] ([115,101,108,102,32,114,49]),.ins ⟨16,2,1,0,0,1,0,0⟩ [] ([108,111,97,100,32,114,50,32,49,32,114,49]),.ins ⟨5,3,1,0,0,0,1,0⟩ [] ([115,104,108,32,114,51,32,114,49,32,49]),.ins ⟨7,3,3,2,0,0,0,0⟩ [] ([111,114,32,114,51,32,114,51,32,114,50]),.ins ⟨18,4,0,3,0,0,0,0⟩ [] ([115,119,97,112,32,114,52,32,48,32,114,48,32,114,51]),.ins ⟨12,0,0,0,0,0,1,0⟩ [] ([109,97,114,107,32,49]),.ins ⟨4,5,4,0,0,0,1,0⟩ [] ([97,110,100,107,32,114,53,32,114,52,32,49]),.ins ⟨6,6,4,0,0,0,1,0⟩ [] ([115,104,114,32,114,54,32,114,52,32,49]),.ins ⟨21,4,6,5,0,1,1,-1⟩ [] ([97,119,97,105,116,32,114,52,32,49,32,114,54,32,110,101,32,114,53]),.ins ⟨12,0,0,0,0,0,2,0⟩ [] ([109,97,114,107,32,50]),.ins ⟨13,0,0,0,0,0,1,0⟩ [] ([100,111,110,101,32,49]),.lab [117,110,108,111,99,107],.ins ⟨1,3,0,0,0,0,1,0⟩ [] ([99,111,110,115,116,32,114,51,32,49]),.ins ⟨8,0,2,0,0,0,0,0⟩ [116,117,114,110] ([98,101,113,32,114,50,32,114,48,32,116,117,114,110]),.ins ⟨1,3,0,0,0,0,0,0⟩ [] ([99,111,110,115,116,32,114,51,32,48]),.lab [116,117,114,110],.ins ⟨17,0,1,3,0,1,0,0⟩ [] ([115,116,111,114,101,32,49,32,114,49,32,114,51]),.ins ⟨12,0,0,0,0,0,4,0⟩ [] ([109,97,114,107,32,52]),.ins ⟨13,0,0,0,0,0,2,0⟩ [] ([100,111,110,101,32,50])]
def dk:List UInt8:=[108,111,99,107,58,10,115,101,108,102,32,114,49,10,108,111,97,100,32,114,50,32,49,32,114,49,10,115,104,108,32,114,51,32,114,49,32,49,10,111,114,32,114,51,32,114,51,32,114,50,10,115,119,97,112,32,114,52,32,48,32,114,48,32,114,51,10,109,97,114,107,32,49,10,97,110,100,107,32,114,53,32,114,52,32,49,10,115,104,114,32,114,54,32,114,52,32,49,10,97,119,97,105,116,32,114,52,32,49,32,114,54,32,110,101,32,114,53,10,109,97,114,107,32,50,10,100,111,110,101,32,49,10,117,110,108,111,99,107,58,10,99,111,110,115,116,32,114,51,32,49,10,98,101,113,32,114,50,32,114,48,32,116,117,114,110,10,99,111,110,115,116,32,114,51,32,48,10,116,117,114,110,58,10,115,116,111,114,101,32,49,32,114,49,32,114,51,10,109,97,114,107,32,52,10,100,111,110,101,32,50,10]
theorem mI:((dj).map jh.text).flatMap (fun s=>s++[10])=dk:=by
 rfl
theorem cf:Lib.itoa 0=[48]:=by
 unfold Lib.itoa
 rw[if_neg (by decide)]
 show Lib.decDigits 0=_
 rw[Lib.decDigits,dif_pos (by decide)]
 rfl
theorem du:Lib.itoa 1=[49]:=by
 unfold Lib.itoa
 rw[if_neg (by decide)]
 show Lib.decDigits 1=_
 rw[Lib.decDigits,dif_pos (by decide)]
 rfl
theorem iq:Lib.itoa 2=[50]:=by
 unfold Lib.itoa
 rw[if_neg (by decide)]
 show Lib.decDigits 2=_
 rw[Lib.decDigits,dif_pos (by decide)]
 rfl
theorem gg:Lib.itoa 3=[51]:=by
 unfold Lib.itoa
 rw[if_neg (by decide)]
 show Lib.decDigits 3=_
 rw[Lib.decDigits,dif_pos (by decide)]
 rfl
theorem ip:Lib.itoa 4=[52]:=by
 unfold Lib.itoa
 rw[if_neg (by decide)]
 show Lib.decDigits 4=_
 rw[Lib.decDigits,dif_pos (by decide)]
 rfl
theorem m0:Lib.itoa 5=[53]:=by
 unfold Lib.itoa
 rw[if_neg (by decide)]
 show Lib.decDigits 5=_
 rw[Lib.decDigits,dif_pos (by decide)]
 rfl
theorem mZ:Lib.itoa 6=[54]:=by
 unfold Lib.itoa
 rw[if_neg (by decide)]
 show Lib.decDigits 6=_
 rw[Lib.decDigits,dif_pos (by decide)]
 rfl
theorem mH:∀ t∈dj,t.Ok/\Nl t.text:=by
 intro t ht
 simp only[dj,List.mem_cons,List.not_mem_nil,or_false] at ht
 rcases ht with rfl|rfl|rfl|rfl|rfl|rfl|rfl|rfl|rfl|rfl|rfl|rfl|rfl|rfl|rfl|rfl|rfl|rfl|rfl|rfl
 ·exact fU _ (by decide)
 ·exact aN _ _ (by decide) (by decide) (by decide) (by first | decide | rfl) (by simp[aa,aj,ar,bc,aT,au,cf,du])
 ·exact aN _ _ (by decide) (by decide) (by decide) (by first | decide | rfl) (by simp[aa,aj,ar,bc,aT,au,cf,du,iq])
 ·exact aN _ _ (by decide) (by decide) (by decide) (by first | decide | rfl) (by simp[aa,aj,ar,bc,aT,au,cf,du,gg])
 ·exact aN _ _ (by decide) (by decide) (by decide) (by first | decide | rfl) (by simp[aa,aj,ar,bc,aT,au,cf,iq,gg])
 ·exact aN _ _ (by decide) (by decide) (by decide) (by first | decide | rfl) (by simp[aa,aj,ar,bc,aT,au,cf,gg,ip])
 ·exact aN _ _ (by decide) (by decide) (by decide) (by first | decide | rfl) (by simp[aa,aj,ar,bc,aT,au,cf,du])
 ·exact aN _ _ (by decide) (by decide) (by decide) (by first | decide | rfl) (by simp[aa,aj,ar,bc,aT,au,cf,du,ip,m0])
 ·exact aN _ _ (by decide) (by decide) (by decide) (by first | decide | rfl) (by simp[aa,aj,ar,bc,aT,au,cf,du,ip,mZ])
 ·exact aN _ _ (by decide) (by decide) (by decide) (by first | decide | rfl) (by simp[aa,aj,ar,bc,aT,au,du,ip,m0,mZ])
 ·exact aN _ _ (by decide) (by decide) (by decide) (by first | decide | rfl) (by simp[aa,aj,ar,bc,aT,au,cf,iq])
 ·exact aN _ _ (by decide) (by decide) (by decide) (by first | decide | rfl) (by simp[aa,aj,ar,bc,aT,au,cf,du])
 ·exact fU _ (by decide)
 ·exact aN _ _ (by decide) (by decide) (by decide) (by first | decide | rfl) (by simp[aa,aj,ar,bc,aT,au,cf,du,gg])
 ·exact kX _ _ _ (by decide) (by decide) (by decide) (by decide) (by decide) (by simp[bz,aj,ar,bc,aT,au,cf,iq]) rfl
 ·exact aN _ _ (by decide) (by decide) (by decide) (by first | decide | rfl) (by simp[aa,aj,ar,bc,aT,au,cf,gg])
 ·exact fU _ (by decide)
 ·exact aN _ _ (by decide) (by decide) (by decide) (by first | decide | rfl) (by simp[aa,aj,ar,bc,aT,au,cf,du,gg])
 ·exact aN _ _ (by decide) (by decide) (by decide) (by first | decide | rfl) (by simp[aa,aj,ar,bc,aT,au,cf,ip])
 ·exact aN _ _ (by decide) (by decide) (by decide) (by first | decide | rfl) (by simp[aa,aj,ar,bc,aT,au,cf,iq])
theorem nG:dE (dk)=(m6,0,0):=by
 rw[<-mI]
 exact lJ (m6) (dj) 17 (by decide) (mH) (by unfold dj;simp only[cQ];decide) rfl rfl (by unfold dj;simp only[cX];decide) (by unfold dj;simp only[cX];decide) (by show (0:Int)<=0;decide) (by show (0:Int)<=11;decide)
theorem lm:dk.length<80000:=by decide
def nT (n:Nat):List Int:=((2*(n:Int)) :: ox (fun i=>if i=n then 1 else 0) n)
section
variable {n:Nat}
theorem ga:(nT n).length=n+2:=by simp[nT,ox]
section
variable (g1:1<=n)(hn:n<=64)
include g1 hn
end
end
end
section
open Go.ChangeShapes Go.WideShapes Go.ChangeAt Go.RowKit
theorem nE (N:Nat):nT N=((List.replicate (N+2) 0).set 0 (2*(N:Int))).set (1+N) 1:=by
 have e:List.replicate (N+1) (0:Int)=ox (fun _=>0) N:=by
  apply List.ext_getElem?
  intro i
  unfold ox
  rw[List.getElem?_replicate,List.getElem?_map]
  by_cases h:i<N+1 <;> simp[h]
 rw[List.replicate_succ,List.set_cons_zero,e,mK]
 unfold nT
 congr 1
theorem lp (N:Nat)(h64:N<=64)(w:World):
 Calls Tryd.prog 9 #[I Q N] w fun e w'=>∃ v,e=.returned v/\dm (nT N) v w'/\Below w.heap.size w w':=by
 have HI:=E (nE N)
 have hmk:∀ W:World,(Instr.makeSlice 26 (I Q (1+(N:Int)+1)) (I Q (1+(N:Int)+1))).run Tryd.prog W=.ok (U (Z ⟨W.heap.size,0,O⟩) (N+2) (N+2)) (W.alloc (G (bP (List.replicate (N+2) 0)) 56)):=fun W=>by rw[show 1+(N:Int)+1=((N+2:Nat):Int) by omega,<-ex];exact fo (N+2) (by omega) W
 have q0:=Bk.made w 56 (bP (List.replicate (N+2) 0))
 have b0:Below w.heap.size w (w.alloc (G (bP (List.replicate (N+2) 0)) 56)):=(D _ _).alloc (C _) _
 go_enter Tryd.func9,Tryd.ntmps9
 go_upto_region 2 with fail
 generalize w.alloc (G (bP (List.replicate (N+2) 0)) 56)=y at *
 have q1:=q0.put 0 (I .u32 (2*(N:Int)))
 rw[fc] at q1
 have q2:=q1.put (1+N) (I .u32 1)
 rw[fc,<-HI.out] at q2
 have b2:Below w.heap.size w ((y.setCell ⟨w.heap.size,0,O⟩ (I .u32 (2*(N:Int)))).setCell ⟨w.heap.size,1+N,O⟩ (I .u32 1)):=(b0.setCell (C _) _).setCell (C _) _
 have HQ:=E (And.intro q2 b2)
 have y0:y.cell? ⟨w.heap.size,0,O⟩=Z (I .u32 0):=by rw[q0.cell];exact ey _ 0 (by simp)
 have zf:=Bk.free q0
 have y1:(y.setCell ⟨w.heap.size,0,O⟩ (I .u32 (2*(N:Int)))).cell? ⟨w.heap.size,1+N,O⟩=Z (I .u32 (cc ((List.replicate (N+2) 0).set 0 (2*(N:Int))) (1+N))):=by rw[q1.cell];exact ey _ _ (by simp;omega)
 have zf1:=Bk.free q1
 clear q0 q1 q2 b0 b2
 go_upto_region 3 with fail
 clear y0 zf
 generalize y.setCell ⟨w.heap.size,0,O⟩ (I .u32 (2*(N:Int)))=x at *
 have HL:=E (ga (n:=N))
 clear HI
 go_wp2
 go_ret
 obtain⟨k1,k2⟩:=HQ.out
 exact⟨U (Z ⟨w.heap.size,0,O⟩) (N+2) (N+2),rfl,⟨w.heap.size,by rw[HL.out],k1⟩,k2⟩
theorem ll (N:Nat)(w:World)(h1:1<=N)(h64:N<=64)
 (HA:∀ V,Below w.heap.size w V->Calls Tryd.prog 8 #[bs dk] V (lX m6 V)):
 Calls Tryd.prog 4 #[I Q N] w fun e w'=>∃ v,e=.returned (.tuple #[v,I Q 0])/\Sv w' v m6 [1,(N:Int)+1] (nT N) (eZ N) 0/\Below w.heap.size w w':=by
 have HAA:=E HA
 have HCC:=E (fun V=>lp N h64 V)
 unfold lX at HAA
 unfold bs dk at HAA
 have HL:=E (ga (n:=N))
 have HR:=E (jG N)
 have HMK:Hid (∀ W:World,(Instr.makeSlice 26 (I Q N) (I Q N)).run Tryd.prog W=.ok (U (Z ⟨W.heap.size,0,O⟩) N N) (W.alloc (G (bP (eZ N)) 56))):=E (fun W=>by rw[fo N (by omega) W,iC];rfl)
 have HWP:Hid (IntKind.i64.wrap ((N:Int)+1)=(N:Int)+1):=E (by
  have hm9:((N:Int)+1) % (2 ^ 64:Int)=(N:Int)+1:=by omega
  unfold IntKind.wrap
  simp only[IntKind.bits,IntKind.signed,hm9]
  rw[if_neg (by simp;omega)])
 generalize m6=c at *
 generalize nT N=ii at *
 generalize eZ N=rr at *
 have hb1:Below w.heap.size w (w.alloc (G #[U O 0 0,I Q 0,I Q 0,U O 0 0,U O 0 0,I Q 0,U O 0 0] 28)):=(D _ _).alloc (C _) _
 have q0:=Bk.made w 28 #[U O 0 0,I Q 0,I Q 0,U O 0 0,U O 0 0,I Q 0,U O 0 0]
 clear HA
 go_enter Tryd.func4,Tryd.ntmps4
 go_upto_region 3 with fail
 generalize w.alloc (G #[U O 0 0,I Q 0,I Q 0,U O 0 0,U O 0 0,I Q 0,U O 0 0] 28)=y at *
 go_wp2_with fail
 refine(HAA.out y hb1).mono ?_
 rintro e z ⟨v,rfl,⟨sl,rfl,hO⟩,hz⟩
 obtain⟨aL,cL,rfl,hcl⟩:=bj hO
 have q1:=(hz.block _ (Bk.lt q0)).trans q0
 have b1:=hb1.trans (hz.mono hb1.size)
 have q2:=Bk.made z 24 #[U aL c.l.length cL,I Q c.lo,I Q c.un]
 have hza:Below z.heap.size z (z.alloc (G #[U aL c.l.length cL,I Q c.lo,I Q c.un] 24)):=(D _ _).alloc (C _) _
 replace q1:Bk _ w.heap.size 28 #[U O 0 0,I Q 0,I Q 0,U O 0 0,U O 0 0,I Q 0,U O 0 0]:=(hza.block _ (Bk.lt q1)).trans q1
 replace b1:=b1.trans (hza.mono b1.size)
 have hO2:=bF hO hza
 obtain⟨zb,hzb⟩:∃ zb,z.heap.size=zb:=⟨_,rfl⟩
 rw[hzb] at q2
 go_upto_region 4 with fail
 try rw[hzb]
 generalize z.alloc (G #[U aL c.l.length cL,I Q c.lo,I Q c.un] 24)=x at *
 have HQ:Hid (∀ W,Below x.heap.size x W->Bk W zb 24 #[U aL c.l.length cL,I Q c.lo,I Q c.un]/\Bk W w.heap.size 28 #[U O 0 0,I Q 0,I Q 0,U O 0 0,U O 0 0,I Q 0,U O 0 0]/\Below w.heap.size w W/\W.ownsRow y.heap.size 59 8 (U aL c.l.length cL) c.l.length (aK c.l)):=E fun W hW=>⟨(hW.block _ (Bk.lt q2)).trans q2,(hW.block _ (Bk.lt q1)).trans q1,b1.trans (hW.mono b1.size),bF hO2 hW⟩
 clear hO hO2 hza hz hb1 q0 q1 q2 b1 hzb HAA hcl
 refine bW [9] (fun j W=>match j with | 0=>Below x.heap.size x W | _=>∃ v,l4 aL cL c [1,(N:Int)+1] ii rr 0 v W/\(∃ cs,v=.agg cs/\Bk W w.heap.size 28 cs)/\Below w.heap.size w W/\W.ownsRow y.heap.size 59 8 (U aL c.l.length cL) c.l.length (aK c.l)) (fun _ W W2=>af W W2 (fun i=>i=w.heap.size)/\∃ cs,Bk W w.heap.size 28 cs) (fun vs=>{ tmps:=#[I Q (N:Int),L,H (Z ⟨w.heap.size,0,O⟩),vs 10,H (Z ⟨zb,0,O⟩),I Q 0,I Q 0,I Q (N:Int),.bool (decide ((N:Int)<1)),.bool (decide ((N:Int)<1)),I Q (N:Int),.bool (decide (64<(N:Int))),.bool (decide ((N:Int)<1) || decide (64<(N:Int))),L,.tuple #[.agg #[U aL c.l.length cL,I Q c.lo,I Q c.un],I Q 0,I Q 0],.tuple #[.agg #[U aL c.l.length cL,I Q c.lo,I Q c.un],I Q 0,I Q 0],.agg #[U aL c.l.length cL,I Q c.lo,I Q c.un],I Q 0,I Q 0,vs 0,vs 1,vs 2,vs 3,vs 4,vs 5,vs 6,vs 7,vs 8],defers:=[] }) (il [(3,fE [1,(N:Int)+1]),(5,dm ii),(7,dm rr),(8,l4 aL cL c [1,(N:Int)+1] ii rr 0)] [.agg #[U aL c.l.length cL,I Q c.lo,I Q c.un],I Q (N:Int),I Q ((N:Int)+1),L,I Q (N:Int),L,I Q (N:Int),L,L,L,I Q 0]) ?ghm ?ghr ?ghc ?ghnd ?ghlit ?gh0 ?ghW ?ghF ?ghS ?gops ?gdone
 case ghm=>kernel_rfl
 case ghr=>kernel_rfl
 case ghc=>kernel_rfl
 case ghnd=>decide
 case ghlit=>intro vs;rfl
 case gh0=>exact D _ _
 case ghW=>exact fun kk W W2 h hb=>match kk,h with
  | 0,h=>h.trans (hb.mono h.size)
  | _+1,⟨v,h1,⟨cs,h2,h3⟩,h4,h5⟩=>⟨v,h1.below hb,⟨cs,h2,(hb.block _ (Bk.lt h3)).trans h3⟩,h4.trans (hb.mono h4.size),bF h5 hb⟩
 case ghF=>exact cJ (by
  intro p0 hp
  simp only[List.mem_cons,List.not_mem_nil,or_false] at hp
  rcases hp with rfl|rfl|rfl|rfl
  ·exact fun v W W2 h hb=>fE.below h hb
  ·exact fun v W W2 h hb=>dm.below h hb
  ·exact fun v W W2 h hb=>dm.below h hb
  ·exact fun v W W2 h hb=>l4.below h hb)
 case ghS=>exact fun kk W W2 _ hs i v h=>fm (R:=fun W W2=>af W W2 (fun i=>i=w.heap.size)/\∃ cs,Bk W w.heap.size 28 cs) (ps:=[(3,fE [1,(N:Int)+1]),(5,dm ii),(7,dm rr),(8,l4 aL cL c [1,(N:Int)+1] ii rr 0)]) (l:=[.agg #[U aL c.l.length cL,I Q c.lo,I Q c.un],I Q (N:Int),I Q ((N:Int)+1),L,I Q (N:Int),L,I Q (N:Int),L,L,L,I Q 0]) (by
  intro p0 hp
  simp only[List.mem_cons,List.not_mem_nil,or_false] at hp
  rcases hp with rfl|rfl|rfl|rfl
  ·rintro v W W2 h ⟨hw,cs,hb⟩;exact fE.within h hw (by rintro b rfl;exact⟨_,_,hb,by decide,by decide⟩)
  ·rintro v W W2 h ⟨hw,cs,hb⟩;exact dm.within h hw (by rintro b rfl;exact⟨_,_,hb,by decide,by decide⟩)
  ·rintro v W W2 h ⟨hw,cs,hb⟩;exact dm.within h hw (by rintro b rfl;exact⟨_,_,hb,by decide,by decide⟩)
  ·rintro v W W2 h ⟨hw,cs,hb⟩;exact l4.within h hw (by rintro b rfl;exact⟨_,_,hb,by decide,by decide⟩)) i v W W2 h hs
 case gops=>
  refine⟨?_,?_,?_,?_,?_,?_,?_,?_,?_,?_,?_,trivial⟩
  ·intro vs W kk h1 h2 hW hd
   obtain rfl:kk=0:=Nat.le_zero.1 h2
   refine ah rfl ?_
   have hq:=(HQ.out W hW).1
   obtain⟨y0,y1,y2⟩:=hq.l6
   clear hq
   clear hd
   go_simp
   exact⟨rfl,D _ _⟩
  ·intro vs W kk h1 h2 hW hd
   obtain rfl:kk=0:=Nat.le_zero.1 h2
   refine ah rfl ?_
   clear hd
   go_simp
   exact⟨rfl,D _ _⟩
  ·intro vs W kk h1 h2 hW hd
   obtain rfl:kk=0:=Nat.le_zero.1 h2
   refine ah rfl ?_
   have e1:vs 1=I Q (N:Int):=hd 1 (by decide)
   clear hd
   go_simp
   exact⟨congrArg (Value.int .i64) HWP.out,D _ _⟩
  ·intro vs W kk h1 h2 hW hd
   obtain rfl:kk=0:=Nat.le_zero.1 h2
   refine ah rfl ?_
   have e2:vs 2=I Q ((N:Int)+1):=hd 2 (by decide)
   clear hd
   go_simp
   exact⟨⟨_,rfl,Bk.made W _ _⟩,(D _ _).alloc (C _) _⟩
  ·intro vs W kk h1 h2 hW hd
   obtain rfl:kk=0:=Nat.le_zero.1 h2
   refine ah rfl ?_
   clear hd
   go_simp
   exact⟨rfl,D _ _⟩
  ·intro vs W kk h1 h2 hW hd
   obtain rfl:kk=0:=Nat.le_zero.1 h2
   refine ah rfl ?_
   have e4:vs 4=I Q (N:Int):=hd 4 (by decide)
   have HV:=E (HCC.out W)
   clear hd
   go_simp
   refine HV.out.mono ?_
   rintro e zz ⟨v9,rfl,h5,h6⟩
   exact⟨_,rfl,h5,h6⟩
  ·intro vs W kk h1 h2 hW hd
   obtain rfl:kk=0:=Nat.le_zero.1 h2
   refine ah rfl ?_
   clear hd
   go_simp
   exact⟨rfl,D _ _⟩
  ·intro vs W kk h1 h2 hW hd
   obtain rfl:kk=0:=Nat.le_zero.1 h2
   refine ah rfl ?_
   have e6:vs 6=I Q (N:Int):=hd 6 (by decide)
   have hmk:=HMK.out W
   clear hd
   go_simp
   try simp only[hmk]
   have hrr:=HR.out
   exact⟨⟨_,by rw[hrr],Bk.made W _ _⟩,(D _ _).alloc (C _) _⟩
  ·intro vs W kk h1 h2 hW hd
   obtain rfl:kk=0:=Nat.le_zero.1 h2
   refine ah rfl ?_
   have e0:vs 0=.agg #[U aL c.l.length cL,I Q c.lo,I Q c.un]:=hd 0 (by decide)
   obtain⟨d1,e3,k1⟩:fE [1,(N:Int)+1] (vs 3) W:=hd 3 (by decide)
   obtain⟨d2,e5,k2⟩:dm ii (vs 5) W:=hd 5 (by decide)
   obtain⟨d3,e7,k3⟩:dm rr (vs 7) W:=hd 7 (by decide)
   clear hd
   go_simp
   exact⟨⟨d1,d2,d3,rfl,k1,k2,k3⟩,D _ _⟩
  ·intro vs W hW hd
   have hsp:l4 aL cL c [1,(N:Int)+1] ii rr 0 (vs 8) W:=hd 8 (by decide)
   obtain⟨d1,d2,d3,e8,k1,k2,k3⟩:=id hsp
   rw[show ([1,(N:Int)+1]:List Int).length=2 from rfl] at e8
   obtain⟨-,hq,hbw,hown⟩:=HQ.out W hW
   obtain⟨y0,y1,y2,y3,y4,y5,y6⟩:=hq.ja
   have zf:=Bk.free hq
   have hw7:=cG (y:=W) (g:=w.heap.size) (U aL c.l.length cL) (I Q c.lo) (I Q c.un) (U (Z ⟨d1,0,O⟩) 2 2) (U (Z ⟨d2,0,O⟩) ii.length ii.length) (I Q 0) (U (Z ⟨d3,0,O⟩) rr.length rr.length)
   have hk7:=fW hq (U aL c.l.length cL) (I Q c.lo) (I Q c.un) (U (Z ⟨d1,0,O⟩) 2 2) (U (Z ⟨d2,0,O⟩) ii.length ii.length) (I Q 0) (U (Z ⟨d3,0,O⟩) rr.length rr.length)
   have hb7:=dc hbw (C _) (U aL c.l.length cL) (I Q c.lo) (I Q c.un) (U (Z ⟨d1,0,O⟩) 2 2) (U (Z ⟨d2,0,O⟩) ii.length ii.length) (I Q 0) (U (Z ⟨d3,0,O⟩) rr.length rr.length)
   rw[e8] at hsp
   have hs7:=l4.within hsp hw7 (by rintro b rfl;exact⟨_,_,hq,by decide,by decide⟩)
   have ho7:=dy hown hw7 hq (by decide)
   have HKK:=E (And.intro hs7 (And.intro hk7 (And.intro hb7 (And.intro ho7 (And.intro hw7 hq)))))
   refine cV rfl ?_
   clear hd hsp hs7 hk7 hb7 ho7 hw7 hq hbw hown k1 k2 k3
   go_simp
   exact⟨rfl,⟨_,HKK.out.1,⟨_,rfl,HKK.out.2.1⟩,HKK.out.2.2.1,HKK.out.2.2.2.1⟩,HKK.out.2.2.2.2.1,_,HKK.out.2.2.2.2.2⟩
  ·intro vs W kk h1 h2 hW hd
   refine ah rfl ?_
   clear hd
   go_simp
   exact⟨rfl,D _ _⟩
 case gdone=>
  intro vs W hW hf
  have f0:vs 0=.agg #[U aL c.l.length cL,I Q c.lo,I Q c.un]:=hf 0 (by decide)
  have f1:vs 1=I Q (N:Int):=hf 1 (by decide)
  have f2:vs 2=I Q ((N:Int)+1):=hf 2 (by decide)
  have f4:vs 4=I Q (N:Int):=hf 4 (by decide)
  have f6:vs 6=I Q (N:Int):=hf 6 (by decide)
  have f10:vs 10=I Q 0:=hf 10 (by decide)
  simp only[f0,f1,f2,f4,f6,f10]
  clear f0 f1 f2 f4 f6 f10
  obtain⟨v,hsp,⟨cs,hcs,hq⟩,hbw,hown⟩:∃ v,l4 aL cL c [1,(N:Int)+1] ii rr 0 v W/\(∃ cs,v=.agg cs/\Bk W w.heap.size 28 cs)/\Below w.heap.size w W/\W.ownsRow y.heap.size 59 8 (U aL c.l.length cL) c.l.length (aK c.l):=hW
  obtain⟨d1,d2,d3,rfl,k1,k2,k3⟩:=id hsp
  injection hcs with hcs
  subst hcs
  generalize vs 3=r2 at *
  generalize vs 5=r5 at *
  generalize vs 7=r7 at *
  generalize vs 8=r8 at *
  clear hf HQ
  have hfin:=hsp.sv hown (by simp[maxLen]) (by rw[HL.out];unfold maxLen;omega) (by rw[HR.out];unfold maxLen;omega)
  rw[show ([1,(N:Int)+1]:List Int).length=2 from rfl] at hq hfin
  obtain⟨y0,y1,y2,y3,y4,y5,y6⟩:=hq.ja
  have HF:=E (And.intro hfin hbw)
  clear hq hfin hbw hown hsp k1 k2 k3
  go_wp
  exact bodyPost_ret (v:=.tuple #[.agg #[U aL c.l.length cL,I Q c.lo,I Q c.un,U (Z ⟨d1,0,O⟩) 2 2,U (Z ⟨d2,0,O⟩) ii.length ii.length,I Q 0,U (Z ⟨d3,0,O⟩) rr.length rr.length],I Q 0]) (by simp[results,Tryd.results4,go_sem,y0,y1,y2,y3,y4,y5,y6]) rfl ⟨_,rfl,HF.out.1,HF.out.2⟩
theorem dN (n:Int)(hn:¬ (1<=n/\n<=64))(w:World):Calls Tryd.prog 4 #[I Q n] w fun e w'=>e=.returned (.tuple #[oF,I Q 5])/\Below w.heap.size w w':=by
 unfold oF
 have b0:Below w.heap.size w (w.alloc (G #[U O 0 0,I Q 0,I Q 0,U O 0 0,U O 0 0,I Q 0,U O 0 0] 28)):=(D _ _).alloc (C _) _
 have q0:=Bk.made w 28 #[U O 0 0,I Q 0,I Q 0,U O 0 0,U O 0 0,I Q 0,U O 0 0]
 have HNN:=E hn
 clear hn
 go_enter Tryd.func4,Tryd.ntmps4
 go_upto_region 1 with fail
 generalize w.alloc (G #[U O 0 0,I Q 0,I Q 0,U O 0 0,U O 0 0,I Q 0,U O 0 0] 28)=y at *
 go_cut [12] (fun v wx=>v=.bool S/\y=wx)
 case first=>
  by_cases a1:n<1
  ·go_wp2
   go_meet
   case rel=>exact⟨rfl,rfl⟩
  ·have a2:64<n:=by have:=HNN.out;omega
   go_wp2
   go_meet
   case rel=>exact⟨rfl,rfl⟩
 case rest=>
  obtain⟨rfl,rfl⟩:=hcut
  have KK:=E (And.intro (fW q0 (U O 0 0) (I Q 0) (I Q 0) (U O 0 0) (U O 0 0) (I Q 0) (U O 0 0)) (dc b0 (C _) (U O 0 0) (I Q 0) (I Q 0) (U O 0 0) (U O 0 0) (I Q 0) (U O 0 0)))
  obtain⟨y0,y1,y2,y3,y4,y5,y6⟩:=q0.ja
  have zf:=Bk.free q0
  clear q0 b0
  go_wp
  clear y0 y1 y2 y3 y4 y5 y6 zf
  generalize hv:(((((((y.setCell ⟨w.heap.size,0,O⟩ (U O 0 0)).setCell ⟨w.heap.size,1,O⟩ (I Q 0)).setCell ⟨w.heap.size,2,O⟩ (I Q 0)).setCell ⟨w.heap.size,3,O⟩ (U O 0 0)).setCell ⟨w.heap.size,4,O⟩ (U O 0 0)).setCell ⟨w.heap.size,5,O⟩ (I Q 0)).setCell ⟨w.heap.size,6,O⟩ (U O 0 0))=x9
  replace hv:kS y w.heap.size (U O 0 0) (I Q 0) (I Q 0) (U O 0 0) (U O 0 0) (I Q 0) (U O 0 0)=x9:=hv
  rw[hv] at KK
  obtain⟨hq,b9⟩:=KK.out
  obtain⟨y0,y1,y2,y3,y4,y5,y6⟩:=hq.ja
  exact bodyPost_ret (v:=.tuple #[.agg #[U O 0 0,I Q 0,I Q 0,U O 0 0,U O 0 0,I Q 0,U O 0 0],I Q 5]) (by simp[results,Tryd.results4,go_sem,y0,y1,y2,y3,y4,y5,y6]) rfl ⟨rfl,b9⟩
end
