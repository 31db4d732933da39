import Derived.Test.YtbgaaclplgghcaaGreatDoorWCell
import Derived.Test.YtbgaaclplgghcaaGreatDoorWMem
import Derived.Laws.BitsAllLaws
import Derived.Test.YtbgaaclplgghcaaGreatDoorRows
import Derived.Deep.WholeRow
import Derived.Laws.Tables
import Derived.BigRegionIn
import Derived.Deep.RegionHeld3
import Derived.Deep.Cut
import Derived.Deep.QuietTactic
import Derived.BigQuiet
import Derived.ProofKit
import Derived.OpenShut
import Derived.Deep.Fields
import Derived.Lib.SmallJoins
import Derived.Deep.Slices
import Derived.ChangeSame
import Derived.Laws.CopyOwn
import Derived.Deep.DeepCutAuto
import Derived.Deep.CutBlock
set_option linter.unusedVariables false
set_option maxHeartbeats 2000000
set_option maxRecDepth 100000
open Go.Value renaming int->N,slice->G,pointer->D
open Go.IntKind renaming i64->O,u32->Z
open Option renaming none->S,some->T
open Bool renaming false->R,true->U
open Go.Obj renaming cells->C
open Go.Lib renaming hid->M
open Go.RowKit.Below renaming refl->Y
open Nat renaming le_refl->Za
namespace Go.Proofs.YtbgaaclplgghcaaGreatDoor
section
open Go.ChangeShapes Go.WideShapes Go.ChangeAt Go.RowKit
def kE (P:Program)(ops:Array Oper)(F:Nat->Nat->Value->World->Prop)(Wp:Nat->World->Prop)(Step:Nat->World->World->Prop)(lit:(Nat->Value)->Act)(st:List Nat):List Oper->Nat->Prop
 | [],_=>True
 | o :: l,i=>(match st.contains i with
  | true=>∀ (vs:Nat->Value) W,Wp (st.idxOf i) W->(∀ j∈bi ops i,F j (st.idxOf i) (vs j) W)->cZ P ops (fun v W'=>F i (st.idxOf i+1) v W'/\Wp (st.idxOf i+1) W'/\Step (st.idxOf i) W W') o (lit vs) W
  | false=>∀ (vs:Nat->Value) W k,tk ops st i<=k->k<=tu ops st i->Wp k W->(∀ j∈bi ops i,F j k (vs j) W)->cO P ops (F i k) o (lit vs) W)/\kE P ops F Wp Step lit st l (i+1)
theorem jn {P:Program}{ops:Array Oper}{F:Nat->Nat->Value->World->Prop}{Wp:Nat->World->Prop}{Step:Nat->World->World->Prop}{lit:(Nat->Value)->Act}{st:List Nat}:∀ (l:List Oper) (b i:Nat) (o:Oper),kE P ops F Wp Step lit st l b->l[i]?=T o->
 (st.contains (b+i)=U->∀ (vs:Nat->Value) W,Wp (st.idxOf (b+i)) W->(∀ j∈bi ops (b+i),F j (st.idxOf (b+i)) (vs j) W)->cZ P ops (fun v W'=>F (b+i) (st.idxOf (b+i)+1) v W'/\Wp (st.idxOf (b+i)+1) W'/\Step (st.idxOf (b+i)) W W') o (lit vs) W)/\
 (st.contains (b+i)=R->∀ (vs:Nat->Value) W k,tk ops st (b+i)<=k->k<=tu ops st (b+i)->Wp k W->(∀ j∈bi ops (b+i),F j k (vs j) W)->cO P ops (F (b+i) k) o (lit vs) W)
 | [],b,i,o,_,hi=>by simp at hi
 | x :: l,b,0,o,h,hi=>by
  simp only[List.getElem?_cons_zero,Option.some.injEq] at hi
  subst hi
  have h1:=h.1
  simp only[Nat.add_zero]
  constructor
  ·intro e;rw[e] at h1;exact h1
  ·intro e;rw[e] at h1;exact h1
 | x :: l,b,i+1,o,h,hi=>by
  have:=jn l (b+1) i o h.2 (by simpa using hi)
  rw[show b+1+i=b+(i+1) by omega] at this
  exact this
theorem fi {P:Program}{l:List Oper}{Q:Exit->Act->World->Prop}{id:Nat}{a:Act}{w:World}(st:List Nat)(Wp:Nat->World->Prop)(Step:Nat->World->World->Prop)(lit:(Nat->Value)->Act)(F:Nat->Nat->Value->World->Prop)
 (hm:P.follows .mixedOrders=U) (hr:nw l.toArray=U) (hc:ij l.toArray st=U) (hnd:st.Nodup) (hlit:∀ vs,aF l.toArray a (fun _=>U) vs=lit vs)
 (h0:Wp 0 w)
 (hW:∀ k W W',Wp k W->Below W.heap.size W W'->Wp k W')
 (hF:∀ i k v W W',F i k v W->Below W.heap.size W W'->F i k v W')
 (hS:∀ k W W',Wp k W->Step k W W'->∀ i v,F i k v W->F i (k+1) v W')
 (hop:kE P l.toArray F Wp Step lit st l 0)
 (hend:∀ (vs:Nat->Value) W,Wp st.length W->(∀ i,i<l.length->F i st.length (vs i) W)->Q .normal (lit vs) W):(Code.region id l.toArray U).wp P Q a w:=by
 refine fh hm hr (fun d vs W=>∃ k,k<=st.length/\(∀ j s,st[j]?=T s->(d s=U↔j<k))/\(∀ i,d i=U->∀ j∈bi l.toArray i,d j=U)/\Wp k W/\∀ i,d i=U->F i k (vs i) W) ?_ ?_ ?_
 ·exact⟨0,Nat.zero_le _,fun j s _=>by simp,(fun i h=>by cases h),hW 0 _ _ h0 (Y _ _).drew,(fun i h=>by cases h)⟩
 ·rintro i o ho d vs W ⟨k,hk,hst,hcl,hWk,hFd⟩ hdi hdep
  have ho':l[i]?=T o:=by simpa using ho
  rw[hlit]
  obtain⟨e1,e2⟩:=jn l 0 i o hop ho'
  rw[Nat.zero_add] at e1 e2
  have hFdep:∀ j∈bi l.toArray i,F j k (vs j) W:=fun j hj=>hFd j (hdep j hj)
  cases hci:st.contains i with
  | true=>
   have hmem:i∈st:=by simpa using hci
   have hidx:st.idxOf i<st.length:=List.idxOf_lt_length_iff.2 hmem
   have hat:st[st.idxOf i]?=T i:=by rw[List.getElem?_eq_getElem hidx,List.getElem_idxOf hidx]
   have hki:st.idxOf i=k:=by
    have h1:¬ st.idxOf i<k:=fun h=>by
     have:=(hst _ i hat).2 h
     rw[hdi] at this;cases this
    rcases Nat.lt_or_eq_of_le (Nat.le_of_not_lt h1) with h2 | h2
    ·exfalso
     have hp:st.idxOf i-1+1=st.idxOf i:=by omega
     have hpl:st.idxOf i-1<st.length:=by omega
     have hs:=kI st hc (st.idxOf i-1) st[st.idxOf i-1] i (List.getElem?_eq_getElem hpl) (by rw[hp];exact hat)
     have hd:=hdep _ hs
     have:=(hst _ _ (List.getElem?_eq_getElem hpl)).1 hd
     omega
    ·exact h2.symm
   have h3:=e1 hci vs W (by rw[hki];exact hWk) (by rw[hki];exact hFdep)
   refine gm h3 ?_
   rintro v W' ⟨hv,hW2,hstep⟩
   rw[hki] at hv hW2 hstep
   refine⟨k+1,by omega,fun j s hs=>?_,fun x hx j hj=>by
    by_cases e:x=i
    ·subst e;have h4:=hdep j hj;by_cases e2:j=x <;> simp[e2,h4]
    ·simp only[if_neg e] at hx;have h4:=hcl x hx j hj;by_cases e2:j=i <;> simp[e2,h4],hW2,fun j hj=>?_⟩
   ·by_cases e:s=i
    ·subst e
     have hj:j=k:=by
      rw[<-hki]
      have hjl:=(List.getElem?_eq_some_iff.1 hs).1
      have hsj:=(List.getElem?_eq_some_iff.1 hs).2
      have:=hnd.idxOf_getElem j hjl
      rw[hsj] at this
      exact this.symm
     simp;omega
    ·simp only[if_neg e]
     rw[hst j s hs]
     constructor
     ·omega
     ·intro h
      by_cases hj:j=k
      ·exfalso
       subst hj
       rw[<-hki,hat] at hs
       injection hs with hs
       exact e hs.symm
      ·omega
   ·by_cases e:j=i
    ·subst e;simp only[if_true];exact hv
    ·simp only[if_neg e] at hj ⊢
     exact hS k W W' hWk hstep j _ (hFd j hj)
  | false=>
   have hnm:i ∉ st:=by simpa using hci
   have hlo:tk l.toArray st i<=k:=by
    unfold tk
    have hsub:∀ (s:List Nat) (b:Nat),(∀ j x,s[j]?=T x->st[b+j]?=T x)->(s.filter fun x=>(bi l.toArray i).contains x).length<=k-b:=by
     intro s
     induction s with
     | nil=>intro b _;simp
     | cons x s ih=>
      intro b hb
      have hx:=hb 0 x (by simp)
      rw[Nat.add_zero] at hx
      have ih2:=ih (b+1) (fun j y hy=>by rw[show b+1+j=b+(j+1) by omega];exact hb (j+1) y (by simpa using hy))
      rw[List.filter_cons]
      split
      ·rename_i hcx
       have hd:=hdep x (by simpa using hcx)
       have:=(hst b x hx).1 hd
       simp only[List.length_cons]
       omega
      ·omega
    have:=hsub st 0 (fun j x h=>by rw[Nat.zero_add];exact h)
    omega
   have hhi:k<=tu l.toArray st i:=by
    unfold tu
    rcases Nat.lt_or_ge (st.findIdx fun s=>(bi l.toArray s).contains i) st.length with h | h
    ·refine Nat.le_of_not_lt fun hlt=>?_
     have hp:=List.findIdx_getElem (w:=h)
     have hd:=(hst _ _ (List.getElem?_eq_getElem h)).2 hlt
     have:=hcl _ hd i (by simpa using hp)
     rw[hdi] at this
     cases this
    ·omega
   exact gh (e2 hci vs W k hlo hhi hWk hFdep) (fun v W' hv hb=>⟨k,hk,fun j s hs=>by
    have hne:s≠i:=fun e=>hnm (e ▸ List.mem_of_getElem? hs)
    simp only[if_neg hne]
    exact hst j s hs,fun x hx j hj=>by
    by_cases e:x=i
    ·subst e;have h4:=hdep j hj;by_cases e2:j=x <;> simp[e2,h4]
    ·simp only[if_neg e] at hx;have h4:=hcl x hx j hj;by_cases e2:j=i <;> simp[e2,h4],hW k W W' hWk hb,fun j hj=>by
    by_cases e:j=i
    ·subst e;simp only[if_true];exact hv
    ·simp only[if_neg e] at hj ⊢
     exact hF j _ _ W W' (hFd j hj) hb⟩)
 ·rintro d vs W ⟨k,hk,hst,hcl,hWk,hFd⟩ hall
  rw[hlit]
  have hks:k=st.length:=by
   rcases Nat.lt_or_eq_of_le hk with h | h
   ·exfalso
    have h1:=(hst k _ (List.getElem?_eq_getElem h))
    have h2:=hall st[k] (kH st hc _ (List.getElem_mem h))
    have:=h1.1 h2
    omega
   ·exact h
  subst hks
  exact hend vs W hWk (fun i hi=>hFd i (hall i (by simpa using hi)))
end
section
open Go.RowKit
def bg (xs:List Int):Prop:=xs.length=8/\fz xs
theorem aD {xs:List Int}(h:xs.length=8):∃ a b c d e f g i,xs=[a,b,c,d,e,f,g,i]:=by
 match xs,h with
 | [a,b,c,d,e,f,g,i],_=>exact⟨a,b,c,d,e,f,g,i,rfl⟩
def kX (a b:Int):Int:=((a.toNat &&& b.toNat:Nat):Int)
def BY (a b:Int):Int:=((a.toNat ||| b.toNat:Nat):Int)
theorem sR {a b:Int}(h0:0<=a)(h1:a<4294967296):0<=kX a b/\kX a b<4294967296:=by
 unfold kX
 have:=Nat.and_le_left (n:=a.toNat) (m:=b.toNat)
 omega
theorem uJ {a b:Int}(h0:0<=a)(h1:a<4294967296)(h2:0<=b)(h3:b<4294967296):0<=BY a b/\BY a b<4294967296:=by
 unfold BY
 have:=Nat.or_lt_two_pow (x:=a.toNat) (y:=b.toNat) (n:=32) (by omega) (by omega)
 omega
def j9 (both:Bool)(a b:Nat):Nat->Nat
 | 0=>0
 | n+1=>j9 both a b n+(if (if both then a / 2 ^ n % 2+b / 2 ^ n % 2=2 else 0<a / 2 ^ n % 2+b / 2 ^ n % 2) then 2 ^ n else 0)
theorem qQ (x n:Nat):x % 2 ^ (n+1)=x % 2 ^ n+(if x / 2 ^ n % 2=1 then 2 ^ n else 0):=by
 rw[Nat.mod_pow_succ]
 have:x / 2 ^ n % 2=0\/x / 2 ^ n % 2=1:=by omega
 rcases this with h | h <;> simp[h]
theorem Bd (a b n:Nat):(a &&& b) / 2 ^ n % 2=1↔a / 2 ^ n % 2=1/\b / 2 ^ n % 2=1:=by
 have h:=Nat.testBit_and a b n
 simp only[Nat.testBit_eq_decide_div_mod_eq,decide_eq_decide,<-Bool.decide_and] at h
 exact h
theorem C9 (a b n:Nat):(a ||| b) / 2 ^ n % 2=1↔a / 2 ^ n % 2=1\/b / 2 ^ n % 2=1:=by
 have h:=Nat.testBit_or a b n
 simp only[Nat.testBit_eq_decide_div_mod_eq,decide_eq_decide,<-Bool.decide_or] at h
 exact h
theorem qR (a b:Nat):∀ n,j9 U a b n=(a &&& b) % 2 ^ n
 | 0=>by simp[j9,Nat.mod_one]
 | n+1=>by
  rw[qQ,j9,qR a b n]
  congr 1
  have h1:a / 2 ^ n % 2=0\/a / 2 ^ n % 2=1:=by omega
  have h2:b / 2 ^ n % 2=0\/b / 2 ^ n % 2=1:=by omega
  have h3:=Bd a b n
  rcases h1 with h1 | h1 <;> rcases h2 with h2 | h2 <;> simp[h1,h2] at h3 ⊢ <;> simp[h3]
theorem ud (a b:Nat):∀ n,j9 R a b n=(a ||| b) % 2 ^ n
 | 0=>by simp[j9,Nat.mod_one]
 | n+1=>by
  rw[qQ,j9,ud a b n]
  congr 1
  have h1:a / 2 ^ n % 2=0\/a / 2 ^ n % 2=1:=by omega
  have h2:b / 2 ^ n % 2=0\/b / 2 ^ n % 2=1:=by omega
  have h3:=C9 a b n
  rcases h1 with h1 | h1 <;> rcases h2 with h2 | h2 <;> simp[h1,h2] at h3 ⊢ <;> simp[h3]
theorem ue (both:Bool)(a b:Nat):∀ n,j9 both a b n<2 ^ n
 | 0=>by simp[j9]
 | n+1=>by
  have:=ue both a b n
  rw[j9,Nat.pow_succ]
  have:∀ c:Prop,[Decidable c]->(if c then 2 ^ n else 0)<=2 ^ n:=by intro c _;split <;> omega
  have:=this (if both=U then a / 2 ^ n % 2+b / 2 ^ n % 2=2 else 0<a / 2 ^ n % 2+b / 2 ^ n % 2)
  omega
theorem Be (both:Bool)(a b:Int)(h0:0<=a)(h1:a<4294967296)(h2:0<=b)(h3:b<4294967296):(j9 both a.toNat b.toNat 32:Int)=if both then kX a b else BY a b:=by
 cases both
 ·rw[ud,Nat.mod_eq_of_lt (Nat.or_lt_two_pow (by omega) (by omega))];rfl
 ·rw[qR,Nat.mod_eq_of_lt (Nat.lt_of_le_of_lt Nat.and_le_left (by omega))];rfl
def wB (op a b k self:Int):Option Int:=
 if op=1 then T k
 else if op=2 then T a
 else if op=3 then T ((a+k) % 4294967296)
 else if op=4 then T (kX a k)
 else if op=5 then T (a*2 ^ k.toNat % 4294967296)
 else if op=6 then T (a / 2 ^ k.toNat)
 else if op=7 then T (BY a b)
 else if op=11 then T self
 else S
def fE (xs:List Int)(i:aM)(self:Int):Option Int:=wB i.op (aG xs i.s.toNat) (aG xs i.t.toNat) i.k self
def gH (op a b pl pc:Int):Int:=if op=10\/(op=8/\a=b)\/(op=9/\a≠b) then pl else if op=13 then pc else pc+1
def ig (xs:List Int)(pc:Int)(i:aM):Int:=gH i.op (aG xs i.s.toNat) (aG xs i.t.toNat) i.pl pc
def BK (xs:List Int)(i:aM)(self:Int):List Int:=match fE xs i self with
 | some v=>xs.set i.d.toNat v
 | none=>xs
def jh (xs:List Int)(i:aM)(self:Int):List Int:=if cN i.op then xs else BK xs i self
def lp (xs:List Int)(pc:Int)(i:aM):Int:=if cN i.op then pc else ig xs pc i
structure Bu (i:aM):Prop where
 op:(1<=i.op/\i.op<=13)\/(16<=i.op/\i.op<=23)
 d:0<=i.d/\i.d<=7
 s:0<=i.s/\i.s<=7
 t:0<=i.t/\i.t<=7
 k:0<=i.k/\i.k<4294967296
 sh:(i.op=5\/i.op=6)->i.k<=31
 mark:(i.op=12\/i.op=13)->i.k<=4
theorem BM {i:aM}{p:Int}(h:au i p=U)(k0:0<=i.k)(k1:i.k<4294967296):Bu i:=by
 obtain⟨hd,hs,ht,hu,ha⟩:=eu i p h
 obtain⟨op,d,s,t,u,a,k,pl⟩:=i
 simp only at k0 k1 hd hs ht hu ha
 refine⟨?_,hd,hs,ht,⟨k0,k1⟩,?_,?_⟩
 ·rcases ci op with rfl|rfl|rfl|rfl|rfl|rfl|rfl|rfl|rfl|rfl|rfl|rfl|rfl|rfl|rfl|rfl|rfl|rfl|rfl|rfl|rfl | hn
  rotate_right
  ·unfold au at h
   rw[(dv hn).1] at h
   simp at h
  all_goals simp
 ·rintro(e | e)
  ·simp only at e
   subst e
   rw[jS d s t u a k pl p hd hs ht hu ha k0 k1] at h
   simp at h
   exact h.2
  ·simp only at e
   subst e
   rw[jR d s t u a k pl p hd hs ht hu ha k0 k1] at h
   simp at h
   exact h.2
 ·rintro(e | e)
  ·simp only at e
   subst e
   rw[iF d s t u a k pl p hd hs ht hu ha k0 k1] at h
   simp at h
   show k<=4
   omega
  ·simp only at e
   subst e
   rw[iE d s t u a k pl p hd hs ht hu ha k0 k1] at h
   simp at h
   show k<=4
   omega
section
variable {xs:List Int}{i:aM}{self:Int}
theorem pi {k:Int}(h0:0<=k)(h1:k<=31):(1:Int)<=2 ^ k.toNat/\(2:Int) ^ k.toNat<=2147483648:=by
 have a:=Nat.one_le_two_pow (n:=k.toNat)
 have b:=Nat.pow_le_pow_right (n:=2) (by omega) (show k.toNat<=31 by omega)
 have e:((2 ^ k.toNat:Nat):Int)=(2:Int) ^ k.toNat:=by simp
 omega
theorem rq (hx:fz xs)(h:Bu i)(h0:0<=self)(h1:self<4294967296){v:Int}(hv:fE xs i self=T v):0<=v/\v<4294967296:=by
 have es:=hx.at_ i.s.toNat
 have et:=hx.at_ i.t.toNat
 have hk:=h.k
 unfold fE wB at hv
 repeat' split at hv
 all_goals first | (injection hv with hv;subst hv) | cases hv
 ·omega
 ·omega
 ·omega
 ·exact sR es.1 es.2
 ·omega
 ·rename_i e
  have hp:=pi hk.1 (h.sh (.inr e))
  have:=Int.ediv_le_self (2 ^ i.k.toNat) es.1
  have:=Int.ediv_nonneg es.1 (by omega:(0:Int)<=2 ^ i.k.toNat)
  omega
 ·exact uJ es.1 es.2 et.1 et.2
 ·omega
theorem bg.one (hx:bg xs)(h:Bu i)(h0:0<=self)(h1:self<4294967296):bg (jh xs i self):=by
 unfold jh BK
 split
 ·exact hx
 ·split
  ·rename_i v hv
   exact⟨by rw[List.length_set];exact hx.1,hx.2.set _ _ (rq hx.2 h h0 h1 hv)⟩
  ·exact hx
end
structure FP where
 xs:List Int
 pc:Int
 ms:List Int
 done:Int
 e:Int
def fJ (self:Int)(l:List aM):Nat->List Int->Int->List Int->FP
 | n,xs,pc,ms=>
  if pc<0 then ⟨xs,pc,ms,-1,11⟩
  else match l[pc.toNat]? with
   | none=>⟨xs,pc,ms,-1,11⟩
   | some i=>if cN i.op then ⟨xs,pc,ms,-1,0⟩
    else match n with
     | 0=>⟨xs,pc,ms,-1,11⟩
     | n+1=>if i.op=13 then ⟨xs,pc,ms,i.k,0⟩ else fJ self l n (jh xs i self) (lp xs pc i) (if i.op=12 then ms++[i.k] else ms)
section
variable {self:Int}{l:List aM}{n:Nat}{xs:List Int}{pc:Int}{ms:List Int}
theorem mP (h:pc<0\/l.length<=pc):fJ self l n xs pc ms=⟨xs,pc,ms,-1,11⟩:=by
 unfold fJ
 by_cases h0:pc<0
 ·rw[if_pos h0]
 ·rw[if_neg h0,List.getElem?_eq_none (by omega)]
theorem mQ {i:aM}{k:Nat}(h:l[k]?=T i)(hm:cN i.op=U):fJ self l n xs k ms=⟨xs,k,ms,-1,0⟩:=by
 unfold fJ
 rw[if_neg (by omega),Int.toNat_natCast,h]
 simp[hm]
theorem ko {i:aM}{k:Nat}(h:l[k]?=T i)(hm:cN i.op=R):fJ self l 0 xs k ms=⟨xs,k,ms,-1,11⟩:=by
 unfold fJ
 rw[if_neg (by omega),Int.toNat_natCast,h]
 simp[hm]
theorem kt {i:aM}{k:Nat}(h:l[k]?=T i)(hm:i.op=13):fJ self l (n+1) xs k ms=⟨xs,k,ms,i.k,0⟩:=by
 unfold fJ
 rw[if_neg (by omega),Int.toNat_natCast,h]
 simp[hm,cN]
theorem kr {i:aM}{k:Nat}(h:l[k]?=T i)(hm:cN i.op=R)(h13:i.op≠13):fJ self l (n+1) xs k ms=fJ self l n (jh xs i self) (lp xs k i) (if i.op=12 then ms++[i.k] else ms):=by
 conv=>lhs;unfold fJ
 rw[if_neg (by omega),Int.toNat_natCast,h]
 simp[hm,h13]
end
theorem fS {self:Int}{l:List aM}(hl:∀ i∈l,Bu i)(h0:0<=self)(h1:self<4294967296):∀ (n:Nat) (xs:List Int) (pc:Int) (ms:List Int),bg xs->bg (fJ self l n xs pc ms).xs
 | n,xs,pc,ms,hx=>by
  by_cases h9:pc<0\/l.length<=pc
  ·rw[mP h9];exact hx
  ·obtain⟨k,rfl⟩:∃ k:Nat,pc=k:=⟨pc.toNat,by omega⟩
   have hk:=List.getElem?_eq_getElem (l:=l) (i:=k) (by omega)
   have hi:=hl _ (List.getElem_mem (l:=l) (n:=k) (by omega))
   generalize l[k]=i at hk hi
   by_cases hm:cN i.op=U
   ·rw[mQ hk hm];exact hx
   ·have hm':cN i.op=R:=by simpa using hm
    match n with
    | 0=>rw[ko hk hm'];exact hx
    | n+1=>
     by_cases h13:i.op=13
     ·rw[kt hk h13];exact hx
     ·rw[kr hk hm' h13];exact fS hl h0 h1 n _ _ _ (hx.one hi h0 h1)
end
section
def dO (zs:List Int):Prop:=zs.length<=8/\∀ k,k<zs.length->0<=aG zs k/\aG zs k<=4096
def sz (zs:List Int)(k:Nat):Nat:=(aG zs k).toNat
def pre (zs:List Int):Nat->Nat
 | 0=>0
 | k+1=>pre zs k+sz zs k
theorem fp (zs:List Int)(k:Nat):pre zs (k+1)=pre zs k+sz zs k:=rfl
def jf (zs:List Int):Nat:=pre zs zs.length
def i3 (zs:List Int):Nat->List (Nat×Nat)
 | 0=>[]
 | k+1=>i3 zs k++(List.range (sz zs k)).map fun i=>(k,i)
def nA (zs:List Int):List (Nat×Nat):=i3 zs zs.length
section
variable {zs:List Int}
theorem zo (h:dO zs){k:Nat}(hk:k<zs.length):aG zs k=(sz zs k:Int):=by
 have:=(h.2 k hk).1;unfold sz;omega
theorem BI (h:dO zs){k:Nat}(hk:k<zs.length):sz zs k<=4096:=by
 have:=(h.2 k hk);unfold sz;omega
theorem qq (zs:List Int){a b:Nat}(h:a<=b):pre zs a<=pre zs b:=by
 induction b with
 | zero=>
  obtain rfl:a=0:=by omega
  exact Za _
 | succ b ih=>
  by_cases e:a=b+1
  ·subst e;exact Za _
  ·exact Nat.le_trans (ih (by omega)) (by simp[pre])
theorem pG (h:dO zs):∀ k,k<=zs.length->pre zs k<=4096*k
 | 0,_=>Za _
 | k+1,hk=>by
  have h1:=pG h k (by omega)
  have h2:=BI h (k:=k) (by omega)
  rw[fp];omega
theorem sY (h:dO zs):jf zs<=32768:=by
 have h1:=pG h zs.length (Za _)
 have h2:=h.1
 unfold jf;omega
theorem Au {k:Nat}(hk:k<=zs.length):pre zs k<=jf zs:=qq zs hk
theorem iN (zs:List Int):∀ k,(i3 zs k).length=pre zs k
 | 0=>rfl
 | k+1=>by simp[i3,pre,iN zs k]
theorem jQ (zs:List Int):(nA zs).length=jf zs:=iN zs _
theorem qO (zs:List Int):∀ K a p,a<K->p<sz zs a->(i3 zs K)[pre zs a+p]?=T (a,p)
 | 0,a,p,ha,_=>by omega
 | K+1,a,p,ha,hp=>by
  unfold i3
  rw[List.getElem?_append,iN]
  by_cases e:a=K
  ·subst e
   rw[if_neg (by omega),Nat.add_sub_cancel_left]
   simp[hp]
  ·have h1:pre zs (a+1)<=pre zs K:=qq zs (by omega)
   rw[fp] at h1
   rw[if_pos (by omega)]
   exact qO zs K a p (by omega) hp
theorem lV {a p:Nat}(ha:a<zs.length)(hp:p<sz zs a):(nA zs)[pre zs a+p]?=T (a,p):=qO zs _ a p ha hp
theorem nM (zs:List Int):∀ K i,i<pre zs K->∃ a p,a<K/\p<sz zs a/\i=pre zs a+p
 | 0,i,h=>by unfold pre at h;omega
 | K+1,i,h=>by
  by_cases e:i<pre zs K
  ·obtain⟨a,p,h1,h2,h3⟩:=nM zs K i e
   exact⟨a,p,by omega,h2,h3⟩
  ·rw[fp] at h
   exact⟨K,i-pre zs K,by omega,by omega,by omega⟩
theorem nG {i:Nat}(h:i<jf zs):∃ a p,a<zs.length/\p<sz zs a/\i=pre zs a+p:=nM zs _ i h
theorem s9 {a p:Nat}(ha:a<zs.length)(hp:p<sz zs a):pre zs a+p<jf zs:=by
 have h1:pre zs (a+1)<=jf zs:=Au (by omega)
 rw[fp] at h1;omega
def tz (c:Nat×Nat):List Value:=[N O c.1,N O c.2]
def jw (l:List (Nat×Nat)):List Value:=l.flatMap tz
theorem sM (l:List (Nat×Nat))(c:Nat×Nat):jw (l++[c])=jw l++tz c:=by simp[jw]
theorem qN:∀ (l:List (Nat×Nat)) (k:Nat) (c:Nat×Nat),l[k]?=T c->(jw l)[k*2]?=T (N O c.1)/\(jw l)[k*2+1]?=T (N O c.2)
 | [],k,c,h=>by simp at h
 | x :: l,0,c,h=>by simp at h;subst h;exact⟨rfl,rfl⟩
 | x :: l,k+1,c,h=>by
  have ih:=qN l k c (by simpa using h)
  have e:jw (x :: l)=N O x.1 :: N O x.2 :: jw l:=by simp[jw,tz]
  rw[e,show (k+1)*2=k*2+1+1 by omega]
  exact ih
def dM (zs:List Int)(k i:Nat):List (Nat×Nat):=i3 zs k++(List.range i).map fun i=>(k,i)
theorem vI (zs:List Int)(k:Nat):dM zs k 0=i3 zs k:=by simp[dM]
theorem qe (zs:List Int)(k:Nat):dM zs k (sz zs k)=i3 zs (k+1):=rfl
theorem oN (zs:List Int)(k i:Nat):dM zs k (i+1)=dM zs k i++[(k,i)]:=by simp[dM,List.range_succ]
theorem qd (zs:List Int)(k i:Nat):(dM zs k i).length=pre zs k+i:=by simp[dM,iN]
end
structure Lk where
 l:List aM
 lo:Int
 un:Int
 zs:List Int
 each:Nat
 n:Nat
structure kg where
 xs:List Int
 pc:Int
structure Pn where
 free:Nat->List Nat
 gen:List Int
 out:List Int
structure Mc where
 ws:List Int
 pn:Pn
 cs:Nat->kg
structure Ot where
 ms:List Int
 done:Int
 addr:Int
 wrote:Bool
 stay:Bool
 e:Int
def eL {α:Type}(f:Nat->α)(t:Nat)(v:α):Nat->α:=fun i=>if i=t then v else f i
theorem kj {α:Type}(f:Nat->α)(t:Nat)(v:α):eL f t v t=v:=by simp[eL]
theorem i5 {α:Type}{f:Nat->α}{t i:Nat}{v:α}(h:i≠t):eL f t v i=f i:=by simp[eL,h]
def EP (gen:List Int)(q:Nat):Int:=aG gen q*4096+((q:Int)+1)
def F6 (gen out:List Int)(h:Int):Bool:=decide (1<=h % 4096/\h % 4096<=(out.length:Int)/\aG out (h % 4096-1).toNat=1/\EP gen (h % 4096-1).toNat=h)
def wh (p:Pn)(t:Nat):Pn×Int:=match p.free t with
 | []=>(p,0)
 | q :: rest=>(⟨eL p.free t rest,p.gen,p.out.set q 1⟩,EP p.gen q)
def zx (each:Nat)(p:Pn)(h:Int):Option Pn:=
 if h=0 then T p
 else if F6 p.gen p.out h then
  let q:=(h % 4096-1).toNat
  T ⟨eL p.free (q / each) (p.free (q / each)++[q]),p.gen.set q ((h / 4096+1) % 262144),p.out.set q 0⟩
 else S
def oA (n each:Nat):Pn:=⟨fun t=>(List.range each).map fun i=>t*each+i,List.replicate (n*each) 0,List.replicate (n*each) 0⟩
def ny (each:Nat)(p:Pn)(t:Nat):Int:=(each:Int)-((p.free t).length:Int)
def fA (zs:List Int)(area v:Int):Option Nat:=
 if 0<=area/\area<zs.length/\v % 4096<sz zs area.toNat then T (pre zs area.toNat+(v % 4096).toNat) else S
def im (k:Lk)(m:Mc)(t:Nat)(c:kg)(o:Ot):Mc×Ot:=
 let r:=fJ (t:Int) k.l 256 c.xs c.pc []
 ({ m with cs:=eL m.cs t ⟨r.xs,r.pc⟩ },{ o with ms:=r.ms,done:=r.done,e:=r.e })
def co (k:Lk)(m:Mc)(t:Nat)(unlock:Bool):Mc×Ot:=
 im k m t ⟨(m.cs t).xs,if unlock then k.un else k.lo⟩ ⟨[],0,-1,R,R,0⟩
def eX:Ot:=⟨[],-1,-1,R,R,11⟩
def gW (k:Lk)(pc:Int):Option aM:=if pc<0 then S else match k.l[pc.toNat]? with
 | some i=>if cN i.op then T i else S
 | none=>S
def pN (k:Lk)(m:Mc)(t:Nat)(c:kg)(late:Bool)(i:aM)(a:Nat):Mc×Ot:=
 let v:=aG c.xs i.t.toNat
 let u:=aG c.xs i.u.toNat
 let was:=aG m.ws a
 let d:=i.d.toNat
 let o:Ot:=⟨[],0,a,R,R,0⟩
 if i.op=16 then im k m t ⟨c.xs.set d was,c.pc+1⟩ o
 else if i.op=17 then im k { m with ws:=m.ws.set a v } t ⟨c.xs,c.pc+1⟩ { o with wrote:=U }
 else if i.op=18 then im k { m with ws:=m.ws.set a v } t ⟨c.xs.set d was,c.pc+1⟩ { o with wrote:=U }
 else if i.op=19 then
  if was=v then im k { m with ws:=m.ws.set a u } t ⟨c.xs.set d 1,c.pc+1⟩ { o with wrote:=U }
  else im k m t ⟨c.xs.set d 0,c.pc+1⟩ o
 else if i.op=20 then im k { m with ws:=m.ws.set a ((was+i.k) % 4294967296) } t ⟨c.xs.set d was,c.pc+1⟩ { o with wrote:=U }
 else
  let holds:=decide (was=v) != decide (i.k=1)
  if holds then im k m t ⟨c.xs.set d was,c.pc+1⟩ o
  else if late=R\/i.pl<0 then ({ m with cs:=eL m.cs t ⟨c.xs.set d was,c.pc⟩ },{ o with stay:=U,done:=-1 })
  else im k m t ⟨c.xs.set d was,i.pl⟩ o
def dw (k:Lk)(m:Mc)(t:Nat)(late:Bool):Mc×Ot:=
 let c:=m.cs t
 match gW k c.pc with
 | none=>(m,eX)
 | some i=>
  let s:=aG c.xs i.s.toNat
  if i.op=22 then
   let r:=wh m.pn t
   im k { m with pn:=r.1 } t ⟨c.xs.set i.d.toNat r.2,c.pc+1⟩ ⟨[],0,-1,R,R,0⟩
  else if i.op=23 then match zx k.each m.pn s with
   | none=>(m,eX)
   | some p=>im k { m with pn:=p } t ⟨c.xs,c.pc+1⟩ ⟨[],0,-1,R,R,0⟩
  else match fA k.zs i.a s with
   | none=>(m,eX)
   | some a=>pN k m t c late i a
def oB (k:Lk)(init r7:List Int):Mc:=⟨init,oA k.n k.each,fun t=>⟨[0,0,0,0,0,0,0,aG r7 t],0⟩⟩
structure Rn where
 m:Mc
 act:Nat->Int
 l:List En
 bad:Bool
structure E6 where
 kind:Int
 t:Int
 late:Bool
def enter (r:Rn)(kind:Int)(t:Nat):Rn:={ r with l:=r.l++[⟨kind,t,0⟩] }
def Eg (k:Int):Int:=if k=1 then 2 else if k=2 then 3 else if k=3 then 4 else if k=4 then 9 else 0
def CF (r:Rn)(t:Nat)(ms:List Int):Rn:={ r with l:=r.l++ms.map fun k=>⟨Eg k,(t:Int),0⟩ }
def zv (r:Rn)(t:Nat)(o:Ot):Rn:=
 let r:=CF r t o.ms
 if o.e≠0\/(0<=o.done/\¬ ((o.done=2)↔(r.act t=3))) then { r with bad:=U }
 else if o.done=0 then { enter r 6 t with act:=eL r.act t 0 }
 else if o.done=1 then { enter r 5 t with act:=eL r.act t 2 }
 else if o.done=2 then { enter r 10 t with act:=eL r.act t 0 }
 else if o.done=3 then { enter r 7 t with act:=eL r.act t 0 }
 else r
def F1 (k:Lk)(r:Rn)(o:E6):Rn:=
 if o.t<0\/(k.n:Int)<=o.t\/r.bad=U then r
 else
  let t:=o.t.toNat
  if o.kind=1 then
   if r.act t=0 then
    let r:=enter { r with act:=eL r.act t 1 } 1 t
    let x:=co k r.m t R
    zv { r with m:=x.1 } t x.2
   else r
  else if o.kind=2 then
   if r.act t=2 then
    let r:=enter { r with act:=eL r.act t 3 } 8 t
    let x:=co k r.m t U
    zv { r with m:=x.1 } t x.2
   else r
  else if r.act t=1\/r.act t=3 then
   let x:=dw k r.m t o.late
   zv { r with m:=x.1 } t x.2
  else r
structure Ac where
 ws:List Int
 c:kg
 wrote:Bool
 stay:Bool
def fH (c:kg)(i:aM)(v:Int)(late:Bool):kg×Bool:=
 if decide (v=aG c.xs i.t.toNat)==decide (i.k=0) then (⟨c.xs.set i.d.toNat v,c.pc+1⟩,R)
 else if late=U/\i.pl≠-1 then (⟨c.xs.set i.d.toNat v,i.pl⟩,R)
 else (⟨c.xs.set i.d.toNat v,c.pc⟩,U)
def io (ws:List Int)(c:kg)(late:Bool)(i:aM)(a:Nat):Ac:=
 let v:=aG c.xs i.t.toNat
 let u:=aG c.xs i.u.toNat
 let was:=aG ws a
 let d:=i.d.toNat
 if i.op=16 then ⟨ws,⟨c.xs.set d was,c.pc+1⟩,R,R⟩
 else if i.op=17 then ⟨ws.set a v,⟨c.xs,c.pc+1⟩,U,R⟩
 else if i.op=18 then ⟨ws.set a v,⟨c.xs.set d was,c.pc+1⟩,U,R⟩
 else if i.op=19 then if was=v then ⟨ws.set a u,⟨c.xs.set d 1,c.pc+1⟩,U,R⟩ else ⟨ws,⟨c.xs.set d 0,c.pc+1⟩,R,R⟩
 else if i.op=20 then ⟨ws.set a ((was+i.k) % 4294967296),⟨c.xs.set d was,c.pc+1⟩,U,R⟩
 else ⟨ws,(fH c i was late).1,R,(fH c i was late).2⟩
structure E8 (i:aM)(n:Nat):Prop where
 op:16<=i.op/\i.op<=23
 d:0<=i.d/\i.d<=7
 s:0<=i.s/\i.s<=7
 t:0<=i.t/\i.t<=7
 u:0<=i.u/\i.u<=7
 a:0<=i.a/\i.a<=7
 k:0<=i.k/\i.k<4294967296
 aw:i.op=21->(i.k=0\/i.k=1)/\(i.pl=-1\/(0<=i.pl/\i.pl<n))
theorem CA {i:aM}{n:Nat}(h:au i n=U)(k0:0<=i.k)(k1:i.k<4294967296)(hm:cN i.op=U):E8 i n:=by
 obtain⟨hd,hs,ht,hu,ha⟩:=eu i n h
 have ho:=(BM h k0 k1).op
 have hop:16<=i.op/\i.op<=23:=by
  unfold cN at hm
  simp only[Bool.and_eq_true,decide_eq_true_eq] at hm
  omega
 refine⟨hop,hd,hs,ht,hu,ha,⟨k0,k1⟩,fun e=>?_⟩
 obtain⟨op,d,s,t,u,a,k,pl⟩:=i
 simp only at e k0 k1 hd hs ht hu ha
 subst e
 rw[gM d s t u a k pl n hd hs ht hu ha k0 k1] at h
 simp at h
 simp only
 omega
theorem bg.put {xs:List Int}(h:bg xs)(d:Nat){v:Int}(hv:0<=v/\v<4294967296):bg (xs.set d v):=⟨by rw[List.length_set];exact h.1,h.2.set _ _ hv⟩
section
variable {ws:List Int}{c:kg}{late:Bool}{i:aM}{a n:Nat}
theorem yI:(io ws c late i a).ws.length=ws.length:=by
 unfold io
 simp only
 repeat' split
 all_goals simp
theorem yH (hw:fz ws)(hx:bg c.xs):fz (io ws c late i a).ws:=by
 have h0:=hw.at_ a
 have h1:=hx.2.at_ i.t.toNat
 have h2:=hx.2.at_ i.u.toNat
 unfold io
 simp only
 repeat' split
 all_goals first | exact hw | exact hw.set _ _ h1 | exact hw.set _ _ h2 | exact hw.set _ _ (by omega)
theorem jq {v:Int}(hv:0<=v/\v<4294967296)(hx:bg c.xs):bg (fH c i v late).1.xs:=by
 unfold fH
 repeat' split
 all_goals exact hx.put _ hv
theorem mo (hw:fz ws)(hx:bg c.xs):bg (io ws c late i a).c.xs:=by
 have h0:=hw.at_ a
 unfold io
 simp only
 repeat' split
 all_goals first | exact hx | exact hx.put _ h0 | exact hx.put _ (by omega) | exact jq h0 hx
end
section
variable {k:Lk}{m:Mc}{t:Nat}{late:Bool}{i:aM}{a:Nat}
def fg (k:Lk)(m:Mc)(t:Nat)(c:kg)(addr:Int)(wrote stay:Bool):Mc×Ot:=
 if stay then ({ m with cs:=eL m.cs t c },⟨[],-1,addr,wrote,U,0⟩) else im k m t c ⟨[],0,addr,wrote,R,0⟩
theorem Dg (h:E8 i k.l.length)(h22:i.op≠22)(h23:i.op≠23)(c:kg):
 pN k m t c late i a=fg k { m with ws:=(io m.ws c late i a).ws } t (io m.ws c late i a).c a (io m.ws c late i a).wrote (io m.ws c late i a).stay:=by
 have hop:=h.op
 unfold pN io fg
 simp only
 by_cases h16:i.op=16
 ·simp[h16]
 by_cases h17:i.op=17
 ·simp[h17]
 by_cases h18:i.op=18
 ·simp[h18]
 by_cases h19:i.op=19
 ·simp only[h19]
  by_cases hw:aG m.ws a=aG c.xs i.t.toNat
  ·simp[hw]
  ·simp[hw]
 by_cases h20:i.op=20
 ·simp[h20]
 have h21:i.op=21:=by omega
 obtain⟨hk,hp⟩:=h.aw h21
 simp only[if_neg h16,if_neg h17,if_neg h18,if_neg h19,if_neg h20]
 unfold fH
 by_cases hw:aG m.ws a=aG c.xs i.t.toNat
 ·rcases hk with hk | hk
  ·simp[hw,hk]
  ·cases late with
   | true=>
    rcases hp with hp | ⟨hp,_⟩
    ·simp[hw,hk,hp]
    ·have h1:¬ i.pl=-1:=by omega
     have h2:¬ i.pl<0:=by omega
     simp[hw,hk,h1,h2]
   | false=>simp[hw,hk]
 ·rcases hk with hk | hk
  ·cases late with
   | true=>
    rcases hp with hp | ⟨hp,_⟩
    ·simp[hw,hk,hp]
    ·have h1:¬ i.pl=-1:=by omega
     have h2:¬ i.pl<0:=by omega
     simp[hw,hk,h1,h2]
   | false=>simp[hw,hk]
  ·simp[hw,hk]
structure Dn where
 m:Mc
 c:kg
 addr:Int
 wrote:Bool
 stay:Bool
def DE (k:Lk)(m:Mc)(t:Nat)(c:kg)(late:Bool)(i:aM):Option Dn:=
 if i.op=22 then T ⟨{ m with pn:=(wh m.pn t).1 },⟨c.xs.set i.d.toNat (wh m.pn t).2,c.pc+1⟩,-1,R,R⟩
 else if i.op=23 then match zx k.each m.pn (aG c.xs i.s.toNat) with
  | none=>S
  | some p=>T ⟨{ m with pn:=p },⟨c.xs,c.pc+1⟩,-1,R,R⟩
 else match fA k.zs i.a (aG c.xs i.s.toNat) with
  | none=>S
  | some a=>T ⟨{ m with ws:=(io m.ws c late i a).ws },(io m.ws c late i a).c,a,(io m.ws c late i a).wrote,(io m.ws c late i a).stay⟩
theorem nJ (h:gW k (m.cs t).pc=S):dw k m t late=(m,eX):=by
 unfold dw
 simp only[h]
theorem zU (h:gW k (m.cs t).pc=T i)(ho:E8 i k.l.length):dw k m t late=match DE k m t (m.cs t) late i with
 | none=>(m,eX)
 | some r=>fg k r.m t r.c r.addr r.wrote r.stay:=by
 unfold dw DE
 simp only[h]
 by_cases h22:i.op=22
 ·simp[h22,fg]
 by_cases h23:i.op=23
 ·simp only[if_neg h22,if_pos h23]
  cases zx k.each m.pn (aG (m.cs t).xs i.s.toNat) with
  | none=>rfl
  | some p=>simp[fg]
 ·simp only[if_neg h22,if_neg h23]
  cases fA k.zs i.a (aG (m.cs t).xs i.s.toNat) with
  | none=>rfl
  | some a=>exact Dg ho h22 h23 _
theorem ff {pc:Int}(h:gW k pc=T i):0<=pc/\pc<k.l.length/\k.l[pc.toNat]?=T i/\cN i.op=U:=by
 unfold gW at h
 by_cases h0:pc<0
 ·rw[if_pos h0] at h;cases h
 ·rw[if_neg h0] at h
  cases hk:k.l[pc.toNat]? with
  | none=>rw[hk] at h;cases h
  | some j=>
   rw[hk] at h
   simp only at h
   by_cases hm:cN j.op=U
   ·rw[if_pos hm] at h
    injection h with h
    subst h
    have:=(List.getElem?_eq_some_iff.1 hk).1
    exact⟨by omega,by omega,rfl,hm⟩
   ·rw[if_neg hm] at h;cases h
theorem nQ {pc:Int}(h:gW k pc=S):pc<0\/(k.l.length:Int)<=pc\/∃ j,0<=pc/\pc<k.l.length/\k.l[pc.toNat]?=T j/\cN j.op=R:=by
 unfold gW at h
 by_cases h0:pc<0
 ·exact .inl h0
 ·rw[if_neg h0] at h
  cases hk:k.l[pc.toNat]? with
  | none=>exact .inr (.inl (by have:=List.getElem?_eq_none_iff.1 hk;omega))
  | some j=>
   rw[hk] at h
   simp only at h
   have:=(List.getElem?_eq_some_iff.1 hk).1
   by_cases hm:cN j.op=U
   ·rw[if_pos hm] at h;cases h
   ·exact .inr (.inr ⟨j,by omega,by omega,rfl,by simpa using hm⟩)
structure E7 (k:Lk)(m:Mc):Prop where
 ws:fz m.ws
 len:m.ws.length=jf k.zs
 cs:∀ t,t<k.n->bg (m.cs t).xs
structure lu (k:Lk):Prop where
 code:pK ⟨k.l,k.lo,k.un⟩=U
 k32:∀ i∈k.l,0<=i.k/\i.k<4294967296
 zs:dO k.zs
 few:jf k.zs<=8192
 n1:1<=k.n
 n64:k.n<=64
 each:k.each<=8
theorem lu.parts (h:lu k):1<=k.l.length/\k.l.length<=64/\0<=k.lo/\k.lo<k.l.length/\0<=k.un/\k.un<k.l.length/\∀ i∈k.l,au i k.l.length=U:=by
 have hc:=h.code
 unfold pK at hc
 simp only[Bool.and_eq_true,decide_eq_true_eq,List.all_eq_true] at hc
 obtain⟨h1,h2,h3,h4,h5,h6,h7⟩:=hc
 exact⟨h1,h2,h3,h5,h4,h6,h7⟩
theorem lu.ok (h:lu k):∀ i∈k.l,Bu i:=fun i hi=>BM (h.parts.2.2.2.2.2.2 i hi) (h.k32 i hi).1 (h.k32 i hi).2
theorem lu.DD (h:lu k){pc:Int}(hm:gW k pc=T i):E8 i k.l.length:=by
 obtain⟨_,_,h3,h4⟩:=ff hm
 have hi:=List.mem_of_getElem? h3
 exact CA (h.parts.2.2.2.2.2.2 i hi) (h.k32 i hi).1 (h.k32 i hi).2 h4
theorem eR {cs:Nat->kg}{c:kg}{n:Nat}(h:∀ t,t<n->bg (cs t).xs)(hc:bg c.xs)(t:Nat):∀ s,s<n->bg (eL cs t c s).xs:=fun s hs=>by
 unfold eL
 split
 ·exact hc
 ·exact h s hs
end
end
section
open Go.ChangeShapes Go.WideShapes Go.ChangeAt Go.RowKit
theorem bZ (i j:aM)(w:World):(binOp .eql 127 (iv i) (iv j)).run Tryz.prog w=.ok (.bool (dg i j)) w:=by
 unfold iv
 have hu:=Tryz.underlying127
 go_simp
 unfold dg
 repeat' split
 all_goals simp[*]
def Jb (w:World)(g:Nat)(i:aM):Prop:=Bk w g 127 #[N O i.op,N O i.d,N O i.s,N O i.t,N O i.u,N O i.a,N Z i.k,N O i.pl]
theorem Jb.cells {w:World}{g:Nat}{i:aM}(h:Jb w g i):
 w.cell? ⟨g,0,S⟩=T (N O i.op)/\w.cell? ⟨g,1,S⟩=T (N O i.d)/\w.cell? ⟨g,2,S⟩=T (N O i.s)/\w.cell? ⟨g,3,S⟩=T (N O i.t)/\
 w.cell? ⟨g,4,S⟩=T (N O i.u)/\w.cell? ⟨g,5,S⟩=T (N O i.a)/\w.cell? ⟨g,6,S⟩=T (N Z i.k)/\w.cell? ⟨g,7,S⟩=T (N O i.pl):=
 ⟨Bk.cell h 0,Bk.cell h 1,Bk.cell h 2,Bk.cell h 3,Bk.cell h 4,Bk.cell h 5,Bk.cell h 6,Bk.cell h 7⟩
theorem Jb.below {w w':World}{g:Nat}{i:aM}(h:Jb w g i)(hb:Below w.heap.size w w'):Jb w' g i:=(hb.block g (Bk.lt h)).trans h
theorem Jb.wH {w:World}{b:Nat}{i:aM}(h:Jb w b i):
 (∀ g:gj w,g.x.cell? ⟨b,0,S⟩=T (N O i.op))/\(∀ g:gj w,g.x.cell? ⟨b,1,S⟩=T (N O i.d))/\(∀ g:gj w,g.x.cell? ⟨b,2,S⟩=T (N O i.s))/\(∀ g:gj w,g.x.cell? ⟨b,3,S⟩=T (N O i.t))/\
 (∀ g:gj w,g.x.cell? ⟨b,4,S⟩=T (N O i.u))/\(∀ g:gj w,g.x.cell? ⟨b,5,S⟩=T (N O i.a))/\(∀ g:gj w,g.x.cell? ⟨b,6,S⟩=T (N Z i.k))/\(∀ g:gj w,g.x.cell? ⟨b,7,S⟩=T (N O i.pl)):=by
 obtain⟨c0,c1,c2,c3,c4,c5,c6,c7⟩:=h.cells
 exact⟨fun g=>g.cell c0,fun g=>g.cell c1,fun g=>g.cell c2,fun g=>g.cell c3,fun g=>g.cell c4,fun g=>g.cell c5,fun g=>g.cell c6,fun g=>g.cell c7⟩
theorem Jb.made (w:World)(op d s t u a k pl:Int):Jb (w.alloc (C #[N O op,N O d,N O s,N O t,N O u,N O a,N Z k,N O pl] 127)) w.heap.size ⟨op,d,s,t,u,a,k,pl⟩:=Bk.made _ _ _
theorem fG {w x:World}{op d s t u a k pl:Int}(h:Below (w.alloc (C #[N O op,N O d,N O s,N O t,N O u,N O a,N Z k,N O pl] 127)).heap.size (w.alloc (C #[N O op,N O d,N O s,N O t,N O u,N O a,N Z k,N O pl] 127)) x):Jb x w.heap.size ⟨op,d,s,t,u,a,k,pl⟩/\Below w.heap.size w x:=
 ⟨(Jb.made w op d s t u a k pl).below h,((Y _ _).alloc (Za _) _).trans (h.mono (by simp))⟩
theorem fe {y:World}{g:Nat}{i j:aM}(h:Jb y g j):Jb (em y g i) g i:=by
 have h8:=(((((((Bk.put h 0 (N O i.op)).put 1 (N O i.d)).put 2 (N O i.s)).put 3 (N O i.t)).put 4 (N O i.u)).put 5 (N O i.a)).put 6 (N Z i.k)).put 7 (N O i.pl)
 unfold em Jb
 simpa only[List.setIfInBounds_toArray,List.set_cons_zero,List.set_cons_succ] using h8
theorem dt (n:Int)(h0:0<=n)(h1:n<=7)(w:World):Calls Tryz.prog 119 #[N O n] w fun e w'=>e=.returned (.bool U)/\w=w':=by
 go_enter Tryz.func119,Tryz.ntmps119
 go_wp2
 go_ret
 exact⟨rfl,rfl⟩
theorem ni (n:Int)(h:n<0\/7<n)(w:World):Calls Tryz.prog 119 #[N O n] w fun e w'=>e=.returned (.bool R)/\w=w':=by
 rcases h with h | h
 ·have h2:decide (n>=0)=R:=by simp;omega
  go_enter Tryz.func119,Tryz.ntmps119
  go_wp2
  go_ret
  exact⟨rfl,rfl⟩
 ·have h2:decide (n<=7)=R:=by simp;omega
  have h3:0<=n:=by omega
  go_enter Tryz.func119,Tryz.ntmps119
  go_wp2
  go_ret
  exact⟨rfl,rfl⟩
def iR:Array Value:=#[.string ⟨#[]⟩,.string ⟨#[99,111,110,115,116]⟩,.string ⟨#[109,111,118,101]⟩,.string ⟨#[97,100,100,107]⟩,.string ⟨#[97,110,100,107]⟩,.string ⟨#[115,104,108]⟩,.string ⟨#[115,104,114]⟩,.string ⟨#[111,114]⟩,.string ⟨#[98,101,113]⟩,.string ⟨#[98,110,101]⟩,.string ⟨#[106,117,109,112]⟩,.string ⟨#[115,101,108,102]⟩,.string ⟨#[109,97,114,107]⟩,.string ⟨#[100,111,110,101]⟩,.string ⟨#[]⟩,.string ⟨#[]⟩,.string ⟨#[108,111,97,100]⟩,.string ⟨#[115,116,111,114,101]⟩,.string ⟨#[115,119,97,112]⟩,.string ⟨#[99,97,115]⟩,.string ⟨#[102,97,100,100]⟩,.string ⟨#[97,119,97,105,116]⟩,.string ⟨#[116,97,107,101]⟩,.string ⟨#[102,114,101,101]⟩]
theorem uQ:∀ n:Nat,1<=n->n<=23->iR[n]?=T (.string ⟨(bE n).toArray⟩):=by
 intro n h1 h2
 have hn:n=1\/n=2\/n=3\/n=4\/n=5\/n=6\/n=7\/n=8\/n=9\/n=10\/n=11\/n=12\/n=13\/n=14\/n=15\/n=16\/n=17\/n=18\/n=19\/n=20\/n=21\/n=22\/n=23:=by omega
 rcases hn with rfl|rfl|rfl|rfl|rfl|rfl|rfl|rfl|rfl|rfl|rfl|rfl|rfl|rfl|rfl|rfl|rfl|rfl|rfl|rfl|rfl|rfl|rfl <;> rfl
theorem eY (op:Int)(w:World):Calls Tryz.prog 118 #[N O op] w fun e w'=>e=.returned (bs (bE op))/\Below w.heap.size w w':=by
 by_cases h:op<1\/23<op
 ·have E:=M (show bE op=[] from(dv (by omega)).2)
  generalize bE op=nm at *
  rcases h with h | h
  ·go_enter Tryz.func118,Tryz.ntmps118
   go_wp2_with (first | (refine fj rfl 272 _ rfl iR (by kernel_rfl) ?_) | (refine eO rfl 272 _ _ rfl _ iR rfl rfl (by kernel_rfl) (by kernel_rfl) (by kernel_rfl) ?_))
   go_ret
   exact⟨by rw[E.out];rfl,(Y _ _).alloc (Za _) _⟩
  ·have h2:decide (op<1)=R:=by simp;omega
   go_enter Tryz.func118,Tryz.ntmps118
   go_wp2_with (first | (refine fj rfl 272 _ rfl iR (by kernel_rfl) ?_) | (refine eO rfl 272 _ _ rfl _ iR rfl rfl (by kernel_rfl) (by kernel_rfl) (by kernel_rfl) ?_))
   go_ret
   exact⟨by rw[E.out];rfl,(Y _ _).alloc (Za _) _⟩
 ·obtain⟨n,hn⟩:∃ n:Nat,op=n:=⟨op.toNat,by omega⟩
  subst hn
  have h1:1<=n:=by omega
  have h23:n<=23:=by omega
  have hc:(w.alloc (.cells iR 272)).cell? ⟨w.heap.size,n,S⟩=T (.string ⟨(bE n).toArray⟩):=by
   rw[cell_of_row _ _ _ _ _ _ (heap_alloc_new w _)]
   exact uQ n h1 h23
  generalize bE n=nm at *
  have d1:decide ((n:Int)<1)=R:=by simp;omega
  have d2:decide ((n:Int) > 23)=R:=by simp;omega
  have d3:(n:Int)<24:=by omega
  clear h
  go_enter Tryz.func118,Tryz.ntmps118
  go_wp2_with (first | (refine fj rfl 272 _ rfl iR (by kernel_rfl) ?_) | (refine eO rfl 272 _ _ rfl _ iR rfl rfl (by kernel_rfl) (by kernel_rfl) (by kernel_rfl) ?_))
  go_ret
  exact⟨rfl,(Y _ _).alloc (Za _) _⟩
structure wM (i:aM):Prop where
 d:0<=i.d/\i.d<=7
 s:0<=i.s/\i.s<=7
 t:0<=i.t/\i.t<=7
 u:0<=i.u/\i.u<=7
 a:0<=i.a/\i.a<=7
end
section
open Go.ChangeShapes Go.WideShapes Go.ChangeAt Go.RowKit Go.Shelf
attribute [local go_sem] Oper.semAt_some
def Bz (c:UInt8):List (List UInt8)->List (List UInt8)
 | []=>[[c]]
 | x :: xs=>(c :: x) :: xs
def bG:List UInt8->List (List UInt8)
 | []=>[]
 | c :: r=>if c=10 then [10] :: bG r else Bz c (bG r)
def ef (text:List UInt8)(k:Nat):List UInt8:=(bG text).getD k []
theorem eA:∀ (s r:List UInt8),Nl s->bG (s++10 :: r)=(s++[10]) :: bG r
 | [],r,_=>by simp[bG]
 | c :: s,r,h=>by
  have ih:=eA s r fun d hd=>h d (List.mem_cons_of_mem _ hd)
  show bG (c :: (s++10 :: r))=_
  rw[bG,if_neg (h c List.mem_cons_self),ih]
  rfl
theorem eS:∀ s:List UInt8,Nl s->s≠[]->bG s=[s]
 | [],_,h=>absurd rfl h
 | [c],h,_=>by simp[bG,h c List.mem_cons_self,Bz]
 | c :: d :: s,h,_=>by
  have ih:=eS (d :: s) (fun x hx=>h x (List.mem_cons_of_mem _ hx)) (by simp)
  rw[bG,if_neg (h c List.mem_cons_self),ih]
  rfl
theorem kA:∀ t:List UInt8,(bG t).length<=t.length
 | []=>Za _
 | c :: t=>by
  have ih:=kA t
  rw[bG]
  split
  ·simp;omega
  ·cases h:bG t with
   | nil=>simp[Bz]
   | cons x y=>rw[h] at ih;simp[Bz] at ih ⊢;omega
theorem jP:∀ t:List UInt8,Nl t\/∃ s r,Nl s/\t=s++10 :: r
 | []=>.inl (by unfold Nl;simp)
 | c :: t=>by
  by_cases hc:c=10
  ·exact .inr ⟨[],t,by unfold Nl;simp,by rw[hc];rfl⟩
  rcases jP t with h | ⟨s,r,hs,rfl⟩
  ·exact .inl fun d hd=>by
    rcases List.mem_cons.1 hd with rfl | hd
    ·exact hc
    ·exact h d hd
  ·exact .inr ⟨c :: s,r,fun d hd=>by
    rcases List.mem_cons.1 hd with rfl | hd
    ·exact hc
    ·exact hs d hd,rfl⟩
theorem qE:∀ t:List UInt8,Nl t->Lib.indexByte t 10=-1
 | [],_=>rfl
 | c :: t,h=>by
  have ih:=qE t fun d hd=>h d (List.mem_cons_of_mem _ hd)
  have hc:(c==10)=R:=by simpa using h c List.mem_cons_self
  rw[Lib.indexByte,hc,ih]
  simp
theorem nY:∀ s r:List UInt8,Nl s->Lib.indexByte (s++10 :: r) 10=s.length
 | [],r,_=>by simp[Lib.indexByte]
 | c :: s,r,h=>by
  have ih:=nY s r fun d hd=>h d (List.mem_cons_of_mem _ hd)
  have hc:(c==10)=R:=by simpa using h c List.mem_cons_self
  show Lib.indexByte (c :: (s++10 :: r)) 10=_
  rw[Lib.indexByte,hc,ih]
  have:((s.length:Int)==-1)=R:=by simp
  simp[this]
theorem CO (s:List UInt8)(w:World):
 Calls Tryz.prog 151 #[bs s,N .u8 10] w fun e w'=>e=.returned (N O (Lib.indexByte s 10))/\w=w':=
 (Any.strings_IndexByte Tryz.lays137 ⟨s.toArray⟩ 10 w).mono fun _ _ ⟨he,hw⟩=>⟨he,hw.symm⟩
theorem Co (s r:List UInt8)(w:World):(Instr.slice 9 (.string ⟨(s++10 :: r).toArray⟩) S (T (N O ((s.length:Int)+1))) S).run Tryz.prog w=.ok (.string ⟨(s++[10]).toArray⟩) w:=by
 have hu:=Tryz.underlying9
 go_simp
 rw[if_pos ⟨by omega,by omega⟩]
 refine congrArg (fun x=>Result.ok (Value.string x) w) (ByteArray.ext ?_)
 rw[ByteArray.data_extract]
 apply Array.ext'
 simp
 rw[show s++10 :: r=(s++[10])++r by simp,show s.length+1=(s++[10]).length by simp,List.take_left]
theorem Cp (s r:List UInt8)(w:World):(Instr.slice 9 (.string ⟨(s++10 :: r).toArray⟩) (T (N O ((s.length:Int)+1))) S S).run Tryz.prog w=.ok (.string ⟨r.toArray⟩) w:=by
 have hu:=Tryz.underlying9
 go_simp
 rw[if_pos ⟨by omega,by omega⟩]
 refine congrArg (fun x=>Result.ok (Value.string x) w) (ByteArray.ext ?_)
 rw[ByteArray.data_extract]
 apply Array.ext'
 simp
 exact List.take_of_length_le (by omega)
def tA (w:World)(b:Nat):Nat:=match w.cell? ⟨b,0,S⟩ with
 | some (.string s)=>s.size
 | _=>0
theorem kK {w:World}{b:Nat}{t:TypeId}{s:List UInt8}(h:Bk w b t #[bs s]):tA w b=s.length:=by
 unfold tA
 rw[h.cell 0]
 show s.toArray.size=_
 simp
theorem xG (text:List UInt8)(b l:Nat)(W1:World)(hb:Bk W1 b 9 #[bs text])(hlen:text.length<1000000000):
 Dx Tryz.prog 150 #[D (T ⟨b,0,S⟩)] (fun k=>#[bs (ef text k)]) (bG text).length l W1 (fun x=>x=b):=by
 intro J Jx hJ hJx hY h0
 refine callsIn_of_wp Tryz.func150 rfl trivial ?_ rfl
 simp only[Tryz.ntmps150,List.size_toArray,List.length_cons,List.length_nil,Nat.reduceAdd,Nat.reduceSub,Array.replicate_succ,Array.replicate_zero,List.push_toArray,List.append_toArray,List.nil_append,List.cons_append]
 gi_wp2
 gi_loopw [3] (fun p wr=>∃ (k:Nat) (t:List UInt8),k<=(bG text).length/\(bG text).drop k=bG t/\t.length<=text.length/\Bk wr b 9 #[bs t]/\J k wr) (fun p wr=>tA wr b)
 case atStart=>exact⟨0,text,Nat.zero_le _,rfl,Za _,hb,h0⟩
 case round=>
  obtain⟨k,t,hkl,hdr,hle,hbk,hj⟩:=hrel
  have hbl:=kK hbk
  have hc0:wr.cell? ⟨b,0,S⟩=T (.string ⟨t.toArray⟩):=hbk.cell 0
  have hfr:=hbk.free 0
  by_cases ht:t=[]
  ·subst ht
   have hk:k=(bG text).length:=by
    have:=congrArg List.length hdr
    simp[bG] at this
    omega
   subst hk
   gi_wp2
   go_end0
   exact⟨⟨_,rfl⟩,.inl hj⟩
  ·have hpos:(0:Int)<t.length:=by
    have:=List.length_pos_iff.2 ht
    omega
   have HI:=M (fun W=>callsIn_wide (n:=0) |>.2 (CO t W))
   rcases jP t with hn | ⟨s,r,hn,rfl⟩
   ·have hk1:k<(bG text).length:=by
     have:=congrArg List.length hdr
     rw[eS t hn ht] at this
     simp at this
     omega
    have hk2:(bG text).length=k+1:=by
     have:=congrArg List.length hdr
     rw[eS t hn ht] at this
     simp at this
     omega
    have hline:ef text k=t:=by
     unfold ef
     have:=congrArg List.head? hdr
     rw[eS t hn ht] at this
     simp[List.head?_drop] at this
     simp[List.getD_eq_getElem?_getD,this]
    have hi:=qE t hn
    have w1:ab wr (wr.setCell ⟨b,0,S⟩ (.string ⟨#[]⟩)) (fun x=>x=b):=(ab.refl _ _).put b 0 _ (.inl rfl)
    have b1:Bk (wr.setCell ⟨b,0,S⟩ (.string ⟨#[]⟩)) b 9 #[bs []]:=hbk.put 0 _
    have hj1:=hJ k _ _ hj w1
    obtain⟨fn,tmps,assign,body,hy,hR⟩:=hY k _ hk1 hj1 (by rintro x rfl;exact b1.lt)
    rw[hline] at hy
    unfold bs at hy
    gi_wp2
    refine⟨trivial,rfl,?_⟩
    refine(HI.out _).mono ?_
    rintro e w' ⟨rfl,rfl⟩
    rw[hi]
    gi_wp2
    refine⟨rfl,hR.mono ?_⟩
    rintro e W3 ⟨hh,(⟨rfl,hJ3⟩ | ⟨rfl,hJx3⟩)⟩
    ·gi_wp2
     have b3:Bk W3 b 9 #[bs []]:=(hh.2 b rfl).trans b1
     go_roundw
     case rel=>exact⟨k+1,[],by omega,by rw[List.drop_of_length_le (by omega)];rfl,by simp,b3,hJ3⟩
     case measure=>rw[kK b3,hbl];simp;omega
    ·gi_wp2
     refine bodyPost_ret (results_none rfl _ _ _) rfl ?_
     exact⟨⟨_,rfl⟩,.inr hJx3⟩
   ·have hk1:k<(bG text).length:=by
     have:=congrArg List.length hdr
     rw[eA s r hn] at this
     simp at this
     omega
    have hdr2:(bG text).drop (k+1)=bG r:=by
     have:=congrArg List.tail hdr
     rw[eA s r hn] at this
     simpa [List.tail_drop] using this
    have hline:ef text k=s++[10]:=by
     unfold ef
     have:=congrArg List.head? hdr
     rw[eA s r hn] at this
     simp[List.head?_drop] at this
     simp[List.getD_eq_getElem?_getD,this]
    have hi:=nY s r hn
    have hi0:(0:Int)<=s.length:=by omega
    have hwr:wrap64 ((s.length:Int)+1)=(s.length:Int)+1:=by
     simp at hle
     unfold wrap64
     omega
    have hcut1:∀ w,(Instr.slice 9 (.string ⟨(s++10 :: r).toArray⟩) S (T (N O ((s.length:Int)+1))) S).run Tryz.prog w=.ok (.string ⟨(s++[10]).toArray⟩) w:=fun w=>Co s r w
    have hcut2:∀ w,(Instr.slice 9 (.string ⟨(s++10 :: r).toArray⟩) (T (N O ((s.length:Int)+1))) S S).run Tryz.prog w=.ok (.string ⟨r.toArray⟩) w:=fun w=>Cp s r w
    gi_wp2
    refine⟨trivial,rfl,?_⟩
    refine(HI.out _).mono ?_
    rintro e w' ⟨rfl,rfl⟩
    rw[hi]
    gi_wp2
    gi_region
    have w0:ab wr (wr.setCell ⟨b,0,S⟩ (.string ⟨r.toArray⟩)) (fun x=>x=b):=(ab.refl _ _).put b 0 _ (.inl rfl)
    have w1:ab wr (wr.setCell ⟨b,0,S⟩ (.string ⟨r.toArray⟩)).drew (fun x=>x=b):=⟨w0.os,w0.tape,w0.output,w0.size,w0.block⟩
    clear w0
    have b1:Bk (wr.setCell ⟨b,0,S⟩ (.string ⟨r.toArray⟩)).drew b 9 #[bs r]:=hbk.put 0 (.string ⟨r.toArray⟩)
    generalize (wr.setCell ⟨b,0,S⟩ (.string ⟨r.toArray⟩)).drew=W2 at *
    have hj1:=hJ k _ _ hj w1
    obtain⟨fn,tmps,assign,body,hy,hR⟩:=hY k _ hk1 hj1 (by rintro x rfl;exact b1.lt)
    rw[hline] at hy
    unfold bs at hy
    gi_wp2
    refine⟨rfl,hR.mono ?_⟩
    rintro e W3 ⟨hh,(⟨rfl,hJ3⟩ | ⟨rfl,hJx3⟩)⟩
    ·gi_wp2
     have b3:Bk W3 b 9 #[bs r]:=(hh.2 b rfl).trans b1
     go_roundw
     case rel=>exact⟨k+1,r,by omega,hdr2,by simp at hle;omega,b3,hJ3⟩
     case measure=>rw[kK b3,hbl];simp;omega
    ·gi_wp2
     refine bodyPost_ret (results_none rfl _ _ _) rfl ?_
     exact⟨⟨_,rfl⟩,.inr hJx3⟩
theorem CN (s:List UInt8)(w:World):
 Calls Tryz.prog 101 #[bs s] w fun e w'=>e=.returned (.func (.func 150) #[] #[D (T ⟨w.heap.size,0,S⟩)])/\w'=w.alloc (C #[bs s] 9):=by
 unfold bs
 go_enter Tryz.func101,Tryz.ntmps101
 go_wp2
 go_ret
 exact⟨rfl,rfl⟩
theorem Dt (s p:List UInt8)(hl:s.length<1000000)(w:World):
 Calls Tryz.prog 102 #[bs s,bs p] w fun e w'=>e=.returned (.tuple #[bs (Lib.trimSuffix s p),.bool (Lib.hasSuffix s p)])/\w=w':=
 (Any.strings_CutSuffix Tryz.lays104 ⟨s.toArray⟩ ⟨p.toArray⟩ w (by show s.toArray.size<=_;simp;omega)).mono fun _ _ ⟨he,hw⟩=>⟨he,hw.symm⟩
theorem lJ (s:List UInt8)(c:UInt8):Lib.hasSuffix (s++[c]) [c]=U/\Lib.trimSuffix (s++[c]) [c]=s:=by
 have h:Lib.hasSuffix (s++[c]) [c]=U:=by
  unfold Lib.hasSuffix
  rw[List.isSuffixOf_iff_suffix]
  exact⟨s,rfl⟩
 refine⟨h,?_⟩
 unfold Lib.trimSuffix
 rw[if_pos h]
 simp
theorem pF {s:List UInt8}{c:UInt8}(h:∀ t,s≠t++[c]):Lib.hasSuffix s [c]=R/\Lib.trimSuffix s [c]=s:=by
 have h:Lib.hasSuffix s [c]=R:=by
  rw[Bool.eq_false_iff]
  intro e
  unfold Lib.hasSuffix at e
  rw[List.isSuffixOf_iff_suffix] at e
  obtain⟨t,ht⟩:=e
  exact h t ht.symm
 refine⟨h,?_⟩
 unfold Lib.trimSuffix
 rw[if_neg (by rw[h];simp)]
theorem Cj (s:List UInt8)(c:UInt8):(∃ t,s=t++[c])\/∀ t,s≠t++[c]:=by
 by_cases h:∃ t,s=t++[c]
 ·exact .inl h
 ·exact .inr fun t e=>h ⟨t,e⟩
end
section
structure FE (X:Type)(n:Nat)(op:X->Nat->X)(done:X->Prop) where
 I:X->Prop
 mu:X->Nat
 en:X->Nat->Prop
 keep:∀ x t,t<n->I x->I (op x t)
 le:∀ x t,I x->t<n->mu (op x t)<=mu x
 lt:∀ x t,I x->t<n->en x t->mu (op x t)<mu x
 stays:∀ x t t',I x->t<n->t'<n->en x t->t'≠t->en (op x t') t\/mu (op x t')<mu x
 some_:∀ x,I x->¬ done x->∃ t,t<n/\en x t
def Ci (k:Lk)(r:Rn)(t:Nat):Rn:=F1 k r ⟨if r.act t=2 then 2 else 3,t,R⟩
def FI (n:Nat)(r:Rn):Prop:=∀ t,t<n->r.act t=0
abbrev Fin (k:Lk):=FE Rn k.n (Ci k) (FI k.n)
end
section
open Go.ChangeShapes Go.WideShapes Go.ChangeAt Go.RowKit
def DJ (w:World)(a:Option Addr)(l:List aM):Prop:=
 0<l.length->∃ b off,a=T ⟨b,off,S⟩/\b<w.heap.size/\∀ k i,l[k]?=T i->∀ j,j<8->w.cell? ⟨b,off+k*8+j,S⟩=(jj i)[j]?
def Pv (w:World)(v:Value)(c:ie):Prop:=∃ a cap,v=.agg #[G a c.l.length cap,N O c.lo,N O c.un]/\c.l.length<=cap/\cap<=maxLen/\(a=S->cap=0)/\DJ w a c.l
section
variable {w w':World}{a:Option Addr}{l:List aM}{v:Value}{c:ie}
theorem DJ.below (h:DJ w a l)(hb:Below w.heap.size w w'):DJ w' a l:=by
 intro h0
 obtain⟨b,off,e,hlt,hc⟩:=h h0
 exact⟨b,off,e,Nat.lt_of_lt_of_le hlt hb.size,fun k i hk j hj=>(hb.cell (p:=⟨b,off+k*8+j,S⟩) hlt).trans (hc k i hk j hj)⟩
theorem Pv.below (h:Pv w v c)(hb:Below w.heap.size w w'):Pv w' v c:=by
 obtain⟨a,cap,e,h1,h2,h4,h3⟩:=h
 exact⟨a,cap,e,h1,h2,h4,h3.below hb⟩
theorem pd {t:TypeId}{base cap:Nat}(h:w.ownsRow base t 8 (G a l.length cap) l.length (bD l)):DJ w a l:=by
 intro h0
 obtain⟨a2,cap2,e,_,_,hg⟩:=bp h
 simp only[Value.slice.injEq] at e
 obtain⟨rfl,-,rfl⟩:=e
 obtain⟨g,rfl,_,_,hlt,_,hc⟩:=hg h0
 refine⟨g,0,rfl,hlt,fun k i hk j hj=>?_⟩
 have hkl:=(List.getElem?_eq_some_iff.1 hk).1
 rw[Nat.zero_add,hc _ (by omega),mT hk hj]
theorem pj {t:TypeId}{base n cap size:Nat}{xs:List Value}(h:w.ownsRow base t size (G a n cap) n xs)(e:a=S):cap=0:=by
 subst e
 rcases h.2 with ⟨h,_⟩ | ⟨g,c,cur,h,_⟩
 ·injection h
 ·injection h with h;cases h
theorem Pg.pv {base:Nat}(h:Pg w base v c):Pv w v c:=by
 obtain⟨sl,rfl,ho⟩:=h
 obtain⟨a,cap,rfl,h1,h2,_⟩:=bp ho
 exact⟨a,cap,rfl,h1,h2,pj ho,pd ho⟩
theorem DJ.at_ (h:DJ w a l){k:Nat}{i:aM}(hk:l[k]?=T i):∃ b off,a=T ⟨b,off,S⟩/\b<w.heap.size/\w.cell? ⟨b,off+k*8,S⟩=T (N O i.op)/\w.cell? ⟨b,off+k*8+1,S⟩=T (N O i.d)/\w.cell? ⟨b,off+k*8+2,S⟩=T (N O i.s)/\w.cell? ⟨b,off+k*8+3,S⟩=T (N O i.t)/\
 w.cell? ⟨b,off+k*8+4,S⟩=T (N O i.u)/\w.cell? ⟨b,off+k*8+5,S⟩=T (N O i.a)/\w.cell? ⟨b,off+k*8+6,S⟩=T (N Z i.k)/\w.cell? ⟨b,off+k*8+7,S⟩=T (N O i.pl):=by
 have hkl:=(List.getElem?_eq_some_iff.1 hk).1
 obtain⟨b,off,e,hlt,hc⟩:=h (by omega)
 exact⟨b,off,e,hlt,hc k i hk 0 (by omega),hc k i hk 1 (by omega),hc k i hk 2 (by omega),hc k i hk 3 (by omega),hc k i hk 4 (by omega),hc k i hk 5 (by omega),hc k i hk 6 (by omega),hc k i hk 7 (by omega)⟩
end
def wn (zs:List Int):Array Value:=(zs.map (Value.int .i64)).toArray
theorem qD (zs:List Int)(i:Nat)(h:i<zs.length):(wn zs)[i]?=T (N O (aG zs i)):=by simp[wn,h,aG]
theorem mW (zs:List Int){k i:Nat}(h:i<k):aG (zs.take k) i=aG zs i:=by
 unfold aG;simp only[List.getD_eq_getElem?_getD,List.getElem?_take];rw[if_pos h]
theorem rG {zs:List Int}(h:dO zs)(k:Nat):dO (zs.take k):=by
 refine⟨by have:=h.1;simp;omega,fun i hi=>?_⟩
 simp at hi
 rw[mW zs (by omega)]
 exact h.2 i (by omega)
theorem qp (zs:List Int){k:Nat}:∀ j,j<=k->pre (zs.take k) j=pre zs j
 | 0,_=>rfl
 | j+1,h=>by rw[fp,fp,qp zs j (by omega)];unfold sz;rw[mW zs (by omega)]
theorem wT {zs:List Int}{k:Nat}(h:k<=zs.length):jf (zs.take k)=pre zs k:=by
 unfold jf;rw[List.length_take,Nat.min_eq_left h,qp zs k (Za _)]
theorem xL {w:World}{s k:Nat}{zs:List Int}(h:Bk w s 3 (wn zs))(hk:k<=zs.length):dJ .i64 w (T ⟨s,0,S⟩) (zs.take k):=by
 intro _
 refine⟨s,0,rfl,h.lt,fun i hi=>?_⟩
 simp at hi
 rw[Nat.zero_add,h.cell,qD zs i (by omega),mW zs (by omega)]
theorem dJ.here {k:IntKind}{w:World}{a:Option Addr}{xs:List Int}(h:dJ k w a xs){i:Nat}(hi:i<xs.length):∃ b off,a=T ⟨b,off,S⟩/\w.cell? ⟨b,off+i,S⟩=T (.int k (aG xs i)):=by
 obtain⟨b,off,e,_,hc⟩:=h (by omega)
 exact⟨b,off,e,hc i hi⟩
theorem dJ.grown {k:IntKind}{w w':World}{a:Option Addr}{xs:List Int}(h:dJ k w a xs)(hb:w.grownBy w' S):dJ k w' a xs:=by
 intro h0
 obtain⟨b,off,e,hlt,hc⟩:=h h0
 exact⟨b,off,e,Nat.lt_of_lt_of_le hlt hb.size,fun i hi=>((aP hb).cell (p:=⟨b,off+i,S⟩) hlt).trans (hc i hi)⟩
theorem oo {w:World}{a:Option Addr}{zs:List Int}(h:dJ .i64 w a zs)(hz:dO zs)(cap:Nat):
 Calls Tryz.prog 80 #[G a zs.length cap] w fun e w'=>e=.returned (N O (jf zs))/\w=w':=by
 have h8:=hz.1
 go_enter Tryz.func80,Tryz.ntmps80
 go_wp2
 go_loopw [3,8] (fun s t wr=>∃ k:Nat,k<=zs.length/\t=N O k/\s=N O (pre zs k)/\w=wr) (fun _ t _=>zs.length-(intOf t).toNat)
 case atStart=>exact⟨0,Nat.zero_le _,rfl,rfl,by trivial⟩
 case round=>
  obtain⟨k,hk,rfl,rfl,rfl⟩:=hrel
  by_cases hlt:k<zs.length
  ·obtain⟨b,off,rfl,hc⟩:=h.here hlt
   rw[zo hz hlt] at hc
   have h1:=BI hz hlt
   have h2:=pG hz k hk
   have hs:=fp zs k
   go_wp2
   go_roundw
   case rel=>exact⟨k+1,by omega,by go_num,by rw[hs];go_num,by trivial⟩
   case measure=>simp[intOf];omega
  ·obtain rfl:k=zs.length:=by omega
   go_wp2
   go_ret
   exact⟨rfl,rfl⟩
theorem CG {w:World}{a:Option Addr}{zs:List Int}(h:dJ .i64 w a zs)(hz:dO zs)(cap:Nat):
 Calls Tryz.prog 79 #[G a zs.length cap] w fun e w'=>e=.returned (.bool U)/\w=w':=by
 have h8:=hz.1
 go_enter Tryz.func79,Tryz.ntmps79
 go_wp2
 go_loopw [10] (fun t wr=>∃ k:Nat,k<=zs.length/\t=N O k/\w=wr) (fun t _=>zs.length-(intOf t).toNat)
 case atStart=>exact⟨0,Nat.zero_le _,rfl,by trivial⟩
 case round=>
  obtain⟨k,hk,rfl,rfl⟩:=hrel
  by_cases hlt:k<zs.length
  ·obtain⟨b,off,rfl,hc⟩:=h.here hlt
   obtain⟨h1,h2⟩:=hz.2 k hlt
   go_wp2
   go_roundw
   case rel=>exact⟨k+1,by omega,by go_num,by trivial⟩
   case measure=>simp[intOf];omega
  ·obtain rfl:k=zs.length:=by omega
   go_wp2
   go_ret
   exact⟨rfl,rfl⟩
structure Mm (w:World)(p q g s:Nat)(zs xs:List Int):Prop where
 ptr:Bk w p 173 #[D (T ⟨q,0,S⟩),G (T ⟨s,0,S⟩) zs.length zs.length]
 cel:oR w q g xs
 row:Bk w s 3 (wn zs)
 right:dO zs
 len:xs.length=jf zs
section
variable {w w':World}{p q g s:Nat}{zs xs ys:List Int}
theorem Mm.grown (h:Mm w p q g s zs xs)(hg:w.grownBy w' S):Mm w' p q g s zs xs:=
 ⟨h.ptr.grown hg (by simp),h.cel.kept hg (by simp) (by simp),h.row.grown hg (by simp),h.right,h.len⟩
theorem Mm.alloc (h:Mm w p q g s zs xs)(o:Obj):Mm (w.alloc o) p q g s zs xs:=h.grown (bf _ _ S)
theorem Mm.drewN (h:Mm w p q g s zs xs)(n:Nat):Mm (w.drewN n) p q g s zs xs:=h.grown (eB (db w S) n)
theorem Mm.only (h:Mm w p q g s zs xs)(hc:oR w' q g ys)(ho:fD w w' g)(hl:ys.length=xs.length):Mm w' p q g s zs ys:=
 ⟨h.ptr.grown ho (fun e=>by injection e with e;exact h.ptr.aj h.cel.row (by decide) e),hc,h.row.grown ho (fun e=>by injection e with e;exact h.row.aj h.cel.row (by decide) e),h.right,hl.trans h.len⟩
theorem Mm.off {b:Nat}(h:Mm w p q g s zs xs)(ho:fD w w' b)(h1:b≠p)(h2:b≠q)(h3:b≠g)(h4:b≠s):Mm w' p q g s zs xs:=
 ⟨h.ptr.grown ho (fun e=>by injection e with e;exact h1 e.symm),h.cel.kept ho (fun e=>by injection e with e;exact h2 e.symm) (fun e=>by injection e with e;exact h3 e.symm),h.row.grown ho (fun e=>by injection e with e;exact h4 e.symm),h.right,h.len⟩
theorem Mm.c0 (h:Mm w p q g s zs xs):w.cell? ⟨p,0,S⟩=T (D (T ⟨q,0,S⟩)):=by rw[h.ptr.cell];rfl
theorem Mm.c1 (h:Mm w p q g s zs xs):w.cell? ⟨p,1,S⟩=T (G (T ⟨s,0,S⟩) zs.length zs.length):=by rw[h.ptr.cell];rfl
theorem Mm.at_ (h:Mm w p q g s zs xs){i:Nat}(hi:i<zs.length):w.cell? ⟨s,i,S⟩=T (N O (sz zs i)):=by rw[h.row.cell,qD zs i hi,zo h.right hi]
theorem yp (h:Mm w p q g s zs xs)(a:Nat)(ha:a<zs.length)(v:Int)(h0:0<=v)(h1:v<4294967296)(hv:v % 4096<sz zs a):
 Calls Tryz.prog 89 #[D (T ⟨p,0,S⟩),N O a,N Z v] w fun e w'=>e=.returned (.tuple #[N O ((pre zs a+(v % 4096).toNat:Nat):Int),.bool U])/\w=w':=by
 have c1:=h.c1
 have c2:=h.at_ ha
 have h8:=h.right.1
 have hT:=oo (xL h.row (k:=a) (by omega)) (rG h.right a) zs.length
 rw[wT (by omega),List.length_take,Nat.min_eq_left (by omega)] at hT
 have hp:=pG h.right a (by omega)
 obtain⟨pl,hpl,hpl2⟩:∃ pl:Nat,v % 4096=pl/\pl<4096:=⟨(v % 4096).toNat,by omega,by omega⟩
 rw[hpl] at hv ⊢
 have HT:=M hT
 clear hT
 go_enter Tryz.func89,Tryz.ntmps89
 go_wp2_with fail
 refine(yV v h0 h1 w).mono ?_
 rw[hpl]
 rintro e w' ⟨rfl,rfl⟩
 go_wp2_with fail
 refine HT.out.mono ?_
 rintro e w' ⟨rfl,rfl⟩
 go_wp2
 go_ret2
 exact⟨by simp,rfl⟩
theorem sP (h:Mm w p q g s zs xs)(a:Int)(v:Int)(h0:0<=v)(h1:v<4294967296)(hv:a<0\/(zs.length:Int)<=a\/(sz zs a.toNat:Int)<=v % 4096):
 Calls Tryz.prog 89 #[D (T ⟨p,0,S⟩),N O a,N Z v] w fun e w'=>e=.returned (.tuple #[N O 0,.bool R])/\w=w':=by
 have c1:=h.c1
 have h8:=h.right.1
 rcases(show a<0\/(0<=a/\(zs.length:Int)<=a)\/(0<=a/\a<zs.length) by omega) with hb | hb | hb
 ·go_enter Tryz.func89,Tryz.ntmps89
  go_wp2
  go_ret2
  exact⟨rfl,rfl⟩
 ·go_enter Tryz.func89,Tryz.ntmps89
  go_wp2
  go_ret2
  exact⟨rfl,rfl⟩
 obtain⟨n,rfl⟩:=Int.eq_ofNat_of_zero_le hb.1
 have c2:=h.at_ (i:=n) (by omega)
 have hv2:(sz zs n:Int)<=v % 4096:=by
  rw[Int.toNat_natCast] at hv;omega
 obtain⟨pl,hpl,hpl2⟩:∃ pl:Nat,v % 4096=pl/\pl<4096:=⟨(v % 4096).toNat,by omega,by omega⟩
 rw[hpl] at hv2
 have hn:n<zs.length:=by omega
 clear hv
 go_enter Tryz.func89,Tryz.ntmps89
 go_wp2_with fail
 refine(yV v h0 h1 w).mono ?_
 rw[hpl]
 rintro e w' ⟨rfl,rfl⟩
 go_wp2
 go_ret2
 exact⟨rfl,rfl⟩
end
end
section
def Fh (m:Int):List aM:=[⟨20,1,0,0,0,0,1,0⟩,⟨12,0,0,0,0,0,1,0⟩,⟨4,2,1,0,0,0,m-1,0⟩,⟨1,3,0,0,0,0,1,0⟩,⟨21,4,2,3,0,1,0,-1⟩,⟨12,0,0,0,0,0,2,0⟩,⟨17,0,2,0,0,1,0,0⟩,⟨13,0,0,0,0,0,1,0⟩,⟨3,2,1,0,0,0,1,0⟩,⟨4,2,2,0,0,0,m-1,0⟩,⟨1,3,0,0,0,0,1,0⟩,⟨17,0,2,3,0,1,0,0⟩,⟨12,0,0,0,0,0,4,0⟩,⟨13,0,0,0,0,0,2,0⟩]
def Do (n m:Nat):Lk:=⟨Fh m,0,8,[1,m],0,n⟩
def ac (a b c d pc:Int):kg:=⟨[0,a,b,c,d,0,0,0],pc⟩
def dj (m:Nat):Prop:=m=1\/m=2\/m=4\/m=8\/m=16\/m=32\/m=64
theorem fc {m:Nat}(h:dj m):1<=m/\m<=64:=by unfold dj at h;omega
theorem vS {m:Nat}(h:dj m){x:Int}(h0:0<=x):kX x ((m:Int)-1)=x % m:=by
 have key:∀ e:Nat,m=2 ^ e->kX x ((m:Int)-1)=x % m:=fun e he=>by
  unfold kX
  have e1:((m:Int)-1).toNat=2 ^ e-1:=by rw[he];omega
  rw[e1,Nat.and_two_pow_sub_one_eq_mod,<-he,Int.natCast_emod,Int.toNat_of_nonneg h0]
 rcases h with h | h | h | h | h | h | h
 ·exact key 0 h
 ·exact key 1 h
 ·exact key 2 h
 ·exact key 3 h
 ·exact key 4 h
 ·exact key 5 h
 ·exact key 6 h
def Dl (m p:Nat)(b:Bool):List Int:=(List.range m).map fun i=>if b=U/\i=p then 1 else 0
theorem zX (m p:Nat)(b:Bool):(Dl m p b).length=m:=by simp[Dl]
theorem zW {m p q:Nat}(x:Int)(hq:q<m):(x :: Dl m p R).set (1+q) 1=x :: Dl m q U:=by
 rw[Nat.add_comm 1 q,List.set_cons_succ]
 congr 1
 apply List.ext_getElem?
 intro i
 unfold Dl
 rw[List.getElem?_set]
 simp only[List.getElem?_map,List.length_map,List.length_range]
 by_cases e:q=i
 ·subst e
  simp[hq]
 ·by_cases h:i<m <;> simp[e,h]
  omega
end
section
open Go.ChangeShapes Go.WideShapes Go.ChangeAt Go.RowKit
theorem Aj:(Tryz.prog.info? 127).map (fun i=>(i.zero,i.size,i.bytes))=T (T (.agg #[N O 0,N O 0,N O 0,N O 0,N O 0,N O 0,N Z 0,N O 0]),8,64):=by kernel_rfl
theorem yQ {w:World}{base:Nat}{t:TypeId}{sl:Value}{c:ie}(h:w.ownsRow base t 8 sl c.l.length (bD c.l)):Pv w (.agg #[sl,N O c.lo,N O c.un]) c:=by
 obtain⟨a,cap,rfl,h1,h2,_⟩:=bp h
 exact⟨a,cap,rfl,h1,h2,pj h,pd h⟩
theorem nE (w:World)(t:TypeId)(xs ys:Array Value):Below w.heap.size w ((w.alloc (.cells xs t)).alloc (.cells ys t))/\Bk ((w.alloc (.cells xs t)).alloc (.cells ys t)) w.heap.size t xs/\Bk ((w.alloc (.cells xs t)).alloc (.cells ys t)) (w.heap.size+1) t ys:=by
 have h:=Bk.made (w.alloc (.cells xs t)) t ys
 rw[World.size_alloc] at h
 exact⟨((Y _ _).alloc (Za _) _).alloc (by simp) _,(Bk.made w t xs).alloc _,h⟩
end
section
open Go.Joins Go.ChangeShapes Go.WideShapes Go.ChangeAt Go.RowKit Go.Deep
section
variable {H:Type}{enc:TypeId×Value->H}{P:Program}{w:World}{base:Nat}{spare:Nat->Bool}{held:Bool}
theorem uN {r:Reach}{b0:Nat}{t:TypeId}{f0 f1 f2:Field}{v:Value}{d:DataW H}{p:List MemPlace}(hs:P.underlying t=T (.struct #[f0,f1,f2]))(hone:oneCellFields P #[f0,f1,f2]=U)(hC:P.cellsOf t=3)
 (hv:Value.okWide P w r b0 t v) (h:DataW.Trod enc P w base spare held t v d p):
 ∃ (v0 v1 v2:Value) (y0 y1 y2:DataW H×List MemPlace) (n:Nat),v=.agg #[v0,v1,v2]/\DataW.trod enc P w base spare held n f0.type [v0]=T y0/\DataW.trod enc P w base spare held n f1.type [v1]=T y1/\DataW.trod enc P w base spare held n f2.type [v2]=T y2:=by
 obtain⟨cs,rfl,hsz⟩:=okWide_struct hs hv
 obtain⟨l⟩:=cs
 match l,hsz.trans hC with
 | [c0,c1,c2],_=>
  obtain⟨fuel,hf⟩:=h
  obtain⟨xs,n,_,hx,_,hlen,hg⟩:=DataW.trod_struct hs hf
  obtain⟨o0,k0⟩:=hone_of hone 0 f0 rfl
  obtain⟨o1,k1⟩:=hone_of hone 1 f1 rfl
  obtain⟨o2,k2⟩:=hone_of hone 2 f2 rfl
  match xs,hlen with
  | [y0,y1,y2],_=>
   exact⟨c0,c1,c2,y0,y1,y2,n,rfl,by simpa [Value.cells,o0,k0] using hg 0 f0 rfl,by simpa [Value.cells,o1,k1] using hg 1 f1 rfl,by simpa [Value.cells,o2,k2] using hg 2 f2 rfl⟩
end
end
section
open Go.ChangeShapes Go.WideShapes Go.ChangeAt Go.RowKit
theorem kc {P:Program}{w:World}{ops:Array Oper}{rest:List Oper}{o:Oper}{a:Act}{Q:Exit->Act->World->Prop}(hgd:o.guard=S)(d s:Operand)(dT sT:TypeId)
 (ho:o.op=.call { callee:=.builtin .copy,args:=#[d,s],argTypes:=#[dT,sT] }) (elem:TypeId) (hu:P.underlying dT=T (.slice elem)) (hsz:(P.info? elem).map (·.size)=T 1)
 (dp sp:Option Addr) (dLen dCap sLen sCap:Nat) (hd:a.eval d=G dp dLen dCap) (hs:a.eval s=G sp sLen sCap)
 (g off:Nat) (cur:List Value) (t:TypeId) (hg:Bk w g t cur.toArray) (cs:List Value) (hn:cs.length=Nat.min sLen dLen)
 (hpos:0<cs.length->dp=T ⟨g,off,S⟩/\∃ ad,sp=T ad/\∀ j v,cs[j]?=T v->w.cell? (ad.add j)=T v)
 (hfit:off+cs.length<=cur.length) (h1:∀ v∈cs,v.oneCell'=U)
 (h:∀ w',Bk w' g t (splice cur off cs).toArray->fD w w' g->wpList P ops Q rest (a.put o.dst (goInt cs.length)) w'):
 wpList P ops Q (o :: rest) a w:=by
 by_cases h0:cs.length=0
 ·obtain rfl:cs=[]:=List.eq_nil_of_length_eq_zero h0
  refine wpList_copy_nothing hgd d s dT sT ho elem hu hsz dp sp dLen dCap sLen sCap hd hs (by simpa using hn.symm) ?_
  exact h w (by unfold Bk at *;simpa [splice] using hg) (db _ _)
 ·obtain⟨rfl,ad,rfl,hsrc⟩:=hpos (by omega)
  refine wpList_copy_own hgd d s dT sT ho elem hu hsz g off dLen dCap ad sLen sCap hd hs cur.toArray t hg cs hn hsrc (by simpa using hfit) h1 ?_
  exact h _ (show _=_ by simpa [splice] using setRow_heap w g _ _ t _ hg) ⟨rfl,rfl,rfl,by simp[World.setRow],fun k _ hne=>setRow_other w g k _ (fun e=>hne (by rw[e]))⟩
theorem uS (n:Nat):madeCells #[N O 0] n=((List.replicate n (0:Int)).map (Value.int .i64)).toArray:=by
 apply Array.ext
 ·simp[madeCells]
 ·intro i h1 h2;simp[madeCells,Nat.mod_one]
theorem rC {α:Type}(L cs:List α)(h:L.length=cs.length):splice L 0 cs=cs:=by
 unfold splice;rw[Nat.zero_add,<-h,List.drop_length];simp
theorem yg {x:World}{s:Nat}{a:Option Addr}{zs:List Int}(h:dJ .i64 x a zs):
 0<(zs.map (Value.int .i64)).length->(T ⟨s,0,S⟩:Option Addr)=T ⟨s,0,S⟩/\∃ ad,a=T ad/\∀ j v,(zs.map (Value.int .i64))[j]?=T v->x.cell? (ad.add j)=T v:=by
 intro h0
 refine⟨rfl,?_⟩
 obtain⟨b',off,e,_,hc⟩:=h (by simpa using h0)
 exact⟨_,e,ob hc⟩
def EH (w:World)(zs xs:List Int)(e:Ending)(w':World):Prop:=
 ∃ p q g s,e=.returned (.tuple #[D (T ⟨p,0,S⟩),N O 0])/\Mm w' p q g s zs xs/\(w.heap.size<=p/\w.heap.size<=q/\w.heap.size<=g/\w.heap.size<=s)/\w.grownBy w' S
section
variable {w:World}{a b:Option Addr}{zs ys:List Int}
theorem Ft (ha:dJ .i64 w a zs)(hb:dJ .u32 w b ys)(hz:dO zs)(ht:jf zs=ys.length)(hl:ys.length<=8192)(hy:fz ys)(c1 c2:Nat):
 Calls Tryz.prog 45 #[G a zs.length c1,G b ys.length c2] w (EH w zs ys):=by
 obtain⟨i0,hi0,hz0,hz1,hz2⟩:=info_parts lS
 have h8:=hz.1
 have hmk:=fun W:World=>run_make (P:=Tryz.prog) W 26 3 i0 _ Tryz.underlying26 hi0 hz0 .i64 .i64 zs.length zs.length (by omega) (by omega) (by rw[hz2];omega) (by omega)
 rw[hz1] at hmk
 clear hi0 hz0 hz1 hz2
 have hR:=M (CG ha hz c1)
 have hT:=M (oo ha hz c1)
 have hN:=M (Fw ys.length hl w)
 rw[ht] at hT
 have HT:=M ht
 clear ht
 go_enter Tryz.func45,Tryz.ntmps45
 go_wp2_with fail
 refine hR.out.mono ?_
 rintro e w' ⟨rfl,rfl⟩
 go_wp2_with fail
 refine hT.out.mono ?_
 rintro e w' ⟨rfl,rfl⟩
 go_wp2_with fail
 refine hN.out.mono ?_
 rintro e w1 ⟨q,g,rfl,hc,hq,hg,hw1⟩
 go_upto_region 7 with fail
 clear hmk hR hT hN
 have hM:Bk ((w1.alloc (C (madeCells #[N O 0] zs.length) 3)).alloc (C #[D (T ⟨q,0,S⟩),G (T ⟨w1.heap.size,0,S⟩) zs.length zs.length] 173)) (w1.heap.size+1) 173 #[D (T ⟨q,0,S⟩),G (T ⟨w1.heap.size,0,S⟩) zs.length zs.length]:=by
  have:=Bk.made (w1.alloc (C (madeCells #[N O 0] zs.length) 3)) 173 #[D (T ⟨q,0,S⟩),G (T ⟨w1.heap.size,0,S⟩) zs.length zs.length]
  rw[World.size_alloc] at this
  exact this
 have hS:Bk ((w1.alloc (C (madeCells #[N O 0] zs.length) 3)).alloc (C #[D (T ⟨q,0,S⟩),G (T ⟨w1.heap.size,0,S⟩) zs.length zs.length] 173)) w1.heap.size 3 ((List.replicate zs.length (0:Int)).map (Value.int .i64)).toArray:=by
  have:=(Bk.made w1 3 (madeCells #[N O 0] zs.length)).alloc (C #[D (T ⟨q,0,S⟩),G (T ⟨w1.heap.size,0,S⟩) zs.length zs.length] 173)
  rw[uS] at this ⊢
  exact this
 have hC:=(hc.alloc (C (madeCells #[N O 0] zs.length) 3)).alloc (C #[D (T ⟨q,0,S⟩),G (T ⟨w1.heap.size,0,S⟩) zs.length zs.length] 173)
 have hG:w.grownBy ((w1.alloc (C (madeCells #[N O 0] zs.length) 3)).alloc (C #[D (T ⟨q,0,S⟩),G (T ⟨w1.heap.size,0,S⟩) zs.length zs.length] 173)) S:=aQ (aQ hw1 (bf _ _ S) (.inl rfl)) (bf _ _ S) (.inl rfl)
 have hs:=hw1.size
 clear hc hw1
 generalize (w1.alloc (C (madeCells #[N O 0] zs.length) 3)).alloc (C #[D (T ⟨q,0,S⟩),G (T ⟨w1.heap.size,0,S⟩) zs.length zs.length] 173)=x at *
 obtain⟨p,hp⟩:∃ p,w1.heap.size+1=p:=⟨_,rfl⟩
 have hps:w.heap.size<=p:=by omega
 rw[hp] at hM ⊢
 clear hp
 generalize w1.heap.size=s at *
 have m1:=hM.cell 1
 have m1':x.cell? ⟨p,1,S⟩=T (G (T ⟨s,0,S⟩) zs.length zs.length):=m1
 clear m1
 have HS:=M hS
 have HA:=M (ha.grown hG)
 go_wp2_with (refine kc rfl (.tmp 39) (.tmp 40) 26 26 rfl 3 Tryz.underlying26 (by kernel_rfl) (T ⟨s,0,S⟩) a zs.length zs.length zs.length c1 (by simp[Act.eval]) (by simp[Act.eval]) s 0 ((List.replicate zs.length (0:Int)).map (Value.int .i64)) 3 HS.out (zs.map (Value.int .i64)) (by simp) (yg HA.out) (by simp) (ints_oneCell .i64 zs) ?_;intro x2 hx2 hg2)
 rw[rC _ _ (by simp)] at hx2
 have hg3:w.grownBy x2 S:=aQ hG hg2 (.inr fun y e=>by injection e with e;omega)
 have hI:Mm x2 p q g s zs (my ys 0):=by
  rw[yP]
  exact⟨hM.grown hg2 (fun e=>by injection e with e;exact hM.aj hS (by decide) e),hC.kept hg2 (fun e=>by injection e with e;exact hC.ptr.aj hS (by decide) e) (fun e=>by injection e with e;exact hC.row.aj hS (by decide) e),hx2,hz,by simp[HT.out]⟩
 clear hM hS hC hG m1' HS HA hg2 hx2
 go_wp2
 go_loopw [44] (fun t wr=>∃ k:Nat,k<=ys.length/\t=N O k/\Mm wr p q g s zs (my ys k)/\w.grownBy wr S) (fun t _=>ys.length-(intOf t).toNat)
 case atStart=>exact⟨0,Nat.zero_le _,rfl,hI,hg3⟩
 case round=>
  clear hI hg3
  obtain⟨k,hk,rfl,hI,hgr⟩:=hrel
  have c0:=hI.c0
  by_cases hlt:k<ys.length
  ·obtain⟨b',off,rfl,hcell⟩:=(hb.grown hgr).here hlt
   have hSt:=yY hI.cel k (by rw[jL ys k hk];exact hlt) (aG ys k) (hy.at_ k)
   rw[qs ys k hlt] at hSt
   have HSt:=M hSt
   clear hSt
   go_wp2_with fail
   refine HSt.out.mono ?_
   rintro e w3 ⟨rfl,hc3,ho3⟩
   have hI3:Mm w3 p q g s zs (my ys (k+1)):=hI.only hc3 ho3 (by rw[jL ys k hk,jL ys (k+1) (by omega)])
   have hg4:w.grownBy w3 S:=aQ hgr ho3 (.inr fun y e=>by injection e with e;omega)
   clear HSt hI hgr hc3 ho3 hcell
   go_wp2
   go_roundw
   case rel=>exact⟨k+1,by omega,by go_num,hI3,hg4⟩
   case measure=>simp[intOf];omega
  ·obtain rfl:k=ys.length:=by omega
   rw[qt] at hI
   go_wp2
   go_ret2
   exact⟨p,q,g,s,rfl,hI,⟨hps,hq,hg,hs⟩,hgr⟩
end
def bO (xs:List Int)(pc:Int):List Value:=xs.map (Value.int .u32)++[N O pc]
def cv (xs:List Int)(pc:Int):Value:=.agg (bO xs pc).toArray
theorem A5 {xs:List Int}{pc:Int}(h:xs.length=8){k:Nat}(hk:k<8):(bO xs pc).toArray[k]?=T (N Z (aG xs k)):=by
 rw[List.getElem?_toArray,bO,List.getElem?_append_left (by simp;omega),List.getElem?_map,jW (by omega)]
 rfl
theorem A4 {xs:List Int}{pc:Int}(h:xs.length=8):(bO xs pc).toArray[8]?=T (N O pc):=by
 rw[List.getElem?_toArray,bO,List.getElem?_append_right (by simp;omega)]
 simp[h]
theorem ye {xs:List Int}{pc:Int}(h:xs.length=8)(k:Nat)(hk:k<8)(v:Int):(bO xs pc).toArray.setIfInBounds k (N Z v)=(bO (xs.set k v) pc).toArray:=by
 rw[List.setIfInBounds_toArray,bO,bO,List.set_append_left _ _ (by simp;omega),List.map_set]
def Cb (w:World)(g:Nat)(xs:List Int)(pc:Int):Prop:=Bk w g 111 (bO xs pc).toArray
theorem Cb.at_ {w:World}{g:Nat}{xs:List Int}{pc:Int}(h:Cb w g xs pc)(h8:xs.length=8){k:Nat}(hk:k<8):w.cell? ⟨g,k,S⟩=T (N Z (aG xs k)):=(Bk.cell h k).trans (A5 h8 hk)
theorem Cb.pc {w:World}{g:Nat}{xs:List Int}{pc:Int}(h:Cb w g xs pc)(h8:xs.length=8):w.cell? ⟨g,8,S⟩=T (N O pc):=(Bk.cell h 8).trans (A4 h8)
theorem Cb.cells {w:World}{g:Nat}{r0 r1 r2 r3 r4 r5 r6 r7 pc:Int}(h:Cb w g [r0,r1,r2,r3,r4,r5,r6,r7] pc):
 w.cell? ⟨g,0,S⟩=T (N Z r0)/\w.cell? ⟨g,1,S⟩=T (N Z r1)/\w.cell? ⟨g,2,S⟩=T (N Z r2)/\w.cell? ⟨g,3,S⟩=T (N Z r3)/\
 w.cell? ⟨g,4,S⟩=T (N Z r4)/\w.cell? ⟨g,5,S⟩=T (N Z r5)/\w.cell? ⟨g,6,S⟩=T (N Z r6)/\w.cell? ⟨g,7,S⟩=T (N Z r7)/\w.cell? ⟨g,8,S⟩=T (N O pc):=
 ⟨Bk.cell h 0,Bk.cell h 1,Bk.cell h 2,Bk.cell h 3,Bk.cell h 4,Bk.cell h 5,Bk.cell h 6,Bk.cell h 7,Bk.cell h 8⟩
theorem Cb.below {w w':World}{g:Nat}{xs:List Int}{pc:Int}(h:Cb w g xs pc)(hb:Below w.heap.size w w'):Cb w' g xs pc:=(hb.block g (Bk.lt h)).trans h
theorem Cb.set {w:World}{g:Nat}{xs:List Int}{pc:Int}(h:Cb w g xs pc)(h8:xs.length=8){k:Nat}(hk:k<8)(v:Int):Cb (w.setCell ⟨g,k,S⟩ (N Z v)) g (xs.set k v) pc:=by
 unfold Cb
 rw[<-ye h8 k hk v]
 exact Bk.put h k _
theorem EY (n:Int)(h:0<=n/\n<=7):bits .and .i64 n 7=n:=by
 have:n=0\/n=1\/n=2\/n=3\/n=4\/n=5\/n=6\/n=7:=by omega
 rcases this with rfl|rfl|rfl|rfl|rfl|rfl|rfl|rfl <;> rfl
theorem kJ (n:Int)(h:0<=n/\n<=7)(w:World):Calls Tryz.prog 146 #[N O n] w fun e w'=>e=.returned (N O n)/\w=w':=by
 go_enter Tryz.func146,Tryz.ntmps146
 go_wp2
 go_ret
 exact⟨br (by first | exact EY n h | rw[EY n h]),rfl⟩
theorem FO (c:ie)(v:Value)(w:World)(hv:Pv w v c)(p:Int)(i:aM)(b:Bool)
 (h:(b=R/\i=aM.zero/\(p<0\/c.l.length<=p))\/(b=U/\∃ k:Nat,p=k/\c.l[k]?=T i)):
 Calls Tryz.prog 91 #[v,N O p] w fun e w'=>e=.returned (.tuple #[iv i,.bool b])/\Below w.heap.size w w':=by
 obtain⟨a,ca,rfl,hc1,hc2,_,ha⟩:=hv
 unfold iv
 rcases h with ⟨rfl,rfl,hp⟩ | ⟨rfl,k,rfl,hk⟩
 ·unfold aM.zero
  by_cases h0:p<0
  ·go_enter Tryz.func91,Tryz.ntmps91
   go_wp2
   refine bodyPost_ret (v:=.tuple #[.agg #[N O 0,N O 0,N O 0,N O 0,N O 0,N O 0,N Z 0,N O 0],.bool R]) (by simp[results,Tryz.results91,go_sem]) rfl ⟨rfl,?_⟩
   exact((Y _ _).alloc (Za _) _).alloc (by simp) _
  ·have h1:p>=c.l.length:=by omega
   go_enter Tryz.func91,Tryz.ntmps91
   go_wp2
   refine bodyPost_ret (v:=.tuple #[.agg #[N O 0,N O 0,N O 0,N O 0,N O 0,N O 0,N Z 0,N O 0],.bool R]) (by simp[results,Tryz.results91,go_sem]) rfl ⟨rfl,?_⟩
   exact((Y _ _).alloc (Za _) _).alloc (by simp) _
 ·obtain⟨op,d,s,t,u,a',k',pl⟩:=i
  obtain⟨g,off,rfl,hgl,e0,e1,e2,e3,e4,e5,e6,e7⟩:=ha.at_ hk
  have hlt:=(List.getElem?_eq_some_iff.1 hk).1
  have hki:(k:Int)<c.l.length:=by omega
  have hki2:decide ((k:Int)>=c.l.length)=R:=by simpa using hlt
  have hng:g≠w.heap.size:=Nat.ne_of_lt hgl
  simp only at e0 e1 e2 e3 e4 e5 e6 e7
  go_enter Tryz.func91,Tryz.ntmps91
  go_wp2
  refine bodyPost_ret (v:=.tuple #[.agg #[N O op,N O d,N O s,N O t,N O u,N O a',N Z k',N O pl],.bool U]) (by simp[results,Tryz.results91,go_sem]) rfl ⟨rfl,?_⟩
  exact((Y _ _).alloc (Za _) _).alloc (by simp) _
theorem Cb.made (w:World)(xs:List Int)(pc:Int):Cb (w.alloc (C (bO xs pc).toArray 111)) w.heap.size xs pc:=Bk.made _ _ _
theorem C5 (xs:List Int)(pc:Int)(i:aM)(self:Int)(hx:bg xs)(hi:Bu i)(hm:cN i.op=R)(h0:0<=self)(h1:self<4294967296)(w:World):
 Calls Tryz.prog 145 #[cv xs pc,iv i,N O self] w fun e w'=>e=.returned (.tuple #[N Z ((fE xs i self).getD 0),.bool (fE xs i self).isSome])/\Below w.heap.size w w':=by
 obtain⟨h8,hxu⟩:=hx
 have hs:=hi.s
 have ht:=hi.t
 have hk:=hi.k
 have hsh:=hi.sh
 have hop:1<=i.op/\i.op<=13:=by
  rcases hi.op with h | h
  ·exact h
  ·exfalso;simp[cN] at hm;omega
 clear hi hm
 obtain⟨op,d,s,t,u,a',k,pl⟩:=i
 simp only at hs ht hk hsh hop
 obtain⟨sn,rfl⟩:∃ n:Nat,s=n:=⟨s.toNat,by omega⟩
 obtain⟨tn,rfl⟩:∃ n:Nat,t=n:=⟨t.toNat,by omega⟩
 have hs8:sn<8:=by omega
 have ht8:tn<8:=by omega
 have HR:Hid (∀ n:Int,0<=n/\n<=7->∀ W,Calls Tryz.prog 146 #[N O n] W fun e w'=>e=.returned (N O n)/\w'=W):=M fun n h W=>(kJ n h W).mono fun _ _ ⟨h1,h2⟩=>⟨h1,h2.symm⟩
 have HS:=M (HR.out sn (by omega))
 have HT:=M (HR.out tn (by omega))
 clear HR
 have hA:=hxu.at_ sn
 have hB:=hxu.at_ tn
 obtain⟨r0,r1,r2,r3,r4,r5,r6,r7,rfl⟩:=aD h8
 have q0:=(Cb.made w [r0,r1,r2,r3,r4,r5,r6,r7] pc).below (Below.alloc (o:=C #[N O op,N O d,N O sn,N O tn,N O u,N O a',N Z k,N O pl] 121) (Y _ _) (Za _))
 have q1:=Ib.made (w.alloc (C (bO [r0,r1,r2,r3,r4,r5,r6,r7] pc).toArray 111)) op d sn tn u a' k pl
 have b0:Below w.heap.size w ((w.alloc (C (bO [r0,r1,r2,r3,r4,r5,r6,r7] pc).toArray 111)).alloc (C #[N O op,N O d,N O sn,N O tn,N O u,N O a',N Z k,N O pl] 121)):=((Y _ _).alloc (Za _) _).alloc (by simp) _
 rw[World.size_alloc] at q1
 unfold cv iv
 simp only[bO,List.map_cons,List.map_nil,List.cons_append,List.nil_append] at q0 q1 b0 ⊢
 have HV:Hid (fE [r0,r1,r2,r3,r4,r5,r6,r7] ⟨op,d,sn,tn,u,a',k,pl⟩ self=wB op (aG [r0,r1,r2,r3,r4,r5,r6,r7] sn) (aG [r0,r1,r2,r3,r4,r5,r6,r7] tn) k self):=M (by simp[fE])
 generalize fE [r0,r1,r2,r3,r4,r5,r6,r7] ⟨op,d,sn,tn,u,a',k,pl⟩ self=V at *
 go_enter Tryz.func145,Tryz.ntmps145
 go_upto_region 1 with fail
 generalize (w.alloc (C #[N Z r0,N Z r1,N Z r2,N Z r3,N Z r4,N Z r5,N Z r6,N Z r7,N O pc] 111)).alloc (C #[N O op,N O d,N O sn,N O tn,N O u,N O a',N Z k,N O pl] 121)=x at *
 have cA:=q0.at_ rfl hs8
 have cB:=q0.at_ rfl ht8
 obtain⟨e0,e1,e2,e3,e4,e5,e6,e7⟩:=q1.cells
 simp only at e0 e1 e2 e3 e4 e5 e6 e7
 generalize aG [r0,r1,r2,r3,r4,r5,r6,r7] sn=A at *
 generalize aG [r0,r1,r2,r3,r4,r5,r6,r7] tn=B at *
 clear q0 q1 h8 hxu
 go_quiet ((go_at_call 146;first | (with_reducible exact Calls.quiet_of_same (HS.out _)) | (with_reducible exact Calls.quiet_of_same (HT.out _))))
 have ev:∀ (v:Option Int) (x:Int) (b:Bool),V=v->v.getD 0=x->v.isSome=b->(Ending.returned (.tuple #[N Z x,.bool b])=.returned (.tuple #[N Z (V.getD 0),.bool V.isSome])):=by
  rintro v x b rfl rfl rfl;rfl
 have HE:=M ev
 have bq:=Go.below_drewN b0 nq
 clear ev b0
 have hop2:op=1\/op=2\/op=3\/op=4\/op=5\/op=6\/op=7\/op=8\/op=9\/op=10\/op=11\/op=12\/op=13:=by omega
 clear hop
 rcases hop2 with rfl|rfl|rfl|rfl|rfl|rfl|rfl|rfl|rfl|rfl|rfl|rfl|rfl
 ·go_wp2
  go_ret2
  exact⟨HE.out _ _ _ HV.out rfl rfl,bq⟩
 ·go_wp2
  go_ret2
  exact⟨HE.out _ _ _ HV.out rfl rfl,bq⟩
 ·go_wp2
  go_ret2
  exact⟨HE.out _ _ _ HV.out (by first | rfl | simp[wB,IntKind.wrap_u32]) rfl,bq⟩
 ·go_wp2
  go_ret2
  exact⟨HE.out _ _ _ HV.out (by first | rfl | simp[wB,kX,u32_and A k hA.1 hA.2 hk.1 hk.2]) rfl,bq⟩
 ·have hk31:=hsh (.inl rfl)
  have hmin:min k.toNat 32=k.toNat:=by omega
  go_wp2
  go_ret2
  exact⟨HE.out _ _ _ HV.out rfl rfl,bq⟩
 ·have hk31:=hsh (.inr rfl)
  have hmin:min k.toNat 32=k.toNat:=by omega
  go_wp2
  go_ret2
  exact⟨HE.out _ _ _ HV.out rfl rfl,bq⟩
 ·go_wp2
  go_ret2
  exact⟨HE.out _ _ _ HV.out (by first | rfl | simp[wB,BY,u32_or A B hA.1 hA.2 hB.1 hB.2]) rfl,bq⟩
 ·go_wp2
  go_ret2
  exact⟨HE.out _ _ _ HV.out rfl rfl,bq⟩
 ·go_wp2
  go_ret2
  exact⟨HE.out _ _ _ HV.out rfl rfl,bq⟩
 ·go_wp2
  go_ret2
  exact⟨HE.out _ _ _ HV.out rfl rfl,bq⟩
 ·go_wp2
  go_ret2
  exact⟨HE.out _ _ _ HV.out (by first | rfl | (simp[wB,IntKind.wrap_u32];omega)) rfl,bq⟩
 ·go_wp2
  go_ret2
  exact⟨HE.out _ _ _ HV.out rfl rfl,bq⟩
 ·go_wp2
  go_ret2
  exact⟨HE.out _ _ _ HV.out rfl rfl,bq⟩
theorem oO (xs:List Int)(pc:Int)(i:aM)(hx:bg xs)(hi:Bu i)(hm:cN i.op=R)(p0:-9223372036854775808<=pc)(p1:pc<=1099511627776)(w:World):
 Calls Tryz.prog 144 #[cv xs pc,iv i] w fun e w'=>e=.returned (N O (ig xs pc i))/\Below w.heap.size w w':=by
 obtain⟨h8,hxu⟩:=hx
 have hs:=hi.s
 have ht:=hi.t
 have hk:=hi.k
 have hsh:=hi.sh
 have hop:1<=i.op/\i.op<=13:=by
  rcases hi.op with h | h
  ·exact h
  ·exfalso;simp[cN] at hm;omega
 clear hi hm
 obtain⟨op,d,s,t,u,a',k,pl⟩:=i
 simp only at hs ht hk hsh hop
 obtain⟨sn,rfl⟩:∃ n:Nat,s=n:=⟨s.toNat,by omega⟩
 obtain⟨tn,rfl⟩:∃ n:Nat,t=n:=⟨t.toNat,by omega⟩
 have hs8:sn<8:=by omega
 have ht8:tn<8:=by omega
 have HR:Hid (∀ n:Int,0<=n/\n<=7->∀ W,Calls Tryz.prog 146 #[N O n] W fun e w'=>e=.returned (N O n)/\w'=W):=M fun n h W=>(kJ n h W).mono fun _ _ ⟨h1,h2⟩=>⟨h1,h2.symm⟩
 have HS:=M (HR.out sn (by omega))
 have HT:=M (HR.out tn (by omega))
 clear HR
 have hA:=hxu.at_ sn
 have hB:=hxu.at_ tn
 obtain⟨r0,r1,r2,r3,r4,r5,r6,r7,rfl⟩:=aD h8
 have q0:=(Cb.made w [r0,r1,r2,r3,r4,r5,r6,r7] pc).below (Below.alloc (o:=C #[N O op,N O d,N O sn,N O tn,N O u,N O a',N Z k,N O pl] 121) (Y _ _) (Za _))
 have q1:=Ib.made (w.alloc (C (bO [r0,r1,r2,r3,r4,r5,r6,r7] pc).toArray 111)) op d sn tn u a' k pl
 have b0:Below w.heap.size w ((w.alloc (C (bO [r0,r1,r2,r3,r4,r5,r6,r7] pc).toArray 111)).alloc (C #[N O op,N O d,N O sn,N O tn,N O u,N O a',N Z k,N O pl] 121)):=((Y _ _).alloc (Za _) _).alloc (by simp) _
 rw[World.size_alloc] at q1
 unfold cv iv
 simp only[bO,List.map_cons,List.map_nil,List.cons_append,List.nil_append] at q0 q1 b0 ⊢
 have HV:Hid (ig [r0,r1,r2,r3,r4,r5,r6,r7] pc ⟨op,d,sn,tn,u,a',k,pl⟩=gH op (aG [r0,r1,r2,r3,r4,r5,r6,r7] sn) (aG [r0,r1,r2,r3,r4,r5,r6,r7] tn) pl pc):=M (by simp[ig])
 generalize ig [r0,r1,r2,r3,r4,r5,r6,r7] pc ⟨op,d,sn,tn,u,a',k,pl⟩=V at *
 have hmx:(pc==9223372036854775807)=R:=by simp;omega
 go_enter Tryz.func144,Tryz.ntmps144
 go_upto_region 1 with fail
 generalize (w.alloc (C #[N Z r0,N Z r1,N Z r2,N Z r3,N Z r4,N Z r5,N Z r6,N Z r7,N O pc] 111)).alloc (C #[N O op,N O d,N O sn,N O tn,N O u,N O a',N Z k,N O pl] 121)=x at *
 have cA:=q0.at_ rfl hs8
 have cB:=q0.at_ rfl ht8
 have cp:x.cell? ⟨w.heap.size,8,S⟩=T (N O pc):=q0.pc rfl
 obtain⟨e0,e1,e2,e3,e4,e5,e6,e7⟩:=q1.cells
 simp only at e0 e1 e2 e3 e4 e5 e6 e7
 generalize aG [r0,r1,r2,r3,r4,r5,r6,r7] sn=A at *
 generalize aG [r0,r1,r2,r3,r4,r5,r6,r7] tn=B at *
 clear q0 q1 h8 hxu
 have hop2:op=1\/op=2\/op=3\/op=4\/op=5\/op=6\/op=7\/op=8\/op=9\/op=10\/op=11\/op=12\/op=13:=by omega
 clear hop
 by_cases hAB:A=B
 ·subst hAB
  go_quiet ((go_at_call 146;first | (with_reducible exact Calls.quiet_of_same (HS.out _)) | (with_reducible exact Calls.quiet_of_same (HT.out _))))
  have bq:=Go.below_drewN b0 nq
  clear b0
  rcases hop2 with rfl|rfl|rfl|rfl|rfl|rfl|rfl|rfl|rfl|rfl|rfl|rfl|rfl
  all_goals
   go_wp2
   go_ret
   exact⟨br (by rw[HV.out];first | rfl | simp[gH] | (simp[gH];omega)),bq⟩
 ·have hne:(A==B)=R:=by simpa using hAB
  go_quiet ((go_at_call 146;first | (with_reducible exact Calls.quiet_of_same (HS.out _)) | (with_reducible exact Calls.quiet_of_same (HT.out _))))
  have bq:=Go.below_drewN b0 nq
  have HN:=M hAB
  clear b0 hAB
  rcases hop2 with rfl|rfl|rfl|rfl|rfl|rfl|rfl|rfl|rfl|rfl|rfl|rfl|rfl
  all_goals
   go_wp2
   go_ret
   exact⟨br (by rw[HV.out];have:=HN.out;first | rfl | simp[gH,this] | (simp[gH,this];omega)),bq⟩
end
