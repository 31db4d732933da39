import Derived.Test.YtieiifdhdjhnoaaGreatDoorWCell
import Derived.Test.YtieiifdhdjhnoaaGreatDoorWMem
import Derived.Lib.AtoiAll
import Derived.Lib.IndexMore
import Derived.Laws.BitsAllLaws
import Derived.Test.YtieiifdhdjhnoaaGreatDoorRows
import Derived.Deep.WholeRow
import Derived.Laws.Tables
import Derived.BigRegionIn
import Derived.Deep.RegionHeld3
import Derived.Deep.Cut
import Derived.Deep.QuietTactic
import Derived.BigQuiet
import Derived.ProofKit
import Derived.OpenShut
import Derived.Deep.Fields
import Derived.Lib.SmallJoins
import Derived.Deep.Slices
import Derived.ChangeSame
import Derived.Test.YtieiifdhdjhnoaaGreatDoorTie
import Derived.Test.YtieiifdhdjhnoaaGreatDoorCards
import Derived.Lay
import Derived.Handed
import Derived.PinnedBridge
import Derived.SevenTiedAt
import Derived.Shelf.Vars
import Derived.Lib.LaidTab
import Derived.Stop.LaidErr
import Derived.Laws.CopyOwn
import Derived.Deep.DeepCutAuto
import Derived.Deep.CutBlock
set_option linter.unusedVariables false
set_option maxHeartbeats 1000000
set_option maxRecDepth 100000
open Go.Value renaming int->I,slice->R,pointer->U
open Go.IntKind renaming i64->N,u32->O
open Option renaming none->Z,some->V
open Bool renaming false->S,true->T
open Go.Obj renaming cells->G
open Go.Lib renaming hid->D
open Go.RowKit.Below renaming refl->M
open Nat renaming le_refl->B
namespace Go.Proofs.YtieiifdhdjhnoaaGreatDoor
section
def Nl (s:List UInt8):Prop:=∀ c∈s,c≠10
theorem Nl.app {a b:List UInt8}(ha:Nl a)(hb:Nl b):Nl (a++b):=fun c hc=>by
 rcases List.mem_append.1 hc with h | h
 ·exact ha c h
 ·exact hb c h
def Bf (l:List UInt8):Prop:=∀ c∈l,c≠32
theorem nu:∀ s:List UInt8,Bf s\/∃ t r,Bf t/\s=t++32 :: r
 | []=>.inl (by intro c h;cases h)
 | c :: s=>by
  by_cases h:c=32
  ·exact .inr ⟨[],s,(by intro c h;cases h),(by rw[h];rfl)⟩
  ·rcases nu s with h1 | ⟨t,r,h1,rfl⟩
   ·exact .inl (by intro d hd;rcases List.mem_cons.1 hd with rfl | hd;exact h;exact h1 d hd)
   ·exact .inr ⟨c :: t,r,(by intro d hd;rcases List.mem_cons.1 hd with rfl | hd;exact h;exact h1 d hd),rfl⟩
theorem qX:∀ t:List UInt8,Bf t->Lib.index t [32]=-1
 | [],_=>by simp[Lib.index]
 | c :: t,h=>by
  have h1:=qX t fun d hd=>h d (List.mem_cons_of_mem _ hd)
  have h2:c≠32:=h c List.mem_cons_self
  unfold Lib.index
  rw[if_neg (by simp[List.isPrefixOf];exact fun e=>h2 e.symm),h1]
  rfl
theorem qY:∀ (t r:List UInt8),Bf t->Lib.index (t++32 :: r) [32]=t.length
 | [],r,_=>by simp[Lib.index,List.isPrefixOf]
 | c :: t,r,h=>by
  have h1:=qY t r fun d hd=>h d (List.mem_cons_of_mem _ hd)
  have h2:c≠32:=h c List.mem_cons_self
  show Lib.index (c :: (t++32 :: r)) [32]=_
  unfold Lib.index
  rw[if_neg (by simp[List.isPrefixOf];exact fun e=>h2 e.symm),h1,if_neg (by simp <;> omega)]
  simp
def bx (w0:List UInt8)(ws:List (List UInt8)):List UInt8:=w0++ws.flatMap fun w=>32 :: w
theorem aX:∀ (ws:List (List UInt8)) (w0:List UInt8),Bf w0->(∀ w∈ws,Bf w)->ah (bx w0 ws)=w0 :: ws
 | [],w0,h,_=>by unfold bx;simp;exact cN w0 h
 | w :: ws,w0,h,hs=>by
  have ih:=aX ws w (hs w List.mem_cons_self) fun v hv=>hs v (List.mem_cons_of_mem _ hv)
  unfold bx at *
  simp only[List.flatMap_cons,List.cons_append]
  rw[fe w0 _ h,ih]
theorem oK:∀ (n:Nat),∀ c∈Lib.decDigits n,48<=c.toNat/\c.toNat<=57:=by
 intro n
 induction n using Nat.strongRecOn with
 | _ n ih=>
  intro c hc
  rw[Lib.decDigits] at hc
  by_cases h:n<10
  ·rw[dif_pos h] at hc
   obtain rfl:=List.mem_singleton.1 hc
   rw[UInt8.toNat_ofNat',Nat.mod_eq_of_lt (by omega)]
   omega
  ·rw[dif_neg h] at hc
   rcases List.mem_append.1 hc with hc | hc
   ·exact ih (n / 10) (by omega) c hc
   ·obtain rfl:=List.mem_singleton.1 hc
    rw[UInt8.toNat_ofNat',Nat.mod_eq_of_lt (by omega)]
    omega
theorem dF (n:Nat):Bf (Lib.decDigits n):=by
 intro c hc e
 have:=oK n c hc
 rw[e] at this
 exact absurd this (by decide)
theorem iL (n:Nat):∃ c r,Lib.decDigits n=c :: r/\48<=c.toNat/\c.toNat<=57/\(10<=n->49<=c.toNat):=by
 induction n using Nat.strongRecOn with
 | _ n ih=>
  rw[Lib.decDigits]
  by_cases h:n<10
  ·rw[dif_pos h]
   refine⟨_,[],rfl,?_⟩
   rw[UInt8.toNat_ofNat',Nat.mod_eq_of_lt (by omega)]
   omega
  ·rw[dif_neg h]
   obtain⟨c,r,e,h1,h2,h3⟩:=ih (n / 10) (by omega)
   rw[e]
   refine⟨c,_,rfl,h1,h2,fun _=>?_⟩
   by_cases h9:10<=n / 10
   ·exact h3 h9
   ·rw[Lib.decDigits,dif_pos (by omega)] at e
    injection e with e1 _
    rw[<-e1,UInt8.toNat_ofNat',Nat.mod_eq_of_lt (by omega)]
    omega
theorem oo:∀ (a b:List UInt8) (acc u:Nat),Lib.parseUint10 acc a=.ok u->Lib.parseUint10 acc (a++b)=Lib.parseUint10 u b
 | [],b,acc,u,h=>by simp[Lib.parseUint10] at h;subst h;rfl
 | c :: a,b,acc,u,h=>by
  simp only[Lib.parseUint10,List.cons_append] at h ⊢
  split at h
  ·split at h
   ·cases h
   ·split at h
    ·cases h
    ·rename_i h1 h2 h3
     rw[if_pos h1,if_neg h2,if_neg h3]
     exact oo a b _ u h
  ·cases h
theorem uY:∀ (n:Nat),n<18446744073709551616->Lib.parseUint10 0 (Lib.decDigits n)=.ok n:=by
 intro n
 induction n using Nat.strongRecOn with
 | _ n ih=>
  intro hn
  rw[Lib.decDigits]
  by_cases h:n<10
  ·rw[dif_pos h]
   have e:(UInt8.ofNat (48+n)).toNat=48+n:=by rw[UInt8.toNat_ofNat',Nat.mod_eq_of_lt (by omega)]
   simp only[Lib.parseUint10,e]
   rw[if_pos (by omega),if_neg (by omega),if_neg (by omega)]
   congr 1
   omega
  ·rw[dif_neg h,oo _ _ _ _ (ih (n / 10) (by omega) (by omega))]
   have e:(UInt8.ofNat (48+n % 10)).toNat=48+n % 10:=by rw[UInt8.toNat_ofNat',Nat.mod_eq_of_lt (by omega)]
   simp only[Lib.parseUint10,e]
   rw[if_pos (by omega),if_neg (by omega),if_neg (by omega)]
   congr 1
   omega
theorem rA (n:Nat)(h:n<9223372036854775808):Lib.atoiAll (Lib.decDigits n)=.ok n:=by
 obtain⟨c,r,e,h1,h2,-⟩:=iL n
 have hp:=uY n (by omega)
 rw[e] at hp ⊢
 unfold Lib.atoiAll Lib.parseMag
 simp only
 rw[if_neg (show ¬ (c.toNat=43\/c.toNat=45) by omega),if_neg (by simp),hp]
 simp only
 rw[if_neg (by omega),if_neg (by omega),if_neg (by omega)]
end
section
open Go.ChangeShapes Go.WideShapes Go.ChangeAt Go.RowKit
def kN (P:Program)(ops:Array Oper)(F:Nat->Nat->Value->World->Prop)(Wp:Nat->World->Prop)(Step:Nat->World->World->Prop)(lit:(Nat->Value)->Act)(st:List Nat):List Oper->Nat->Prop
 | [],_=>True
 | o :: l,i=>(match st.contains i with
  | true=>∀ (vs:Nat->Value) W,Wp (st.idxOf i) W->(∀ j∈bm ops i,F j (st.idxOf i) (vs j) W)->dk P ops (fun v W'=>F i (st.idxOf i+1) v W'/\Wp (st.idxOf i+1) W'/\Step (st.idxOf i) W W') o (lit vs) W
  | false=>∀ (vs:Nat->Value) W k,tK ops st i<=k->k<=tO ops st i->Wp k W->(∀ j∈bm ops i,F j k (vs j) W)->cZ P ops (F i k) o (lit vs) W)/\kN P ops F Wp Step lit st l (i+1)
theorem jB {P:Program}{ops:Array Oper}{F:Nat->Nat->Value->World->Prop}{Wp:Nat->World->Prop}{Step:Nat->World->World->Prop}{lit:(Nat->Value)->Act}{st:List Nat}:∀ (l:List Oper) (b i:Nat) (o:Oper),kN P ops F Wp Step lit st l b->l[i]?=V o->
 (st.contains (b+i)=T->∀ (vs:Nat->Value) W,Wp (st.idxOf (b+i)) W->(∀ j∈bm ops (b+i),F j (st.idxOf (b+i)) (vs j) W)->dk P ops (fun v W'=>F (b+i) (st.idxOf (b+i)+1) v W'/\Wp (st.idxOf (b+i)+1) W'/\Step (st.idxOf (b+i)) W W') o (lit vs) W)/\
 (st.contains (b+i)=S->∀ (vs:Nat->Value) W k,tK ops st (b+i)<=k->k<=tO ops st (b+i)->Wp k W->(∀ j∈bm ops (b+i),F j k (vs j) W)->cZ P ops (F (b+i) k) o (lit vs) W)
 | [],b,i,o,_,hi=>by simp at hi
 | x :: l,b,0,o,h,hi=>by
  simp only[List.getElem?_cons_zero,Option.some.injEq] at hi
  subst hi
  have h1:=h.1
  simp only[Nat.add_zero]
  constructor
  ·intro e;rw[e] at h1;exact h1
  ·intro e;rw[e] at h1;exact h1
 | x :: l,b,i+1,o,h,hi=>by
  have:=jB l (b+1) i o h.2 (by simpa using hi)
  rw[show b+1+i=b+(i+1) by omega] at this
  exact this
theorem fj {P:Program}{l:List Oper}{Q:Exit->Act->World->Prop}{id:Nat}{a:Act}{w:World}(st:List Nat)(Wp:Nat->World->Prop)(Step:Nat->World->World->Prop)(lit:(Nat->Value)->Act)(F:Nat->Nat->Value->World->Prop)
 (hm:P.follows .mixedOrders=T) (hr:nL l.toArray=T) (hc:ip l.toArray st=T) (hnd:st.Nodup) (hlit:∀ vs,aH l.toArray a (fun _=>T) vs=lit vs)
 (h0:Wp 0 w)
 (hW:∀ k W W',Wp k W->Below W.heap.size W W'->Wp k W')
 (hF:∀ i k v W W',F i k v W->Below W.heap.size W W'->F i k v W')
 (hS:∀ k W W',Wp k W->Step k W W'->∀ i v,F i k v W->F i (k+1) v W')
 (hop:kN P l.toArray F Wp Step lit st l 0)
 (hend:∀ (vs:Nat->Value) W,Wp st.length W->(∀ i,i<l.length->F i st.length (vs i) W)->Q .normal (lit vs) W):(Code.region id l.toArray T).wp P Q a w:=by
 refine fi hm hr (fun d vs W=>∃ k,k<=st.length/\(∀ j s,st[j]?=V s->(d s=T↔j<k))/\(∀ i,d i=T->∀ j∈bm l.toArray i,d j=T)/\Wp k W/\∀ i,d i=T->F i k (vs i) W) ?_ ?_ ?_
 ·exact⟨0,Nat.zero_le _,fun j s _=>by simp,(fun i h=>by cases h),hW 0 _ _ h0 (M _ _).drew,(fun i h=>by cases h)⟩
 ·rintro i o ho d vs W ⟨k,hk,hst,hcl,hWk,hFd⟩ hdi hdep
  have ho':l[i]?=V o:=by simpa using ho
  rw[hlit]
  obtain⟨e1,e2⟩:=jB l 0 i o hop ho'
  rw[Nat.zero_add] at e1 e2
  have hFdep:∀ j∈bm l.toArray i,F j k (vs j) W:=fun j hj=>hFd j (hdep j hj)
  cases hci:st.contains i with
  | true=>
   have hmem:i∈st:=by simpa using hci
   have hidx:st.idxOf i<st.length:=List.idxOf_lt_length_iff.2 hmem
   have hat:st[st.idxOf i]?=V i:=by rw[List.getElem?_eq_getElem hidx,List.getElem_idxOf hidx]
   have hki:st.idxOf i=k:=by
    have h1:¬ st.idxOf i<k:=fun h=>by
     have:=(hst _ i hat).2 h
     rw[hdi] at this;cases this
    rcases Nat.lt_or_eq_of_le (Nat.le_of_not_lt h1) with h2 | h2
    ·exfalso
     have hp:st.idxOf i-1+1=st.idxOf i:=by omega
     have hpl:st.idxOf i-1<st.length:=by omega
     have hs:=kR st hc (st.idxOf i-1) st[st.idxOf i-1] i (List.getElem?_eq_getElem hpl) (by rw[hp];exact hat)
     have hd:=hdep _ hs
     have:=(hst _ _ (List.getElem?_eq_getElem hpl)).1 hd
     omega
    ·exact h2.symm
   have h3:=e1 hci vs W (by rw[hki];exact hWk) (by rw[hki];exact hFdep)
   refine gz h3 ?_
   rintro v W' ⟨hv,hW2,hstep⟩
   rw[hki] at hv hW2 hstep
   refine⟨k+1,by omega,fun j s hs=>?_,fun x hx j hj=>by
    by_cases e:x=i
    ·subst e;have h4:=hdep j hj;by_cases e2:j=x <;> simp[e2,h4]
    ·simp only[if_neg e] at hx;have h4:=hcl x hx j hj;by_cases e2:j=i <;> simp[e2,h4],hW2,fun j hj=>?_⟩
   ·by_cases e:s=i
    ·subst e
     have hj:j=k:=by
      rw[<-hki]
      have hjl:=(List.getElem?_eq_some_iff.1 hs).1
      have hsj:=(List.getElem?_eq_some_iff.1 hs).2
      have:=hnd.idxOf_getElem j hjl
      rw[hsj] at this
      exact this.symm
     simp;omega
    ·simp only[if_neg e]
     rw[hst j s hs]
     constructor
     ·omega
     ·intro h
      by_cases hj:j=k
      ·exfalso
       subst hj
       rw[<-hki,hat] at hs
       injection hs with hs
       exact e hs.symm
      ·omega
   ·by_cases e:j=i
    ·subst e;simp only[if_true];exact hv
    ·simp only[if_neg e] at hj ⊢
     exact hS k W W' hWk hstep j _ (hFd j hj)
  | false=>
   have hnm:i ∉ st:=by simpa using hci
   have hlo:tK l.toArray st i<=k:=by
    unfold tK
    have hsub:∀ (s:List Nat) (b:Nat),(∀ j x,s[j]?=V x->st[b+j]?=V x)->(s.filter fun x=>(bm l.toArray i).contains x).length<=k-b:=by
     intro s
     induction s with
     | nil=>intro b _;simp
     | cons x s ih=>
      intro b hb
      have hx:=hb 0 x (by simp)
      rw[Nat.add_zero] at hx
      have ih2:=ih (b+1) (fun j y hy=>by rw[show b+1+j=b+(j+1) by omega];exact hb (j+1) y (by simpa using hy))
      rw[List.filter_cons]
      split
      ·rename_i hcx
       have hd:=hdep x (by simpa using hcx)
       have:=(hst b x hx).1 hd
       simp only[List.length_cons]
       omega
      ·omega
    have:=hsub st 0 (fun j x h=>by rw[Nat.zero_add];exact h)
    omega
   have hhi:k<=tO l.toArray st i:=by
    unfold tO
    rcases Nat.lt_or_ge (st.findIdx fun s=>(bm l.toArray s).contains i) st.length with h | h
    ·refine Nat.le_of_not_lt fun hlt=>?_
     have hp:=List.findIdx_getElem (w:=h)
     have hd:=(hst _ _ (List.getElem?_eq_getElem h)).2 hlt
     have:=hcl _ hd i (by simpa using hp)
     rw[hdi] at this
     cases this
    ·omega
   exact gu (e2 hci vs W k hlo hhi hWk hFdep) (fun v W' hv hb=>⟨k,hk,fun j s hs=>by
    have hne:s≠i:=fun e=>hnm (e ▸ List.mem_of_getElem? hs)
    simp only[if_neg hne]
    exact hst j s hs,fun x hx j hj=>by
    by_cases e:x=i
    ·subst e;have h4:=hdep j hj;by_cases e2:j=x <;> simp[e2,h4]
    ·simp only[if_neg e] at hx;have h4:=hcl x hx j hj;by_cases e2:j=i <;> simp[e2,h4],hW k W W' hWk hb,fun j hj=>by
    by_cases e:j=i
    ·subst e;simp only[if_true];exact hv
    ·simp only[if_neg e] at hj ⊢
     exact hF j _ _ W W' (hFd j hj) hb⟩)
 ·rintro d vs W ⟨k,hk,hst,hcl,hWk,hFd⟩ hall
  rw[hlit]
  have hks:k=st.length:=by
   rcases Nat.lt_or_eq_of_le hk with h | h
   ·exfalso
    have h1:=(hst k _ (List.getElem?_eq_getElem h))
    have h2:=hall st[k] (kQ st hc _ (List.getElem_mem h))
    have:=h1.1 h2
    omega
   ·exact h
  subst hks
  exact hend vs W hWk (fun i hi=>hFd i (hall i (by simpa using hi)))
end
section
open Go.RowKit
def bh (xs:List Int):Prop:=xs.length=8/\fC xs
theorem aC {xs:List Int}(h:xs.length=8):∃ a b c d e f g i,xs=[a,b,c,d,e,f,g,i]:=by
 match xs,h with
 | [a,b,c,d,e,f,g,i],_=>exact⟨a,b,c,d,e,f,g,i,rfl⟩
def oW (a b:Int):Int:=((a.toNat &&& b.toNat:Nat):Int)
def Ck (a b:Int):Int:=((a.toNat ||| b.toNat:Nat):Int)
theorem tC {a b:Int}(h0:0<=a)(h1:a<4294967296):0<=oW a b/\oW a b<4294967296:=by
 unfold oW
 have:=Nat.and_le_left (n:=a.toNat) (m:=b.toNat)
 omega
theorem uZ {a b:Int}(h0:0<=a)(h1:a<4294967296)(h2:0<=b)(h3:b<4294967296):0<=Ck a b/\Ck a b<4294967296:=by
 unfold Ck
 have:=Nat.or_lt_two_pow (x:=a.toNat) (y:=b.toNat) (n:=32) (by omega) (by omega)
 omega
def kj (both:Bool)(a b:Nat):Nat->Nat
 | 0=>0
 | n+1=>kj both a b n+(if (if both then a / 2 ^ n % 2+b / 2 ^ n % 2=2 else 0<a / 2 ^ n % 2+b / 2 ^ n % 2) then 2 ^ n else 0)
theorem rp (x n:Nat):x % 2 ^ (n+1)=x % 2 ^ n+(if x / 2 ^ n % 2=1 then 2 ^ n else 0):=by
 rw[Nat.mod_pow_succ]
 have:x / 2 ^ n % 2=0\/x / 2 ^ n % 2=1:=by omega
 rcases this with h | h <;> simp[h]
theorem BD (a b n:Nat):(a &&& b) / 2 ^ n % 2=1↔a / 2 ^ n % 2=1/\b / 2 ^ n % 2=1:=by
 have h:=Nat.testBit_and a b n
 simp only[Nat.testBit_eq_decide_div_mod_eq,decide_eq_decide,<-Bool.decide_and] at h
 exact h
theorem Dy (a b n:Nat):(a ||| b) / 2 ^ n % 2=1↔a / 2 ^ n % 2=1\/b / 2 ^ n % 2=1:=by
 have h:=Nat.testBit_or a b n
 simp only[Nat.testBit_eq_decide_div_mod_eq,decide_eq_decide,<-Bool.decide_or] at h
 exact h
theorem rq (a b:Nat):∀ n,kj T a b n=(a &&& b) % 2 ^ n
 | 0=>by simp[kj,Nat.mod_one]
 | n+1=>by
  rw[rp,kj,rq a b n]
  congr 1
  have h1:a / 2 ^ n % 2=0\/a / 2 ^ n % 2=1:=by omega
  have h2:b / 2 ^ n % 2=0\/b / 2 ^ n % 2=1:=by omega
  have h3:=BD a b n
  rcases h1 with h1 | h1 <;> rcases h2 with h2 | h2 <;> simp[h1,h2] at h3 ⊢ <;> simp[h3]
theorem uy (a b:Nat):∀ n,kj S a b n=(a ||| b) % 2 ^ n
 | 0=>by simp[kj,Nat.mod_one]
 | n+1=>by
  rw[rp,kj,uy a b n]
  congr 1
  have h1:a / 2 ^ n % 2=0\/a / 2 ^ n % 2=1:=by omega
  have h2:b / 2 ^ n % 2=0\/b / 2 ^ n % 2=1:=by omega
  have h3:=Dy a b n
  rcases h1 with h1 | h1 <;> rcases h2 with h2 | h2 <;> simp[h1,h2] at h3 ⊢ <;> simp[h3]
theorem uz (both:Bool)(a b:Nat):∀ n,kj both a b n<2 ^ n
 | 0=>by simp[kj]
 | n+1=>by
  have:=uz both a b n
  rw[kj,Nat.pow_succ]
  have:∀ c:Prop,[Decidable c]->(if c then 2 ^ n else 0)<=2 ^ n:=by intro c _;split <;> omega
  have:=this (if both=T then a / 2 ^ n % 2+b / 2 ^ n % 2=2 else 0<a / 2 ^ n % 2+b / 2 ^ n % 2)
  omega
theorem BE (both:Bool)(a b:Int)(h0:0<=a)(h1:a<4294967296)(h2:0<=b)(h3:b<4294967296):(kj both a.toNat b.toNat 32:Int)=if both then oW a b else Ck a b:=by
 cases both
 ·rw[uy,Nat.mod_eq_of_lt (Nat.or_lt_two_pow (by omega) (by omega))];rfl
 ·rw[rq,Nat.mod_eq_of_lt (Nat.lt_of_le_of_lt Nat.and_le_left (by omega))];rfl
def wM (op a b k self:Int):Option Int:=
 if op=1 then V k
 else if op=2 then V a
 else if op=3 then V ((a+k) % 4294967296)
 else if op=4 then V (oW a k)
 else if op=5 then V (a*2 ^ k.toNat % 4294967296)
 else if op=6 then V (a / 2 ^ k.toNat)
 else if op=7 then V (Ck a b)
 else if op=11 then V self
 else Z
def fG (xs:List Int)(i:aN)(self:Int):Option Int:=wM i.op (aF xs i.s.toNat) (aF xs i.t.toNat) i.k self
def gL (op a b pl pc:Int):Int:=if op=10\/(op=8/\a=b)\/(op=9/\a≠b) then pl else if op=13 then pc else pc+1
def io (xs:List Int)(pc:Int)(i:aN):Int:=gL i.op (aF xs i.s.toNat) (aF xs i.t.toNat) i.pl pc
def BY (xs:List Int)(i:aN)(self:Int):List Int:=match fG xs i self with
 | some v=>xs.set i.d.toNat v
 | none=>xs
def jq (xs:List Int)(i:aN)(self:Int):List Int:=if cX i.op then xs else BY xs i self
def lD (xs:List Int)(pc:Int)(i:aN):Int:=if cX i.op then pc else io xs pc i
structure BM (i:aN):Prop where
 op:(1<=i.op/\i.op<=13)\/(16<=i.op/\i.op<=23)
 d:0<=i.d/\i.d<=7
 s:0<=i.s/\i.s<=7
 t:0<=i.t/\i.t<=7
 k:0<=i.k/\i.k<4294967296
 sh:(i.op=5\/i.op=6)->i.k<=31
 mark:(i.op=12\/i.op=13)->i.k<=4
theorem B0 {i:aN}{p:Int}(h:au i p=T)(k0:0<=i.k)(k1:i.k<4294967296):BM i:=by
 obtain⟨hd,hs,ht,hu,ha⟩:=eB i p h
 obtain⟨op,d,s,t,u,a,k,pl⟩:=i
 simp only at k0 k1 hd hs ht hu ha
 refine⟨?_,hd,hs,ht,⟨k0,k1⟩,?_,?_⟩
 ·rcases cq op with rfl|rfl|rfl|rfl|rfl|rfl|rfl|rfl|rfl|rfl|rfl|rfl|rfl|rfl|rfl|rfl|rfl|rfl|rfl|rfl|rfl | hn
  rotate_right
  ·unfold au at h
   rw[(dA hn).1] at h
   simp at h
  all_goals simp
 ·rintro(e | e)
  ·simp only at e
   subst e
   rw[j6 d s t u a k pl p hd hs ht hu ha k0 k1] at h
   simp at h
   exact h.2
  ·simp only at e
   subst e
   rw[jZ d s t u a k pl p hd hs ht hu ha k0 k1] at h
   simp at h
   exact h.2
 ·rintro(e | e)
  ·simp only at e
   subst e
   rw[iJ d s t u a k pl p hd hs ht hu ha k0 k1] at h
   simp at h
   show k<=4
   omega
  ·simp only at e
   subst e
   rw[iI d s t u a k pl p hd hs ht hu ha k0 k1] at h
   simp at h
   show k<=4
   omega
section
variable {xs:List Int}{i:aN}{self:Int}
theorem pF {k:Int}(h0:0<=k)(h1:k<=31):(1:Int)<=2 ^ k.toNat/\(2:Int) ^ k.toNat<=2147483648:=by
 have a:=Nat.one_le_two_pow (n:=k.toNat)
 have b:=Nat.pow_le_pow_right (n:=2) (by omega) (show k.toNat<=31 by omega)
 have e:((2 ^ k.toNat:Nat):Int)=(2:Int) ^ k.toNat:=by simp
 omega
theorem rU (hx:fC xs)(h:BM i)(h0:0<=self)(h1:self<4294967296){v:Int}(hv:fG xs i self=V v):0<=v/\v<4294967296:=by
 have es:=hx.at_ i.s.toNat
 have et:=hx.at_ i.t.toNat
 have hk:=h.k
 unfold fG wM at hv
 repeat' split at hv
 all_goals first | (injection hv with hv;subst hv) | cases hv
 ·omega
 ·omega
 ·omega
 ·exact tC es.1 es.2
 ·omega
 ·rename_i e
  have hp:=pF hk.1 (h.sh (.inr e))
  have:=Int.ediv_le_self (2 ^ i.k.toNat) es.1
  have:=Int.ediv_nonneg es.1 (by omega:(0:Int)<=2 ^ i.k.toNat)
  omega
 ·exact uZ es.1 es.2 et.1 et.2
 ·omega
theorem bh.one (hx:bh xs)(h:BM i)(h0:0<=self)(h1:self<4294967296):bh (jq xs i self):=by
 unfold jq BY
 split
 ·exact hx
 ·split
  ·rename_i v hv
   exact⟨by rw[List.length_set];exact hx.1,hx.2.set _ _ (rU hx.2 h h0 h1 hv)⟩
  ·exact hx
end
structure F1 where
 xs:List Int
 pc:Int
 ms:List Int
 done:Int
 e:Int
def fM (self:Int)(l:List aN):Nat->List Int->Int->List Int->F1
 | n,xs,pc,ms=>
  if pc<0 then ⟨xs,pc,ms,-1,11⟩
  else match l[pc.toNat]? with
   | none=>⟨xs,pc,ms,-1,11⟩
   | some i=>if cX i.op then ⟨xs,pc,ms,-1,0⟩
    else match n with
     | 0=>⟨xs,pc,ms,-1,11⟩
     | n+1=>if i.op=13 then ⟨xs,pc,ms,i.k,0⟩ else fM self l n (jq xs i self) (lD xs pc i) (if i.op=12 then ms++[i.k] else ms)
section
variable {self:Int}{l:List aN}{n:Nat}{xs:List Int}{pc:Int}{ms:List Int}
theorem mW (h:pc<0\/l.length<=pc):fM self l n xs pc ms=⟨xs,pc,ms,-1,11⟩:=by
 unfold fM
 by_cases h0:pc<0
 ·rw[if_pos h0]
 ·rw[if_neg h0,List.getElem?_eq_none (by omega)]
theorem mX {i:aN}{k:Nat}(h:l[k]?=V i)(hm:cX i.op=T):fM self l n xs k ms=⟨xs,k,ms,-1,0⟩:=by
 unfold fM
 rw[if_neg (by omega),Int.toNat_natCast,h]
 simp[hm]
theorem kA {i:aN}{k:Nat}(h:l[k]?=V i)(hm:cX i.op=S):fM self l 0 xs k ms=⟨xs,k,ms,-1,11⟩:=by
 unfold fM
 rw[if_neg (by omega),Int.toNat_natCast,h]
 simp[hm]
theorem kD {i:aN}{k:Nat}(h:l[k]?=V i)(hm:i.op=13):fM self l (n+1) xs k ms=⟨xs,k,ms,i.k,0⟩:=by
 unfold fM
 rw[if_neg (by omega),Int.toNat_natCast,h]
 simp[hm,cX]
theorem kC {i:aN}{k:Nat}(h:l[k]?=V i)(hm:cX i.op=S)(h13:i.op≠13):fM self l (n+1) xs k ms=fM self l n (jq xs i self) (lD xs k i) (if i.op=12 then ms++[i.k] else ms):=by
 conv=>lhs;unfold fM
 rw[if_neg (by omega),Int.toNat_natCast,h]
 simp[hm,h13]
end
theorem fV {self:Int}{l:List aN}(hl:∀ i∈l,BM i)(h0:0<=self)(h1:self<4294967296):∀ (n:Nat) (xs:List Int) (pc:Int) (ms:List Int),bh xs->bh (fM self l n xs pc ms).xs
 | n,xs,pc,ms,hx=>by
  by_cases h9:pc<0\/l.length<=pc
  ·rw[mW h9];exact hx
  ·obtain⟨k,rfl⟩:∃ k:Nat,pc=k:=⟨pc.toNat,by omega⟩
   have hk:=List.getElem?_eq_getElem (l:=l) (i:=k) (by omega)
   have hi:=hl _ (List.getElem_mem (l:=l) (n:=k) (by omega))
   generalize l[k]=i at hk hi
   by_cases hm:cX i.op=T
   ·rw[mX hk hm];exact hx
   ·have hm':cX i.op=S:=by simpa using hm
    match n with
    | 0=>rw[kA hk hm'];exact hx
    | n+1=>
     by_cases h13:i.op=13
     ·rw[kD hk h13];exact hx
     ·rw[kC hk hm' h13];exact fV hl h0 h1 n _ _ _ (hx.one hi h0 h1)
end
section
def dU (zs:List Int):Prop:=zs.length<=8/\∀ k,k<zs.length->0<=aF zs k/\aF zs k<=4096
def sz (zs:List Int)(k:Nat):Nat:=(aF zs k).toNat
def pre (zs:List Int):Nat->Nat
 | 0=>0
 | k+1=>pre zs k+sz zs k
theorem fq (zs:List Int)(k:Nat):pre zs (k+1)=pre zs k+sz zs k:=rfl
def jn (zs:List Int):Nat:=pre zs zs.length
def je (zs:List Int):Nat->List (Nat×Nat)
 | 0=>[]
 | k+1=>je zs k++(List.range (sz zs k)).map fun i=>(k,i)
def nP (zs:List Int):List (Nat×Nat):=je zs zs.length
section
variable {zs:List Int}
theorem zH (h:dU zs){k:Nat}(hk:k<zs.length):aF zs k=(sz zs k:Int):=by
 have:=(h.2 k hk).1;unfold sz;omega
theorem BW (h:dU zs){k:Nat}(hk:k<zs.length):sz zs k<=4096:=by
 have:=(h.2 k hk);unfold sz;omega
theorem qM (zs:List Int){a b:Nat}(h:a<=b):pre zs a<=pre zs b:=by
 induction b with
 | zero=>
  obtain rfl:a=0:=by omega
  exact B _
 | succ b ih=>
  by_cases e:a=b+1
  ·subst e;exact B _
  ·exact Nat.le_trans (ih (by omega)) (by simp[pre])
theorem p6 (h:dU zs):∀ k,k<=zs.length->pre zs k<=4096*k
 | 0,_=>B _
 | k+1,hk=>by
  have h1:=p6 h k (by omega)
  have h2:=BW h (k:=k) (by omega)
  rw[fq];omega
theorem tE (h:dU zs):jn zs<=32768:=by
 have h1:=p6 h zs.length (B _)
 have h2:=h.1
 unfold jn;omega
theorem AM {k:Nat}(hk:k<=zs.length):pre zs k<=jn zs:=qM zs hk
theorem iV (zs:List Int):∀ k,(je zs k).length=pre zs k
 | 0=>rfl
 | k+1=>by simp[je,pre,iV zs k]
theorem jY (zs:List Int):(nP zs).length=jn zs:=iV zs _
theorem rn (zs:List Int):∀ K a p,a<K->p<sz zs a->(je zs K)[pre zs a+p]?=V (a,p)
 | 0,a,p,ha,_=>by omega
 | K+1,a,p,ha,hp=>by
  unfold je
  rw[List.getElem?_append,iV]
  by_cases e:a=K
  ·subst e
   rw[if_neg (by omega),Nat.add_sub_cancel_left]
   simp[hp]
  ·have h1:pre zs (a+1)<=pre zs K:=qM zs (by omega)
   rw[fq] at h1
   rw[if_pos (by omega)]
   exact rn zs K a p (by omega) hp
theorem ma {a p:Nat}(ha:a<zs.length)(hp:p<sz zs a):(nP zs)[pre zs a+p]?=V (a,p):=rn zs _ a p ha hp
theorem oi (zs:List Int):∀ K i,i<pre zs K->∃ a p,a<K/\p<sz zs a/\i=pre zs a+p
 | 0,i,h=>by unfold pre at h;omega
 | K+1,i,h=>by
  by_cases e:i<pre zs K
  ·obtain⟨a,p,h1,h2,h3⟩:=oi zs K i e
   exact⟨a,p,by omega,h2,h3⟩
  ·rw[fq] at h
   exact⟨K,i-pre zs K,by omega,by omega,by omega⟩
theorem nX {i:Nat}(h:i<jn zs):∃ a p,a<zs.length/\p<sz zs a/\i=pre zs a+p:=oi zs _ i h
theorem tH {a p:Nat}(ha:a<zs.length)(hp:p<sz zs a):pre zs a+p<jn zs:=by
 have h1:pre zs (a+1)<=jn zs:=AM (by omega)
 rw[fq] at h1;omega
def tQ (c:Nat×Nat):List Value:=[I N c.1,I N c.2]
def jG (l:List (Nat×Nat)):List Value:=l.flatMap tQ
theorem tu (l:List (Nat×Nat))(c:Nat×Nat):jG (l++[c])=jG l++tQ c:=by simp[jG]
theorem rm:∀ (l:List (Nat×Nat)) (k:Nat) (c:Nat×Nat),l[k]?=V c->(jG l)[k*2]?=V (I N c.1)/\(jG l)[k*2+1]?=V (I N c.2)
 | [],k,c,h=>by simp at h
 | x :: l,0,c,h=>by simp at h;subst h;exact⟨rfl,rfl⟩
 | x :: l,k+1,c,h=>by
  have ih:=rm l k c (by simpa using h)
  have e:jG (x :: l)=I N x.1 :: I N x.2 :: jG l:=by simp[jG,tQ]
  rw[e,show (k+1)*2=k*2+1+1 by omega]
  exact ih
def dQ (zs:List Int)(k i:Nat):List (Nat×Nat):=je zs k++(List.range i).map fun i=>(k,i)
theorem vZ (zs:List Int)(k:Nat):dQ zs k 0=je zs k:=by simp[dQ]
theorem qA (zs:List Int)(k:Nat):dQ zs k (sz zs k)=je zs (k+1):=rfl
theorem pj (zs:List Int)(k i:Nat):dQ zs k (i+1)=dQ zs k i++[(k,i)]:=by simp[dQ,List.range_succ]
theorem qz (zs:List Int)(k i:Nat):(dQ zs k i).length=pre zs k+i:=by simp[dQ,iV]
end
structure Lk where
 l:List aN
 lo:Int
 un:Int
 zs:List Int
 each:Nat
 n:Nat
structure kX where
 xs:List Int
 pc:Int
structure Pn where
 free:Nat->List Nat
 gen:List Int
 out:List Int
structure Mc where
 ws:List Int
 pn:Pn
 cs:Nat->kX
structure Ot where
 ms:List Int
 done:Int
 addr:Int
 wrote:Bool
 stay:Bool
 e:Int
def fA {α:Type}(f:Nat->α)(t:Nat)(v:α):Nat->α:=fun i=>if i=t then v else f i
theorem kw {α:Type}(f:Nat->α)(t:Nat)(v:α):fA f t v t=v:=by simp[fA]
theorem jg {α:Type}{f:Nat->α}{t i:Nat}{v:α}(h:i≠t):fA f t v i=f i:=by simp[fA,h]
def Fb (gen:List Int)(q:Nat):Int:=aF gen q*4096+((q:Int)+1)
def F3 (gen out:List Int)(h:Int):Bool:=decide (1<=h % 4096/\h % 4096<=(out.length:Int)/\aF out (h % 4096-1).toNat=1/\Fb gen (h % 4096-1).toNat=h)
def kV (p:Pn)(t:Nat):Pn×Int:=match p.free t with
 | []=>(p,0)
 | q :: rest=>(⟨fA p.free t rest,p.gen,p.out.set q 1⟩,Fb p.gen q)
def pT (each:Nat)(p:Pn)(h:Int):Option Pn:=
 if h=0 then V p
 else if F3 p.gen p.out h then
  let q:=(h % 4096-1).toNat
  V ⟨fA p.free (q / each) (p.free (q / each)++[q]),p.gen.set q ((h / 4096+1) % 262144),p.out.set q 0⟩
 else Z
def oR (n each:Nat):Pn:=⟨fun t=>(List.range each).map fun i=>t*each+i,List.replicate (n*each) 0,List.replicate (n*each) 0⟩
def nM (each:Nat)(p:Pn)(t:Nat):Int:=(each:Int)-((p.free t).length:Int)
def fc (zs:List Int)(area v:Int):Option Nat:=
 if 0<=area/\area<zs.length/\v % 4096<sz zs area.toNat then V (pre zs area.toNat+(v % 4096).toNat) else Z
def ib (k:Lk)(m:Mc)(t:Nat)(c:kX)(o:Ot):Mc×Ot:=
 let r:=fM (t:Int) k.l 256 c.xs c.pc []
 ({ m with cs:=fA m.cs t ⟨r.xs,r.pc⟩ },{ o with ms:=r.ms,done:=r.done,e:=r.e })
def cJ (k:Lk)(m:Mc)(t:Nat)(unlock:Bool):Mc×Ot:=
 ib k m t ⟨(m.cs t).xs,if unlock then k.un else k.lo⟩ ⟨[],0,-1,S,S,0⟩
def eL:Ot:=⟨[],-1,-1,S,S,11⟩
def iq (k:Lk)(pc:Int):Option aN:=if pc<0 then Z else match k.l[pc.toNat]? with
 | some i=>if cX i.op then V i else Z
 | none=>Z
def nQ (k:Lk)(m:Mc)(t:Nat)(c:kX)(late:Bool)(i:aN)(a:Nat):Mc×Ot:=
 let v:=aF c.xs i.t.toNat
 let u:=aF c.xs i.u.toNat
 let was:=aF m.ws a
 let d:=i.d.toNat
 let o:Ot:=⟨[],0,a,S,S,0⟩
 if i.op=16 then ib k m t ⟨c.xs.set d was,c.pc+1⟩ o
 else if i.op=17 then ib k { m with ws:=m.ws.set a v } t ⟨c.xs,c.pc+1⟩ { o with wrote:=T }
 else if i.op=18 then ib k { m with ws:=m.ws.set a v } t ⟨c.xs.set d was,c.pc+1⟩ { o with wrote:=T }
 else if i.op=19 then
  if was=v then ib k { m with ws:=m.ws.set a u } t ⟨c.xs.set d 1,c.pc+1⟩ { o with wrote:=T }
  else ib k m t ⟨c.xs.set d 0,c.pc+1⟩ o
 else if i.op=20 then ib k { m with ws:=m.ws.set a ((was+i.k) % 4294967296) } t ⟨c.xs.set d was,c.pc+1⟩ { o with wrote:=T }
 else
  let holds:=decide (was=v) != decide (i.k=1)
  if holds then ib k m t ⟨c.xs.set d was,c.pc+1⟩ o
  else if late=S\/i.pl<0 then ({ m with cs:=fA m.cs t ⟨c.xs.set d was,c.pc⟩ },{ o with stay:=T,done:=-1 })
  else ib k m t ⟨c.xs.set d was,i.pl⟩ o
def dv (k:Lk)(m:Mc)(t:Nat)(late:Bool):Mc×Ot:=
 let c:=m.cs t
 match iq k c.pc with
 | none=>(m,eL)
 | some i=>
  let s:=aF c.xs i.s.toNat
  if i.op=22 then
   let r:=kV m.pn t
   ib k { m with pn:=r.1 } t ⟨c.xs.set i.d.toNat r.2,c.pc+1⟩ ⟨[],0,-1,S,S,0⟩
  else if i.op=23 then match pT k.each m.pn s with
   | none=>(m,eL)
   | some p=>ib k { m with pn:=p } t ⟨c.xs,c.pc+1⟩ ⟨[],0,-1,S,S,0⟩
  else match fc k.zs i.a s with
   | none=>(m,eL)
   | some a=>nQ k m t c late i a
def oS (k:Lk)(init r7:List Int):Mc:=⟨init,oR k.n k.each,fun t=>⟨[0,0,0,0,0,0,0,aF r7 t],0⟩⟩
structure Rn where
 m:Mc
 act:Nat->Int
 l:List En
 bad:Bool
structure FQ where
 kind:Int
 t:Int
 late:Bool
def enter (r:Rn)(kind:Int)(t:Nat):Rn:={ r with l:=r.l++[⟨kind,t,0⟩] }
structure Ac where
 ws:List Int
 c:kX
 wrote:Bool
 stay:Bool
def fK (c:kX)(i:aN)(v:Int)(late:Bool):kX×Bool:=
 if decide (v=aF c.xs i.t.toNat)==decide (i.k=0) then (⟨c.xs.set i.d.toNat v,c.pc+1⟩,S)
 else if late=T/\i.pl≠-1 then (⟨c.xs.set i.d.toNat v,i.pl⟩,S)
 else (⟨c.xs.set i.d.toNat v,c.pc⟩,T)
def gC (ws:List Int)(c:kX)(late:Bool)(i:aN)(a:Nat):Ac:=
 let v:=aF c.xs i.t.toNat
 let u:=aF c.xs i.u.toNat
 let was:=aF ws a
 let d:=i.d.toNat
 if i.op=16 then ⟨ws,⟨c.xs.set d was,c.pc+1⟩,S,S⟩
 else if i.op=17 then ⟨ws.set a v,⟨c.xs,c.pc+1⟩,T,S⟩
 else if i.op=18 then ⟨ws.set a v,⟨c.xs.set d was,c.pc+1⟩,T,S⟩
 else if i.op=19 then if was=v then ⟨ws.set a u,⟨c.xs.set d 1,c.pc+1⟩,T,S⟩ else ⟨ws,⟨c.xs.set d 0,c.pc+1⟩,S,S⟩
 else if i.op=20 then ⟨ws.set a ((was+i.k) % 4294967296),⟨c.xs.set d was,c.pc+1⟩,T,S⟩
 else ⟨ws,(fK c i was late).1,S,(fK c i was late).2⟩
structure Fm (i:aN)(n:Nat):Prop where
 op:16<=i.op/\i.op<=23
 d:0<=i.d/\i.d<=7
 s:0<=i.s/\i.s<=7
 t:0<=i.t/\i.t<=7
 u:0<=i.u/\i.u<=7
 a:0<=i.a/\i.a<=7
 k:0<=i.k/\i.k<4294967296
 aw:i.op=21->(i.k=0\/i.k=1)/\(i.pl=-1\/(0<=i.pl/\i.pl<n))
theorem CU {i:aN}{n:Nat}(h:au i n=T)(k0:0<=i.k)(k1:i.k<4294967296)(hm:cX i.op=T):Fm i n:=by
 obtain⟨hd,hs,ht,hu,ha⟩:=eB i n h
 have ho:=(B0 h k0 k1).op
 have hop:16<=i.op/\i.op<=23:=by
  unfold cX at hm
  simp only[Bool.and_eq_true,decide_eq_true_eq] at hm
  omega
 refine⟨hop,hd,hs,ht,hu,ha,⟨k0,k1⟩,fun e=>?_⟩
 obtain⟨op,d,s,t,u,a,k,pl⟩:=i
 simp only at e k0 k1 hd hs ht hu ha
 subst e
 rw[gR d s t u a k pl n hd hs ht hu ha k0 k1] at h
 simp at h
 simp only
 omega
theorem bh.put {xs:List Int}(h:bh xs)(d:Nat){v:Int}(hv:0<=v/\v<4294967296):bh (xs.set d v):=⟨by rw[List.length_set];exact h.1,h.2.set _ _ hv⟩
section
variable {ws:List Int}{c:kX}{late:Bool}{i:aN}{a n:Nat}
theorem yS:(gC ws c late i a).ws.length=ws.length:=by
 unfold gC
 simp only
 repeat' split
 all_goals simp
theorem yR (hw:fC ws)(hx:bh c.xs):fC (gC ws c late i a).ws:=by
 have h0:=hw.at_ a
 have h1:=hx.2.at_ i.t.toNat
 have h2:=hx.2.at_ i.u.toNat
 unfold gC
 simp only
 repeat' split
 all_goals first | exact hw | exact hw.set _ _ h1 | exact hw.set _ _ h2 | exact hw.set _ _ (by omega)
theorem jC {v:Int}(hv:0<=v/\v<4294967296)(hx:bh c.xs):bh (fK c i v late).1.xs:=by
 unfold fK
 repeat' split
 all_goals exact hx.put _ hv
theorem my (hw:fC ws)(hx:bh c.xs):bh (gC ws c late i a).c.xs:=by
 have h0:=hw.at_ a
 unfold gC
 simp only
 repeat' split
 all_goals first | exact hx | exact hx.put _ h0 | exact hx.put _ (by omega) | exact jC h0 hx
end
section
variable {k:Lk}{m:Mc}{t:Nat}{late:Bool}{i:aN}{a:Nat}
def fh (k:Lk)(m:Mc)(t:Nat)(c:kX)(addr:Int)(wrote stay:Bool):Mc×Ot:=
 if stay then ({ m with cs:=fA m.cs t c },⟨[],-1,addr,wrote,T,0⟩) else ib k m t c ⟨[],0,addr,wrote,S,0⟩
theorem Dz (h:Fm i k.l.length)(h22:i.op≠22)(h23:i.op≠23)(c:kX):
 nQ k m t c late i a=fh k { m with ws:=(gC m.ws c late i a).ws } t (gC m.ws c late i a).c a (gC m.ws c late i a).wrote (gC m.ws c late i a).stay:=by
 have hop:=h.op
 unfold nQ gC fh
 simp only
 by_cases h16:i.op=16
 ·simp[h16]
 by_cases h17:i.op=17
 ·simp[h17]
 by_cases h18:i.op=18
 ·simp[h18]
 by_cases h19:i.op=19
 ·simp only[h19]
  by_cases hw:aF m.ws a=aF c.xs i.t.toNat
  ·simp[hw]
  ·simp[hw]
 by_cases h20:i.op=20
 ·simp[h20]
 have h21:i.op=21:=by omega
 obtain⟨hk,hp⟩:=h.aw h21
 simp only[if_neg h16,if_neg h17,if_neg h18,if_neg h19,if_neg h20]
 unfold fK
 by_cases hw:aF m.ws a=aF c.xs i.t.toNat
 ·rcases hk with hk | hk
  ·simp[hw,hk]
  ·cases late with
   | true=>
    rcases hp with hp | ⟨hp,_⟩
    ·simp[hw,hk,hp]
    ·have h1:¬ i.pl=-1:=by omega
     have h2:¬ i.pl<0:=by omega
     simp[hw,hk,h1,h2]
   | false=>simp[hw,hk]
 ·rcases hk with hk | hk
  ·cases late with
   | true=>
    rcases hp with hp | ⟨hp,_⟩
    ·simp[hw,hk,hp]
    ·have h1:¬ i.pl=-1:=by omega
     have h2:¬ i.pl<0:=by omega
     simp[hw,hk,h1,h2]
   | false=>simp[hw,hk]
  ·simp[hw,hk]
structure Dn where
 m:Mc
 c:kX
 addr:Int
 wrote:Bool
 stay:Bool
def Cc (k:Lk)(m:Mc)(t:Nat)(c:kX)(late:Bool)(i:aN):Option Dn:=
 if i.op=22 then V ⟨{ m with pn:=(kV m.pn t).1 },⟨c.xs.set i.d.toNat (kV m.pn t).2,c.pc+1⟩,-1,S,S⟩
 else if i.op=23 then match pT k.each m.pn (aF c.xs i.s.toNat) with
  | none=>Z
  | some p=>V ⟨{ m with pn:=p },⟨c.xs,c.pc+1⟩,-1,S,S⟩
 else match fc k.zs i.a (aF c.xs i.s.toNat) with
  | none=>Z
  | some a=>V ⟨{ m with ws:=(gC m.ws c late i a).ws },(gC m.ws c late i a).c,a,(gC m.ws c late i a).wrote,(gC m.ws c late i a).stay⟩
theorem nZ (h:iq k (m.cs t).pc=Z):dv k m t late=(m,eL):=by
 unfold dv
 simp only[h]
theorem Al (h:iq k (m.cs t).pc=V i)(ho:Fm i k.l.length):dv k m t late=match Cc k m t (m.cs t) late i with
 | none=>(m,eL)
 | some r=>fh k r.m t r.c r.addr r.wrote r.stay:=by
 unfold dv Cc
 simp only[h]
 by_cases h22:i.op=22
 ·simp[h22,fh]
 by_cases h23:i.op=23
 ·simp only[if_neg h22,if_pos h23]
  cases pT k.each m.pn (aF (m.cs t).xs i.s.toNat) with
  | none=>rfl
  | some p=>simp[fh]
 ·simp only[if_neg h22,if_neg h23]
  cases fc k.zs i.a (aF (m.cs t).xs i.s.toNat) with
  | none=>rfl
  | some a=>exact Dz ho h22 h23 _
theorem fg {pc:Int}(h:iq k pc=V i):0<=pc/\pc<k.l.length/\k.l[pc.toNat]?=V i/\cX i.op=T:=by
 unfold iq at h
 by_cases h0:pc<0
 ·rw[if_pos h0] at h;cases h
 ·rw[if_neg h0] at h
  cases hk:k.l[pc.toNat]? with
  | none=>rw[hk] at h;cases h
  | some j=>
   rw[hk] at h
   simp only at h
   by_cases hm:cX j.op=T
   ·rw[if_pos hm] at h
    injection h with h
    subst h
    have:=(List.getElem?_eq_some_iff.1 hk).1
    exact⟨by omega,by omega,rfl,hm⟩
   ·rw[if_neg hm] at h;cases h
theorem ot {pc:Int}(h:iq k pc=Z):pc<0\/(k.l.length:Int)<=pc\/∃ j,0<=pc/\pc<k.l.length/\k.l[pc.toNat]?=V j/\cX j.op=S:=by
 unfold iq at h
 by_cases h0:pc<0
 ·exact .inl h0
 ·rw[if_neg h0] at h
  cases hk:k.l[pc.toNat]? with
  | none=>exact .inr (.inl (by have:=List.getElem?_eq_none_iff.1 hk;omega))
  | some j=>
   rw[hk] at h
   simp only at h
   have:=(List.getElem?_eq_some_iff.1 hk).1
   by_cases hm:cX j.op=T
   ·rw[if_pos hm] at h;cases h
   ·exact .inr (.inr ⟨j,by omega,by omega,rfl,by simpa using hm⟩)
structure Fl (k:Lk)(m:Mc):Prop where
 ws:fC m.ws
 len:m.ws.length=jn k.zs
 cs:∀ t,t<k.n->bh (m.cs t).xs
structure mE (k:Lk):Prop where
 code:p9 ⟨k.l,k.lo,k.un⟩=T
 k32:∀ i∈k.l,0<=i.k/\i.k<4294967296
 zs:dU k.zs
 few:jn k.zs<=8192
 n1:1<=k.n
 n64:k.n<=64
 each:k.each<=8
theorem mE.parts (h:mE k):1<=k.l.length/\k.l.length<=64/\0<=k.lo/\k.lo<k.l.length/\0<=k.un/\k.un<k.l.length/\∀ i∈k.l,au i k.l.length=T:=by
 have hc:=h.code
 unfold p9 at hc
 simp only[Bool.and_eq_true,decide_eq_true_eq,List.all_eq_true] at hc
 obtain⟨h1,h2,h3,h4,h5,h6,h7⟩:=hc
 exact⟨h1,h2,h3,h5,h4,h6,h7⟩
theorem mE.ok (h:mE k):∀ i∈k.l,BM i:=fun i hi=>B0 (h.parts.2.2.2.2.2.2 i hi) (h.k32 i hi).1 (h.k32 i hi).2
theorem mE.DS (h:mE k){pc:Int}(hm:iq k pc=V i):Fm i k.l.length:=by
 obtain⟨_,_,h3,h4⟩:=fg hm
 have hi:=List.mem_of_getElem? h3
 exact CU (h.parts.2.2.2.2.2.2 i hi) (h.k32 i hi).1 (h.k32 i hi).2 h4
theorem eW {cs:Nat->kX}{c:kX}{n:Nat}(h:∀ t,t<n->bh (cs t).xs)(hc:bh c.xs)(t:Nat):∀ s,s<n->bh (fA cs t c s).xs:=fun s hs=>by
 unfold fA
 split
 ·exact hc
 ·exact h s hs
end
end
section
open Go.ChangeShapes Go.WideShapes Go.ChangeAt Go.RowKit
theorem cj (i j:aN)(w:World):(binOp .eql 123 (iv i) (iv j)).run Tryz.prog w=.ok (.bool (du i j)) w:=by
 unfold iv
 have hu:=Tryz.underlying123
 go_simp
 unfold du
 repeat' split
 all_goals simp[*]
def Jb (w:World)(g:Nat)(i:aN):Prop:=Bk w g 123 #[I N i.op,I N i.d,I N i.s,I N i.t,I N i.u,I N i.a,I O i.k,I N i.pl]
theorem Jb.cells {w:World}{g:Nat}{i:aN}(h:Jb w g i):
 w.cell? ⟨g,0,Z⟩=V (I N i.op)/\w.cell? ⟨g,1,Z⟩=V (I N i.d)/\w.cell? ⟨g,2,Z⟩=V (I N i.s)/\w.cell? ⟨g,3,Z⟩=V (I N i.t)/\
 w.cell? ⟨g,4,Z⟩=V (I N i.u)/\w.cell? ⟨g,5,Z⟩=V (I N i.a)/\w.cell? ⟨g,6,Z⟩=V (I O i.k)/\w.cell? ⟨g,7,Z⟩=V (I N i.pl):=
 ⟨Bk.cell h 0,Bk.cell h 1,Bk.cell h 2,Bk.cell h 3,Bk.cell h 4,Bk.cell h 5,Bk.cell h 6,Bk.cell h 7⟩
theorem Jb.below {w w':World}{g:Nat}{i:aN}(h:Jb w g i)(hb:Below w.heap.size w w'):Jb w' g i:=(hb.block g (Bk.lt h)).trans h
theorem Jb.wT {w:World}{b:Nat}{i:aN}(h:Jb w b i):
 (∀ g:fZ w,g.x.cell? ⟨b,0,Z⟩=V (I N i.op))/\(∀ g:fZ w,g.x.cell? ⟨b,1,Z⟩=V (I N i.d))/\(∀ g:fZ w,g.x.cell? ⟨b,2,Z⟩=V (I N i.s))/\(∀ g:fZ w,g.x.cell? ⟨b,3,Z⟩=V (I N i.t))/\
 (∀ g:fZ w,g.x.cell? ⟨b,4,Z⟩=V (I N i.u))/\(∀ g:fZ w,g.x.cell? ⟨b,5,Z⟩=V (I N i.a))/\(∀ g:fZ w,g.x.cell? ⟨b,6,Z⟩=V (I O i.k))/\(∀ g:fZ w,g.x.cell? ⟨b,7,Z⟩=V (I N i.pl)):=by
 obtain⟨c0,c1,c2,c3,c4,c5,c6,c7⟩:=h.cells
 exact⟨fun g=>g.cell c0,fun g=>g.cell c1,fun g=>g.cell c2,fun g=>g.cell c3,fun g=>g.cell c4,fun g=>g.cell c5,fun g=>g.cell c6,fun g=>g.cell c7⟩
theorem Jb.made (w:World)(op d s t u a k pl:Int):Jb (w.alloc (G #[I N op,I N d,I N s,I N t,I N u,I N a,I O k,I N pl] 123)) w.heap.size ⟨op,d,s,t,u,a,k,pl⟩:=Bk.made _ _ _
theorem fJ {w x:World}{op d s t u a k pl:Int}(h:Below (w.alloc (G #[I N op,I N d,I N s,I N t,I N u,I N a,I O k,I N pl] 123)).heap.size (w.alloc (G #[I N op,I N d,I N s,I N t,I N u,I N a,I O k,I N pl] 123)) x):Jb x w.heap.size ⟨op,d,s,t,u,a,k,pl⟩/\Below w.heap.size w x:=
 ⟨(Jb.made w op d s t u a k pl).below h,((M _ _).alloc (B _) _).trans (h.mono (by simp))⟩
theorem ff {y:World}{g:Nat}{i j:aN}(h:Jb y g j):Jb (eA y g i) g i:=by
 have h8:=(((((((Bk.put h 0 (I N i.op)).put 1 (I N i.d)).put 2 (I N i.s)).put 3 (I N i.t)).put 4 (I N i.u)).put 5 (I N i.a)).put 6 (I O i.k)).put 7 (I N i.pl)
 unfold eA Jb
 simpa only[List.setIfInBounds_toArray,List.set_cons_zero,List.set_cons_succ] using h8
theorem dx (n:Int)(h0:0<=n)(h1:n<=7)(w:World):Calls Tryz.prog 106 #[I N n] w fun e w'=>e=.returned (.bool T)/\w=w':=by
 go_enter Tryz.func106,Tryz.ntmps106
 go_wp2
 go_ret
 exact⟨rfl,rfl⟩
theorem ny (n:Int)(h:n<0\/7<n)(w:World):Calls Tryz.prog 106 #[I N n] w fun e w'=>e=.returned (.bool S)/\w=w':=by
 rcases h with h | h
 ·have h2:decide (n>=0)=S:=by simp;omega
  go_enter Tryz.func106,Tryz.ntmps106
  go_wp2
  go_ret
  exact⟨rfl,rfl⟩
 ·have h2:decide (n<=7)=S:=by simp;omega
  have h3:0<=n:=by omega
  go_enter Tryz.func106,Tryz.ntmps106
  go_wp2
  go_ret
  exact⟨rfl,rfl⟩
def iY:Array Value:=#[.string ⟨#[]⟩,.string ⟨#[99,111,110,115,116]⟩,.string ⟨#[109,111,118,101]⟩,.string ⟨#[97,100,100,107]⟩,.string ⟨#[97,110,100,107]⟩,.string ⟨#[115,104,108]⟩,.string ⟨#[115,104,114]⟩,.string ⟨#[111,114]⟩,.string ⟨#[98,101,113]⟩,.string ⟨#[98,110,101]⟩,.string ⟨#[106,117,109,112]⟩,.string ⟨#[115,101,108,102]⟩,.string ⟨#[109,97,114,107]⟩,.string ⟨#[100,111,110,101]⟩,.string ⟨#[]⟩,.string ⟨#[]⟩,.string ⟨#[108,111,97,100]⟩,.string ⟨#[115,116,111,114,101]⟩,.string ⟨#[115,119,97,112]⟩,.string ⟨#[99,97,115]⟩,.string ⟨#[102,97,100,100]⟩,.string ⟨#[97,119,97,105,116]⟩,.string ⟨#[116,97,107,101]⟩,.string ⟨#[102,114,101,101]⟩]
theorem vh:∀ n:Nat,1<=n->n<=23->iY[n]?=V (.string ⟨(bD n).toArray⟩):=by
 intro n h1 h2
 have hn:n=1\/n=2\/n=3\/n=4\/n=5\/n=6\/n=7\/n=8\/n=9\/n=10\/n=11\/n=12\/n=13\/n=14\/n=15\/n=16\/n=17\/n=18\/n=19\/n=20\/n=21\/n=22\/n=23:=by omega
 rcases hn with rfl|rfl|rfl|rfl|rfl|rfl|rfl|rfl|rfl|rfl|rfl|rfl|rfl|rfl|rfl|rfl|rfl|rfl|rfl|rfl|rfl|rfl|rfl <;> rfl
theorem eZ (op:Int)(w:World):Calls Tryz.prog 105 #[I N op] w fun e w'=>e=.returned (bs (bD op))/\Below w.heap.size w w':=by
 by_cases h:op<1\/23<op
 ·have E:=D (show bD op=[] from(dA (by omega)).2)
  generalize bD op=nm at *
  rcases h with h | h
  ·go_enter Tryz.func105,Tryz.ntmps105
   go_wp2_with (first | (refine fm rfl 247 _ rfl iY (by kernel_rfl) ?_) | (refine eS rfl 247 _ _ rfl _ iY rfl rfl (by kernel_rfl) (by kernel_rfl) (by kernel_rfl) ?_))
   go_ret
   exact⟨by rw[E.out];rfl,(M _ _).alloc (B _) _⟩
  ·have h2:decide (op<1)=S:=by simp;omega
   go_enter Tryz.func105,Tryz.ntmps105
   go_wp2_with (first | (refine fm rfl 247 _ rfl iY (by kernel_rfl) ?_) | (refine eS rfl 247 _ _ rfl _ iY rfl rfl (by kernel_rfl) (by kernel_rfl) (by kernel_rfl) ?_))
   go_ret
   exact⟨by rw[E.out];rfl,(M _ _).alloc (B _) _⟩
 ·obtain⟨n,hn⟩:∃ n:Nat,op=n:=⟨op.toNat,by omega⟩
  subst hn
  have h1:1<=n:=by omega
  have h23:n<=23:=by omega
  have hc:(w.alloc (.cells iY 247)).cell? ⟨w.heap.size,n,Z⟩=V (.string ⟨(bD n).toArray⟩):=by
   rw[cell_of_row _ _ _ _ _ _ (heap_alloc_new w _)]
   exact vh n h1 h23
  generalize bD n=nm at *
  have d1:decide ((n:Int)<1)=S:=by simp;omega
  have d2:decide ((n:Int) > 23)=S:=by simp;omega
  have d3:(n:Int)<24:=by omega
  clear h
  go_enter Tryz.func105,Tryz.ntmps105
  go_wp2_with (first | (refine fm rfl 247 _ rfl iY (by kernel_rfl) ?_) | (refine eS rfl 247 _ _ rfl _ iY rfl rfl (by kernel_rfl) (by kernel_rfl) (by kernel_rfl) ?_))
  go_ret
  exact⟨rfl,(M _ _).alloc (B _) _⟩
structure xa (i:aN):Prop where
 d:0<=i.d/\i.d<=7
 s:0<=i.s/\i.s<=7
 t:0<=i.t/\i.t<=7
 u:0<=i.u/\i.u<=7
 a:0<=i.a/\i.a<=7
end
section
open Go.ChangeShapes Go.WideShapes Go.ChangeAt Go.RowKit Go.Shelf
attribute [local go_sem] Oper.semAt_some
def BQ (c:UInt8):List (List UInt8)->List (List UInt8)
 | []=>[[c]]
 | x :: xs=>(c :: x) :: xs
def bG:List UInt8->List (List UInt8)
 | []=>[]
 | c :: r=>if c=10 then [10] :: bG r else BQ c (bG r)
def ez (text:List UInt8)(k:Nat):List UInt8:=(bG text).getD k []
theorem eD:∀ (s r:List UInt8),Nl s->bG (s++10 :: r)=(s++[10]) :: bG r
 | [],r,_=>by simp[bG]
 | c :: s,r,h=>by
  have ih:=eD s r fun d hd=>h d (List.mem_cons_of_mem _ hd)
  show bG (c :: (s++10 :: r))=_
  rw[bG,if_neg (h c List.mem_cons_self),ih]
  rfl
theorem eX:∀ s:List UInt8,Nl s->s≠[]->bG s=[s]
 | [],_,h=>absurd rfl h
 | [c],h,_=>by simp[bG,h c List.mem_cons_self,BQ]
 | c :: d :: s,h,_=>by
  have ih:=eX (d :: s) (fun x hx=>h x (List.mem_cons_of_mem _ hx)) (by simp)
  rw[bG,if_neg (h c List.mem_cons_self),ih]
  rfl
theorem kH:∀ t:List UInt8,(bG t).length<=t.length
 | []=>B _
 | c :: t=>by
  have ih:=kH t
  rw[bG]
  split
  ·simp;omega
  ·cases h:bG t with
   | nil=>simp[BQ]
   | cons x y=>rw[h] at ih;simp[BQ] at ih ⊢;omega
theorem jX:∀ t:List UInt8,Nl t\/∃ s r,Nl s/\t=s++10 :: r
 | []=>.inl (by unfold Nl;simp)
 | c :: t=>by
  by_cases hc:c=10
  ·exact .inr ⟨[],t,by unfold Nl;simp,by rw[hc];rfl⟩
  rcases jX t with h | ⟨s,r,hs,rfl⟩
  ·exact .inl fun d hd=>by
    rcases List.mem_cons.1 hd with rfl | hd
    ·exact hc
    ·exact h d hd
  ·exact .inr ⟨c :: s,r,fun d hd=>by
    rcases List.mem_cons.1 hd with rfl | hd
    ·exact hc
    ·exact hs d hd,rfl⟩
theorem qW:∀ t:List UInt8,Nl t->Lib.indexByte t 10=-1
 | [],_=>rfl
 | c :: t,h=>by
  have ih:=qW t fun d hd=>h d (List.mem_cons_of_mem _ hd)
  have hc:(c==10)=S:=by simpa using h c List.mem_cons_self
  rw[Lib.indexByte,hc,ih]
  simp
theorem oC:∀ s r:List UInt8,Nl s->Lib.indexByte (s++10 :: r) 10=s.length
 | [],r,_=>by simp[Lib.indexByte]
 | c :: s,r,h=>by
  have ih:=oC s r fun d hd=>h d (List.mem_cons_of_mem _ hd)
  have hc:(c==10)=S:=by simpa using h c List.mem_cons_self
  show Lib.indexByte (c :: (s++10 :: r)) 10=_
  rw[Lib.indexByte,hc,ih]
  have:((s.length:Int)==-1)=S:=by simp
  simp[this]
theorem C6 (s:List UInt8)(w:World):
 Calls Tryz.prog 138 #[bs s,I .u8 10] w fun e w'=>e=.returned (I N (Lib.indexByte s 10))/\w=w':=
 (Any.strings_IndexByte Tryz.lays137 ⟨s.toArray⟩ 10 w).mono fun _ _ ⟨he,hw⟩=>⟨he,hw.symm⟩
theorem CI (s r:List UInt8)(w:World):(Instr.slice 9 (.string ⟨(s++10 :: r).toArray⟩) Z (V (I N ((s.length:Int)+1))) Z).run Tryz.prog w=.ok (.string ⟨(s++[10]).toArray⟩) w:=by
 have hu:=Tryz.underlying9
 go_simp
 rw[if_pos ⟨by omega,by omega⟩]
 refine congrArg (fun x=>Result.ok (Value.string x) w) (ByteArray.ext ?_)
 rw[ByteArray.data_extract]
 apply Array.ext'
 simp
 rw[show s++10 :: r=(s++[10])++r by simp,show s.length+1=(s++[10]).length by simp,List.take_left]
theorem CJ (s r:List UInt8)(w:World):(Instr.slice 9 (.string ⟨(s++10 :: r).toArray⟩) (V (I N ((s.length:Int)+1))) Z Z).run Tryz.prog w=.ok (.string ⟨r.toArray⟩) w:=by
 have hu:=Tryz.underlying9
 go_simp
 rw[if_pos ⟨by omega,by omega⟩]
 refine congrArg (fun x=>Result.ok (Value.string x) w) (ByteArray.ext ?_)
 rw[ByteArray.data_extract]
 apply Array.ext'
 simp
 exact List.take_of_length_le (by omega)
def tR (w:World)(b:Nat):Nat:=match w.cell? ⟨b,0,Z⟩ with
 | some (.string s)=>s.size
 | _=>0
theorem kT {w:World}{b:Nat}{t:TypeId}{s:List UInt8}(h:Bk w b t #[bs s]):tR w b=s.length:=by
 unfold tR
 rw[h.cell 0]
 show s.toArray.size=_
 simp
theorem xQ (text:List UInt8)(b l:Nat)(W1:World)(hb:Bk W1 b 9 #[bs text])(hlen:text.length<1000000000):
 DO Tryz.prog 137 #[U (V ⟨b,0,Z⟩)] (fun k=>#[bs (ez text k)]) (bG text).length l W1 (fun x=>x=b):=by
 intro J Jx hJ hJx hY h0
 refine callsIn_of_wp Tryz.func137 rfl trivial ?_ rfl
 simp only[Tryz.ntmps137,List.size_toArray,List.length_cons,List.length_nil,Nat.reduceAdd,Nat.reduceSub,Array.replicate_succ,Array.replicate_zero,List.push_toArray,List.append_toArray,List.nil_append,List.cons_append]
 gi_wp2
 gi_loopw [3] (fun p wr=>∃ (k:Nat) (t:List UInt8),k<=(bG text).length/\(bG text).drop k=bG t/\t.length<=text.length/\Bk wr b 9 #[bs t]/\J k wr) (fun p wr=>tR wr b)
 case atStart=>exact⟨0,text,Nat.zero_le _,rfl,B _,hb,h0⟩
 case round=>
  obtain⟨k,t,hkl,hdr,hle,hbk,hj⟩:=hrel
  have hbl:=kT hbk
  have hc0:wr.cell? ⟨b,0,Z⟩=V (.string ⟨t.toArray⟩):=hbk.cell 0
  have hfr:=hbk.free 0
  by_cases ht:t=[]
  ·subst ht
   have hk:k=(bG text).length:=by
    have:=congrArg List.length hdr
    simp[bG] at this
    omega
   subst hk
   gi_wp2
   go_end0
   exact⟨⟨_,rfl⟩,.inl hj⟩
  ·have hpos:(0:Int)<t.length:=by
    have:=List.length_pos_iff.2 ht
    omega
   have HI:=D (fun W=>callsIn_wide (n:=0) |>.2 (C6 t W))
   rcases jX t with hn | ⟨s,r,hn,rfl⟩
   ·have hk1:k<(bG text).length:=by
     have:=congrArg List.length hdr
     rw[eX t hn ht] at this
     simp at this
     omega
    have hk2:(bG text).length=k+1:=by
     have:=congrArg List.length hdr
     rw[eX t hn ht] at this
     simp at this
     omega
    have hline:ez text k=t:=by
     unfold ez
     have:=congrArg List.head? hdr
     rw[eX t hn ht] at this
     simp[List.head?_drop] at this
     simp[List.getD_eq_getElem?_getD,this]
    have hi:=qW t hn
    have w1:ab wr (wr.setCell ⟨b,0,Z⟩ (.string ⟨#[]⟩)) (fun x=>x=b):=(ab.refl _ _).put b 0 _ (.inl rfl)
    have b1:Bk (wr.setCell ⟨b,0,Z⟩ (.string ⟨#[]⟩)) b 9 #[bs []]:=hbk.put 0 _
    have hj1:=hJ k _ _ hj w1
    obtain⟨fn,tmps,assign,body,hy,hR⟩:=hY k _ hk1 hj1 (by rintro x rfl;exact b1.lt)
    rw[hline] at hy
    unfold bs at hy
    gi_wp2
    refine⟨trivial,rfl,?_⟩
    refine(HI.out _).mono ?_
    rintro e w' ⟨rfl,rfl⟩
    rw[hi]
    gi_wp2
    refine⟨rfl,hR.mono ?_⟩
    rintro e W3 ⟨hh,(⟨rfl,hJ3⟩ | ⟨rfl,hJx3⟩)⟩
    ·gi_wp2
     have b3:Bk W3 b 9 #[bs []]:=(hh.2 b rfl).trans b1
     go_roundw
     case rel=>exact⟨k+1,[],by omega,by rw[List.drop_of_length_le (by omega)];rfl,by simp,b3,hJ3⟩
     case measure=>rw[kT b3,hbl];simp;omega
    ·gi_wp2
     refine bodyPost_ret (results_none rfl _ _ _) rfl ?_
     exact⟨⟨_,rfl⟩,.inr hJx3⟩
   ·have hk1:k<(bG text).length:=by
     have:=congrArg List.length hdr
     rw[eD s r hn] at this
     simp at this
     omega
    have hdr2:(bG text).drop (k+1)=bG r:=by
     have:=congrArg List.tail hdr
     rw[eD s r hn] at this
     simpa [List.tail_drop] using this
    have hline:ez text k=s++[10]:=by
     unfold ez
     have:=congrArg List.head? hdr
     rw[eD s r hn] at this
     simp[List.head?_drop] at this
     simp[List.getD_eq_getElem?_getD,this]
    have hi:=oC s r hn
    have hi0:(0:Int)<=s.length:=by omega
    have hwr:wrap64 ((s.length:Int)+1)=(s.length:Int)+1:=by
     simp at hle
     unfold wrap64
     omega
    have hcut1:∀ w,(Instr.slice 9 (.string ⟨(s++10 :: r).toArray⟩) Z (V (I N ((s.length:Int)+1))) Z).run Tryz.prog w=.ok (.string ⟨(s++[10]).toArray⟩) w:=fun w=>CI s r w
    have hcut2:∀ w,(Instr.slice 9 (.string ⟨(s++10 :: r).toArray⟩) (V (I N ((s.length:Int)+1))) Z Z).run Tryz.prog w=.ok (.string ⟨r.toArray⟩) w:=fun w=>CJ s r w
    gi_wp2
    refine⟨trivial,rfl,?_⟩
    refine(HI.out _).mono ?_
    rintro e w' ⟨rfl,rfl⟩
    rw[hi]
    gi_wp2
    gi_region
    have w0:ab wr (wr.setCell ⟨b,0,Z⟩ (.string ⟨r.toArray⟩)) (fun x=>x=b):=(ab.refl _ _).put b 0 _ (.inl rfl)
    have w1:ab wr (wr.setCell ⟨b,0,Z⟩ (.string ⟨r.toArray⟩)).drew (fun x=>x=b):=⟨w0.os,w0.tape,w0.output,w0.size,w0.block⟩
    clear w0
    have b1:Bk (wr.setCell ⟨b,0,Z⟩ (.string ⟨r.toArray⟩)).drew b 9 #[bs r]:=hbk.put 0 (.string ⟨r.toArray⟩)
    generalize (wr.setCell ⟨b,0,Z⟩ (.string ⟨r.toArray⟩)).drew=W2 at *
    have hj1:=hJ k _ _ hj w1
    obtain⟨fn,tmps,assign,body,hy,hR⟩:=hY k _ hk1 hj1 (by rintro x rfl;exact b1.lt)
    rw[hline] at hy
    unfold bs at hy
    gi_wp2
    refine⟨rfl,hR.mono ?_⟩
    rintro e W3 ⟨hh,(⟨rfl,hJ3⟩ | ⟨rfl,hJx3⟩)⟩
    ·gi_wp2
     have b3:Bk W3 b 9 #[bs r]:=(hh.2 b rfl).trans b1
     go_roundw
     case rel=>exact⟨k+1,r,by omega,hdr2,by simp at hle;omega,b3,hJ3⟩
     case measure=>rw[kT b3,hbl];simp;omega
    ·gi_wp2
     refine bodyPost_ret (results_none rfl _ _ _) rfl ?_
     exact⟨⟨_,rfl⟩,.inr hJx3⟩
theorem C5 (s:List UInt8)(w:World):
 Calls Tryz.prog 95 #[bs s] w fun e w'=>e=.returned (.func (.func 137) #[] #[U (V ⟨w.heap.size,0,Z⟩)])/\w'=w.alloc (G #[bs s] 9):=by
 unfold bs
 go_enter Tryz.func95,Tryz.ntmps95
 go_wp2
 go_ret
 exact⟨rfl,rfl⟩
theorem DM (s p:List UInt8)(hl:s.length<1000000)(w:World):
 Calls Tryz.prog 96 #[bs s,bs p] w fun e w'=>e=.returned (.tuple #[bs (Lib.trimSuffix s p),.bool (Lib.hasSuffix s p)])/\w=w':=
 (Any.strings_CutSuffix Tryz.lays104 ⟨s.toArray⟩ ⟨p.toArray⟩ w (by show s.toArray.size<=_;simp;omega)).mono fun _ _ ⟨he,hw⟩=>⟨he,hw.symm⟩
theorem lQ (s:List UInt8)(c:UInt8):Lib.hasSuffix (s++[c]) [c]=T/\Lib.trimSuffix (s++[c]) [c]=s:=by
 have h:Lib.hasSuffix (s++[c]) [c]=T:=by
  unfold Lib.hasSuffix
  rw[List.isSuffixOf_iff_suffix]
  exact⟨s,rfl⟩
 refine⟨h,?_⟩
 unfold Lib.trimSuffix
 rw[if_pos h]
 simp
theorem p5 {s:List UInt8}{c:UInt8}(h:∀ t,s≠t++[c]):Lib.hasSuffix s [c]=S/\Lib.trimSuffix s [c]=s:=by
 have h:Lib.hasSuffix s [c]=S:=by
  rw[Bool.eq_false_iff]
  intro e
  unfold Lib.hasSuffix at e
  rw[List.isSuffixOf_iff_suffix] at e
  obtain⟨t,ht⟩:=e
  exact h t ht.symm
 refine⟨h,?_⟩
 unfold Lib.trimSuffix
 rw[if_neg (by rw[h];simp)]
theorem CE (s:List UInt8)(c:UInt8):(∃ t,s=t++[c])\/∀ t,s≠t++[c]:=by
 by_cases h:∃ t,s=t++[c]
 ·exact .inl h
 ·exact .inr fun t e=>h ⟨t,e⟩
end
section
def Fu:List aN:=[⟨11,1,0,0,0,0,0,0⟩,⟨16,2,1,0,0,1,0,0⟩,⟨5,3,1,0,0,0,1,0⟩,⟨7,3,3,2,0,0,0,0⟩,⟨18,4,0,3,0,0,0,0⟩,⟨12,0,0,0,0,0,1,0⟩,⟨4,5,4,0,0,0,1,0⟩,⟨6,6,4,0,0,0,1,0⟩,⟨21,4,6,5,0,1,1,-1⟩,⟨12,0,0,0,0,0,2,0⟩,⟨13,0,0,0,0,0,1,0⟩,
 ⟨1,3,0,0,0,0,1,0⟩,⟨8,0,2,0,0,0,0,14⟩,⟨1,3,0,0,0,0,0,0⟩,⟨17,0,1,3,0,1,0,0⟩,⟨12,0,0,0,0,0,4,0⟩,⟨13,0,0,0,0,0,2,0⟩]
def DH (n:Nat):Lk:=⟨Fu,0,11,[1,((n+1:Nat):Int)],0,n⟩
def DX (F:Nat->Int)(n:Nat):List Int:=(List.range (n+1)).map F
theorem Bp {F:Nat->Int}{n i:Nat}(x v:Int):(x :: DX F n).set (1+i) v=x :: DX (fA F i v) n:=by
 rw[Nat.add_comm 1 i,List.set_cons_succ]
 congr 1
 apply List.ext_getElem?
 intro j
 unfold DX
 rw[List.getElem?_set]
 simp only[List.getElem?_map,List.length_map,List.length_range]
 by_cases e:i=j
 ·subst e
  by_cases h:i<n+1 <;> simp[h,fA]
 ·by_cases h:j<n+1 <;> simp[e,h,fA]
  intro e2;exact absurd e2.symm e
def wS (F:Nat->Int)(x:Int):Int:=2*x+F x.toNat
end
section
open Go.ChangeShapes Go.WideShapes Go.ChangeAt Go.RowKit
def DY (w:World)(a:Option Addr)(l:List aN):Prop:=
 0<l.length->∃ b off,a=V ⟨b,off,Z⟩/\b<w.heap.size/\∀ k i,l[k]?=V i->∀ j,j<8->w.cell? ⟨b,off+k*8+j,Z⟩=(ju i)[j]?
def Pv (w:World)(v:Value)(c:im):Prop:=∃ a cap,v=.agg #[R a c.l.length cap,I N c.lo,I N c.un]/\c.l.length<=cap/\cap<=maxLen/\(a=Z->cap=0)/\DY w a c.l
section
variable {w w':World}{a:Option Addr}{l:List aN}{v:Value}{c:im}
theorem DY.below (h:DY w a l)(hb:Below w.heap.size w w'):DY w' a l:=by
 intro h0
 obtain⟨b,off,e,hlt,hc⟩:=h h0
 exact⟨b,off,e,Nat.lt_of_lt_of_le hlt hb.size,fun k i hk j hj=>(hb.cell (p:=⟨b,off+k*8+j,Z⟩) hlt).trans (hc k i hk j hj)⟩
theorem Pv.below (h:Pv w v c)(hb:Below w.heap.size w w'):Pv w' v c:=by
 obtain⟨a,cap,e,h1,h2,h4,h3⟩:=h
 exact⟨a,cap,e,h1,h2,h4,h3.below hb⟩
theorem pC {t:TypeId}{base cap:Nat}(h:w.ownsRow base t 8 (R a l.length cap) l.length (bE l)):DY w a l:=by
 intro h0
 obtain⟨a2,cap2,e,_,_,hg⟩:=bt h
 simp only[Value.slice.injEq] at e
 obtain⟨rfl,-,rfl⟩:=e
 obtain⟨g,rfl,_,_,hlt,_,hc⟩:=hg h0
 refine⟨g,0,rfl,hlt,fun k i hk j hj=>?_⟩
 have hkl:=(List.getElem?_eq_some_iff.1 hk).1
 rw[Nat.zero_add,hc _ (by omega),m6 hk hj]
theorem pG {t:TypeId}{base n cap size:Nat}{xs:List Value}(h:w.ownsRow base t size (R a n cap) n xs)(e:a=Z):cap=0:=by
 subst e
 rcases h.2 with ⟨h,_⟩ | ⟨g,c,cur,h,_⟩
 ·injection h
 ·injection h with h;cases h
theorem Pg.pv {base:Nat}(h:Pg w base v c):Pv w v c:=by
 obtain⟨sl,rfl,ho⟩:=h
 obtain⟨a,cap,rfl,h1,h2,_⟩:=bt ho
 exact⟨a,cap,rfl,h1,h2,pG ho,pC ho⟩
theorem DY.at_ (h:DY w a l){k:Nat}{i:aN}(hk:l[k]?=V i):∃ b off,a=V ⟨b,off,Z⟩/\b<w.heap.size/\w.cell? ⟨b,off+k*8,Z⟩=V (I N i.op)/\w.cell? ⟨b,off+k*8+1,Z⟩=V (I N i.d)/\w.cell? ⟨b,off+k*8+2,Z⟩=V (I N i.s)/\w.cell? ⟨b,off+k*8+3,Z⟩=V (I N i.t)/\
 w.cell? ⟨b,off+k*8+4,Z⟩=V (I N i.u)/\w.cell? ⟨b,off+k*8+5,Z⟩=V (I N i.a)/\w.cell? ⟨b,off+k*8+6,Z⟩=V (I O i.k)/\w.cell? ⟨b,off+k*8+7,Z⟩=V (I N i.pl):=by
 have hkl:=(List.getElem?_eq_some_iff.1 hk).1
 obtain⟨b,off,e,hlt,hc⟩:=h (by omega)
 exact⟨b,off,e,hlt,hc k i hk 0 (by omega),hc k i hk 1 (by omega),hc k i hk 2 (by omega),hc k i hk 3 (by omega),hc k i hk 4 (by omega),hc k i hk 5 (by omega),hc k i hk 6 (by omega),hc k i hk 7 (by omega)⟩
end
def wJ (zs:List Int):Array Value:=(zs.map (Value.int .i64)).toArray
theorem qV (zs:List Int)(i:Nat)(h:i<zs.length):(wJ zs)[i]?=V (I N (aF zs i)):=by simp[wJ,h,aF]
theorem nf (zs:List Int){k i:Nat}(h:i<k):aF (zs.take k) i=aF zs i:=by
 unfold aF;simp only[List.getD_eq_getElem?_getD,List.getElem?_take];rw[if_pos h]
theorem sd {zs:List Int}(h:dU zs)(k:Nat):dU (zs.take k):=by
 refine⟨by have:=h.1;simp;omega,fun i hi=>?_⟩
 simp at hi
 rw[nf zs (by omega)]
 exact h.2 i (by omega)
theorem qL (zs:List Int){k:Nat}:∀ j,j<=k->pre (zs.take k) j=pre zs j
 | 0,_=>rfl
 | j+1,h=>by rw[fq,fq,qL zs j (by omega)];unfold sz;rw[nf zs (by omega)]
theorem xh {zs:List Int}{k:Nat}(h:k<=zs.length):jn (zs.take k)=pre zs k:=by
 unfold jn;rw[List.length_take,Nat.min_eq_left h,qL zs k (B _)]
theorem yg {w:World}{s k:Nat}{zs:List Int}(h:Bk w s 3 (wJ zs))(hk:k<=zs.length):dO .i64 w (V ⟨s,0,Z⟩) (zs.take k):=by
 intro _
 refine⟨s,0,rfl,h.lt,fun i hi=>?_⟩
 simp at hi
 rw[Nat.zero_add,h.cell,qV zs i (by omega),nf zs (by omega)]
theorem dO.here {k:IntKind}{w:World}{a:Option Addr}{xs:List Int}(h:dO k w a xs){i:Nat}(hi:i<xs.length):∃ b off,a=V ⟨b,off,Z⟩/\w.cell? ⟨b,off+i,Z⟩=V (.int k (aF xs i)):=by
 obtain⟨b,off,e,_,hc⟩:=h (by omega)
 exact⟨b,off,e,hc i hi⟩
theorem dO.grown {k:IntKind}{w w':World}{a:Option Addr}{xs:List Int}(h:dO k w a xs)(hb:w.grownBy w' Z):dO k w' a xs:=by
 intro h0
 obtain⟨b,off,e,hlt,hc⟩:=h h0
 exact⟨b,off,e,Nat.lt_of_lt_of_le hlt hb.size,fun i hi=>((aO hb).cell (p:=⟨b,off+i,Z⟩) hlt).trans (hc i hi)⟩
theorem oL {w:World}{a:Option Addr}{zs:List Int}(h:dO .i64 w a zs)(hz:dU zs)(cap:Nat):
 Calls Tryz.prog 74 #[R a zs.length cap] w fun e w'=>e=.returned (I N (jn zs))/\w=w':=by
 have h8:=hz.1
 go_enter Tryz.func74,Tryz.ntmps74
 go_wp2
 go_loopw [3,8] (fun s t wr=>∃ k:Nat,k<=zs.length/\t=I N k/\s=I N (pre zs k)/\w=wr) (fun _ t _=>zs.length-(intOf t).toNat)
 case atStart=>exact⟨0,Nat.zero_le _,rfl,rfl,by trivial⟩
 case round=>
  obtain⟨k,hk,rfl,rfl,rfl⟩:=hrel
  by_cases hlt:k<zs.length
  ·obtain⟨b,off,rfl,hc⟩:=h.here hlt
   rw[zH hz hlt] at hc
   have h1:=BW hz hlt
   have h2:=p6 hz k hk
   have hs:=fq zs k
   go_wp2
   go_roundw
   case rel=>exact⟨k+1,by omega,by go_num,by rw[hs];go_num,by trivial⟩
   case measure=>simp[intOf];omega
  ·obtain rfl:k=zs.length:=by omega
   go_wp2
   go_ret
   exact⟨rfl,rfl⟩
theorem CY {w:World}{a:Option Addr}{zs:List Int}(h:dO .i64 w a zs)(hz:dU zs)(cap:Nat):
 Calls Tryz.prog 73 #[R a zs.length cap] w fun e w'=>e=.returned (.bool T)/\w=w':=by
 have h8:=hz.1
 go_enter Tryz.func73,Tryz.ntmps73
 go_wp2
 go_loopw [10] (fun t wr=>∃ k:Nat,k<=zs.length/\t=I N k/\w=wr) (fun t _=>zs.length-(intOf t).toNat)
 case atStart=>exact⟨0,Nat.zero_le _,rfl,by trivial⟩
 case round=>
  obtain⟨k,hk,rfl,rfl⟩:=hrel
  by_cases hlt:k<zs.length
  ·obtain⟨b,off,rfl,hc⟩:=h.here hlt
   obtain⟨h1,h2⟩:=hz.2 k hlt
   go_wp2
   go_roundw
   case rel=>exact⟨k+1,by omega,by go_num,by trivial⟩
   case measure=>simp[intOf];omega
  ·obtain rfl:k=zs.length:=by omega
   go_wp2
   go_ret
   exact⟨rfl,rfl⟩
structure Mm (w:World)(p q g s:Nat)(zs xs:List Int):Prop where
 ptr:Bk w p 167 #[U (V ⟨q,0,Z⟩),R (V ⟨s,0,Z⟩) zs.length zs.length]
 cel:nS w q g xs
 row:Bk w s 3 (wJ zs)
 right:dU zs
 len:xs.length=jn zs
section
variable {w w':World}{p q g s:Nat}{zs xs ys:List Int}
theorem Mm.grown (h:Mm w p q g s zs xs)(hg:w.grownBy w' Z):Mm w' p q g s zs xs:=
 ⟨h.ptr.grown hg (by simp),h.cel.kept hg (by simp) (by simp),h.row.grown hg (by simp),h.right,h.len⟩
theorem Mm.alloc (h:Mm w p q g s zs xs)(o:Obj):Mm (w.alloc o) p q g s zs xs:=h.grown (bi _ _ Z)
theorem Mm.drewN (h:Mm w p q g s zs xs)(n:Nat):Mm (w.drewN n) p q g s zs xs:=h.grown (dD (cP w Z) n)
theorem Mm.only (h:Mm w p q g s zs xs)(hc:nS w' q g ys)(ho:fD w w' g)(hl:ys.length=xs.length):Mm w' p q g s zs ys:=
 ⟨h.ptr.grown ho (fun e=>by injection e with e;exact h.ptr.aj h.cel.row (by decide) e),hc,h.row.grown ho (fun e=>by injection e with e;exact h.row.aj h.cel.row (by decide) e),h.right,hl.trans h.len⟩
theorem Mm.off {b:Nat}(h:Mm w p q g s zs xs)(ho:fD w w' b)(h1:b≠p)(h2:b≠q)(h3:b≠g)(h4:b≠s):Mm w' p q g s zs xs:=
 ⟨h.ptr.grown ho (fun e=>by injection e with e;exact h1 e.symm),h.cel.kept ho (fun e=>by injection e with e;exact h2 e.symm) (fun e=>by injection e with e;exact h3 e.symm),h.row.grown ho (fun e=>by injection e with e;exact h4 e.symm),h.right,h.len⟩
theorem Mm.c0 (h:Mm w p q g s zs xs):w.cell? ⟨p,0,Z⟩=V (U (V ⟨q,0,Z⟩)):=by rw[h.ptr.cell];rfl
theorem Mm.c1 (h:Mm w p q g s zs xs):w.cell? ⟨p,1,Z⟩=V (R (V ⟨s,0,Z⟩) zs.length zs.length):=by rw[h.ptr.cell];rfl
theorem Mm.at_ (h:Mm w p q g s zs xs){i:Nat}(hi:i<zs.length):w.cell? ⟨s,i,Z⟩=V (I N (sz zs i)):=by rw[h.row.cell,qV zs i hi,zH h.right hi]
theorem yK (h:Mm w p q g s zs xs)(a:Nat)(ha:a<zs.length)(v:Int)(h0:0<=v)(h1:v<4294967296)(hv:v % 4096<sz zs a):
 Calls Tryz.prog 83 #[U (V ⟨p,0,Z⟩),I N a,I O v] w fun e w'=>e=.returned (.tuple #[I N ((pre zs a+(v % 4096).toNat:Nat):Int),.bool T])/\w=w':=by
 have c1:=h.c1
 have c2:=h.at_ ha
 have h8:=h.right.1
 have hT:=oL (yg h.row (k:=a) (by omega)) (sd h.right a) zs.length
 rw[xh (by omega),List.length_take,Nat.min_eq_left (by omega)] at hT
 have hp:=p6 h.right a (by omega)
 obtain⟨pl,hpl,hpl2⟩:∃ pl:Nat,v % 4096=pl/\pl<4096:=⟨(v % 4096).toNat,by omega,by omega⟩
 rw[hpl] at hv ⊢
 have HT:=D hT
 clear hT
 go_enter Tryz.func83,Tryz.ntmps83
 go_wp2_with fail
 refine(nB v h0 h1 w).mono ?_
 rw[hpl]
 rintro e w' ⟨rfl,rfl⟩
 go_wp2_with fail
 refine HT.out.mono ?_
 rintro e w' ⟨rfl,rfl⟩
 go_wp2
 go_ret2
 exact⟨by simp,rfl⟩
theorem tA (h:Mm w p q g s zs xs)(a:Int)(v:Int)(h0:0<=v)(h1:v<4294967296)(hv:a<0\/(zs.length:Int)<=a\/(sz zs a.toNat:Int)<=v % 4096):
 Calls Tryz.prog 83 #[U (V ⟨p,0,Z⟩),I N a,I O v] w fun e w'=>e=.returned (.tuple #[I N 0,.bool S])/\w=w':=by
 have c1:=h.c1
 have h8:=h.right.1
 rcases(show a<0\/(0<=a/\(zs.length:Int)<=a)\/(0<=a/\a<zs.length) by omega) with hb | hb | hb
 ·go_enter Tryz.func83,Tryz.ntmps83
  go_wp2
  go_ret2
  exact⟨rfl,rfl⟩
 ·go_enter Tryz.func83,Tryz.ntmps83
  go_wp2
  go_ret2
  exact⟨rfl,rfl⟩
 obtain⟨n,rfl⟩:=Int.eq_ofNat_of_zero_le hb.1
 have c2:=h.at_ (i:=n) (by omega)
 have hv2:(sz zs n:Int)<=v % 4096:=by
  rw[Int.toNat_natCast] at hv;omega
 obtain⟨pl,hpl,hpl2⟩:∃ pl:Nat,v % 4096=pl/\pl<4096:=⟨(v % 4096).toNat,by omega,by omega⟩
 rw[hpl] at hv2
 have hn:n<zs.length:=by omega
 clear hv
 go_enter Tryz.func83,Tryz.ntmps83
 go_wp2_with fail
 refine(nB v h0 h1 w).mono ?_
 rw[hpl]
 rintro e w' ⟨rfl,rfl⟩
 go_wp2
 go_ret2
 exact⟨rfl,rfl⟩
end
theorem Ay:(Tryz.prog.info? 123).map (fun i=>(i.zero,i.size,i.bytes))=V (V (.agg #[I N 0,I N 0,I N 0,I N 0,I N 0,I N 0,I O 0,I N 0]),8,64):=by kernel_rfl
theorem zg {w:World}{base:Nat}{t:TypeId}{sl:Value}{c:im}(h:w.ownsRow base t 8 sl c.l.length (bE c.l)):Pv w (.agg #[sl,I N c.lo,I N c.un]) c:=by
 obtain⟨a,cap,rfl,h1,h2,_⟩:=bt h
 exact⟨a,cap,rfl,h1,h2,pG h,pC h⟩
theorem nW (w:World)(t:TypeId)(xs ys:Array Value):Below w.heap.size w ((w.alloc (.cells xs t)).alloc (.cells ys t))/\Bk ((w.alloc (.cells xs t)).alloc (.cells ys t)) w.heap.size t xs/\Bk ((w.alloc (.cells xs t)).alloc (.cells ys t)) (w.heap.size+1) t ys:=by
 have h:=Bk.made (w.alloc (.cells xs t)) t ys
 rw[World.size_alloc] at h
 exact⟨((M _ _).alloc (B _) _).alloc (by simp) _,(Bk.made w t xs).alloc _,h⟩
end
section
open Go.Joins Go.ChangeShapes Go.WideShapes Go.ChangeAt Go.RowKit Go.Deep
theorem E6: "*errors.errorString" = "*"++ "errors.errorString":=by decide
theorem zr (u:TypeId)(h:Tryz.prog.typeName? 3 u=V "*errors.errorString"):u=309:=
 typeName_ptr_named (nm:= "errors.errorString") (by rw[<-E6];kernel_rfl) (by kernel_rfl) (by decide) u (by rw[<-E6];exact h)
theorem Ez {W:World}(hL:laidMet Tryz.prog [("math/bits.deBruijn32tab",Rows.laid_math_bits_deBruijn32tab),("math/bits.deBruijn64tab",Rows.laid_math_bits_deBruijn64tab),("internal/strconv.uint64pow10",Rows.laid_internal_strconv_uint64pow10),("unicode/utf8.acceptRanges",Rows.laid_unicode_utf8_acceptRanges),("strconv.ErrRange",Rows.laid_strconv_ErrRange),("strconv.ErrSyntax",Rows.laid_strconv_ErrSyntax),("unicode/utf8.first",Rows.laid_unicode_utf8_first)] W)(hsh:W.ShapedOpen Tryz.prog):Lb W:=by
 have h2:=hL.tail.tail
 have h4:=h2.tail.tail
 have tab:Lib.TabIs Tryz.prog W "internal/strconv.uint64pow10" .u64 Lib.pow10Tab:=
  Lib.tabIs_of_head (g:=5) (by kernel_rfl) (by kernel_rfl) Tryz.underlying313 Tryz.underlying289 (by kernel_rfl) (by kernel_rfl) h2
 obtain⟨a1,_,hv1,_⟩:=laid_sentinel h4 (g:=2) (by kernel_rfl) (by kernel_rfl) Tryz.underlying272 (zr) Tryz.underlying309 Tryz.underlying311 rfl rfl Tryz.underlying9 (by kernel_rfl) (by kernel_rfl)
 obtain⟨a2,_,hv2,_⟩:=laid_sentinel h4.tail (g:=1) (by kernel_rfl) (by kernel_rfl) Tryz.underlying272 (zr) Tryz.underlying309 Tryz.underlying311 rfl rfl Tryz.underlying9 (by kernel_rfl) (by kernel_rfl)
 obtain⟨m,hm⟩:=Tryz.laysM147.s1_3 W hsh
 have c0:W.cell? ⟨0,0,Z⟩=V (.int .i64 m):=hm
 have c1:=tab.cell (g:=5) (by kernel_rfl) 0 (by decide)
 have c2:=World.var?_cell (g:=1) (by kernel_rfl) hv2 0
 have c3:=World.var?_cell (g:=2) (by kernel_rfl) hv1 0
 exact⟨tab,⟨_,_,hv2⟩,⟨_,_,hv1⟩,⟨m,c0⟩,World.block_lt_of_cell? W _ c0,World.block_lt_of_cell? W _ c1,World.block_lt_of_cell? W _ c2,World.block_lt_of_cell? W _ c3⟩
theorem pa {H:Type}{enc:TypeId×Value->H}{a:Assume}{C:Checked}{os:Os}{f:FuncId}{fn:Func}{s:ChangeSpec}{conds:List PathCond}{apart fresh handsOn again:Bool}{X:World->Array Value->Prop}
 (hX:∀ (w w':World) (args:Array Value),w.heap=w'.heap->X w args->X w' args)
 (own:ownKnob C.prog.godebug=Z) (started:os.Started) (noInit:C.prog.inits.idxOf? f=Z) (hfn:C.prog.funcs[f]?=V fn)
 (witness:∃ (w:World) (tape:Tape) (i:Input),w.os=os/\(w.forCall tape i).Shaped C.prog/\i.vars=[]/\Input.okWide C.prog (w.forCall tape i) .any w.heap.size f i/\
  ((s.pre enc C.prog fn conds apart (w.forCall tape i).memory i.args/\X (w.forCall tape i).memory i.args)/\sizedMet enc C.prog fn (OpenSpec.ofChange s) apart (w.forCall tape i).memory i.args)/\a.holds C.prog (lone (Frame.enter C.prog f i.args .normal) [] (w.forCall tape i)))
 (walk:∀ (W:World) (base:Nat) (args:Array Value) (ds gs:List (DataW H)) (before:List MemPlace),
  (∀ (j:Nat) t v,fn.params[j]?=V t->args[j]?=V v->Value.okWide C.prog W .any base t v)->
  DataW.Whole enc C.prog fn.params.toList s.vars apart W args.toList ds gs before->X W args->W.ShapedOpen C.prog->
  Calls C.prog f args W fun e W'=>∃ v,e=.returned v/\s.post enc C.prog fn apart fresh handsOn again W args v W'):
 ReturnsInHanded a C os f .any (fun w args=>(s.pre enc C.prog fn conds apart w args/\X w args)/\sizedMet enc C.prog fn (OpenSpec.ofChange s) apart w args) (s.post enc C.prog fn apart fresh handsOn again):=by
 refine returnsInHanded_of_calls own started noInit witness fun w tape i _ hsh _ hok hpre _=>?_
 obtain⟨_,_,_,fn',hfn',_,_,_,_,hval⟩:=hok
 obtain rfl:fn'=fn:=Option.some.inj (hfn'.symm.trans hfn)
 obtain⟨⟨⟨ds,gs,before,hw,_⟩,hx⟩,_⟩:=hpre
 refine(walk (w.forCall tape i) w.heap.size i.args ds gs before hval (DataW.Whole.of_heap (by rfl) hw) (hX _ _ _ (by rfl) hx) hsh).mono fun e W' ⟨v,he,hp⟩=>?_
 subst he
 exact ChangeSpec.post_blind hp
end
section
open Go.ChangeShapes Go.WideShapes Go.ChangeAt Go.RowKit
theorem ko {P:Program}{w:World}{ops:Array Oper}{rest:List Oper}{o:Oper}{a:Act}{Q:Exit->Act->World->Prop}(hgd:o.guard=Z)(d s:Operand)(dT sT:TypeId)
 (ho:o.op=.call { callee:=.builtin .copy,args:=#[d,s],argTypes:=#[dT,sT] }) (elem:TypeId) (hu:P.underlying dT=V (.slice elem)) (hsz:(P.info? elem).map (·.size)=V 1)
 (dp sp:Option Addr) (dLen dCap sLen sCap:Nat) (hd:a.eval d=R dp dLen dCap) (hs:a.eval s=R sp sLen sCap)
 (g off:Nat) (cur:List Value) (t:TypeId) (hg:Bk w g t cur.toArray) (cs:List Value) (hn:cs.length=Nat.min sLen dLen)
 (hpos:0<cs.length->dp=V ⟨g,off,Z⟩/\∃ ad,sp=V ad/\∀ j v,cs[j]?=V v->w.cell? (ad.add j)=V v)
 (hfit:off+cs.length<=cur.length) (h1:∀ v∈cs,v.oneCell'=T)
 (h:∀ w',Bk w' g t (splice cur off cs).toArray->fD w w' g->wpList P ops Q rest (a.put o.dst (goInt cs.length)) w'):
 wpList P ops Q (o :: rest) a w:=by
 by_cases h0:cs.length=0
 ·obtain rfl:cs=[]:=List.eq_nil_of_length_eq_zero h0
  refine wpList_copy_nothing hgd d s dT sT ho elem hu hsz dp sp dLen dCap sLen sCap hd hs (by simpa using hn.symm) ?_
  exact h w (by unfold Bk at *;simpa [splice] using hg) (cP _ _)
 ·obtain⟨rfl,ad,rfl,hsrc⟩:=hpos (by omega)
  refine wpList_copy_own hgd d s dT sT ho elem hu hsz g off dLen dCap ad sLen sCap hd hs cur.toArray t hg cs hn hsrc (by simpa using hfit) h1 ?_
  exact h _ (show _=_ by simpa [splice] using setRow_heap w g _ _ t _ hg) ⟨rfl,rfl,rfl,by simp[World.setRow],fun k _ hne=>setRow_other w g k _ (fun e=>hne (by rw[e]))⟩
theorem vm (n:Nat):madeCells #[I N 0] n=((List.replicate n (0:Int)).map (Value.int .i64)).toArray:=by
 apply Array.ext
 ·simp[madeCells]
 ·intro i h1 h2;simp[madeCells,Nat.mod_one]
theorem rY {α:Type}(L cs:List α)(h:L.length=cs.length):splice L 0 cs=cs:=by
 unfold splice;rw[Nat.zero_add,<-h,List.drop_length];simp
theorem yB {x:World}{s:Nat}{a:Option Addr}{zs:List Int}(h:dO .i64 x a zs):
 0<(zs.map (Value.int .i64)).length->(V ⟨s,0,Z⟩:Option Addr)=V ⟨s,0,Z⟩/\∃ ad,a=V ad/\∀ j v,(zs.map (Value.int .i64))[j]?=V v->x.cell? (ad.add j)=V v:=by
 intro h0
 refine⟨rfl,?_⟩
 obtain⟨b',off,e,_,hc⟩:=h (by simpa using h0)
 exact⟨_,e,oF hc⟩
def EZ (w:World)(zs xs:List Int)(e:Ending)(w':World):Prop:=
 ∃ p q g s,e=.returned (.tuple #[U (V ⟨p,0,Z⟩),I N 0])/\Mm w' p q g s zs xs/\(w.heap.size<=p/\w.heap.size<=q/\w.heap.size<=g/\w.heap.size<=s)/\w.grownBy w' Z
section
variable {w:World}{a b:Option Addr}{zs ys:List Int}
theorem FF (ha:dO .i64 w a zs)(hb:dO .u32 w b ys)(hz:dU zs)(ht:jn zs=ys.length)(hl:ys.length<=8192)(hy:fC ys)(c1 c2:Nat):
 Calls Tryz.prog 41 #[R a zs.length c1,R b ys.length c2] w (EZ w zs ys):=by
 obtain⟨i0,hi0,hz0,hz1,hz2⟩:=info_parts lZ
 have h8:=hz.1
 have hmk:=fun W:World=>run_make (P:=Tryz.prog) W 25 3 i0 _ Tryz.underlying25 hi0 hz0 .i64 .i64 zs.length zs.length (by omega) (by omega) (by rw[hz2];omega) (by omega)
 rw[hz1] at hmk
 clear hi0 hz0 hz1 hz2
 have hR:=D (CY ha hz c1)
 have hT:=D (oL ha hz c1)
 have hN:=D (FI ys.length hl w)
 rw[ht] at hT
 have HT:=D ht
 clear ht
 go_enter Tryz.func41,Tryz.ntmps41
 go_wp2_with fail
 refine hR.out.mono ?_
 rintro e w' ⟨rfl,rfl⟩
 go_wp2_with fail
 refine hT.out.mono ?_
 rintro e w' ⟨rfl,rfl⟩
 go_wp2_with fail
 refine hN.out.mono ?_
 rintro e w1 ⟨q,g,rfl,hc,hq,hg,hw1⟩
 go_upto_region 7 with fail
 clear hmk hR hT hN
 have hM:Bk ((w1.alloc (G (madeCells #[I N 0] zs.length) 3)).alloc (G #[U (V ⟨q,0,Z⟩),R (V ⟨w1.heap.size,0,Z⟩) zs.length zs.length] 167)) (w1.heap.size+1) 167 #[U (V ⟨q,0,Z⟩),R (V ⟨w1.heap.size,0,Z⟩) zs.length zs.length]:=by
  have:=Bk.made (w1.alloc (G (madeCells #[I N 0] zs.length) 3)) 167 #[U (V ⟨q,0,Z⟩),R (V ⟨w1.heap.size,0,Z⟩) zs.length zs.length]
  rw[World.size_alloc] at this
  exact this
 have hS:Bk ((w1.alloc (G (madeCells #[I N 0] zs.length) 3)).alloc (G #[U (V ⟨q,0,Z⟩),R (V ⟨w1.heap.size,0,Z⟩) zs.length zs.length] 167)) w1.heap.size 3 ((List.replicate zs.length (0:Int)).map (Value.int .i64)).toArray:=by
  have:=(Bk.made w1 3 (madeCells #[I N 0] zs.length)).alloc (G #[U (V ⟨q,0,Z⟩),R (V ⟨w1.heap.size,0,Z⟩) zs.length zs.length] 167)
  rw[vm] at this ⊢
  exact this
 have hC:=(hc.alloc (G (madeCells #[I N 0] zs.length) 3)).alloc (G #[U (V ⟨q,0,Z⟩),R (V ⟨w1.heap.size,0,Z⟩) zs.length zs.length] 167)
 have hG:w.grownBy ((w1.alloc (G (madeCells #[I N 0] zs.length) 3)).alloc (G #[U (V ⟨q,0,Z⟩),R (V ⟨w1.heap.size,0,Z⟩) zs.length zs.length] 167)) Z:=aU (aU hw1 (bi _ _ Z) (.inl rfl)) (bi _ _ Z) (.inl rfl)
 have hs:=hw1.size
 clear hc hw1
 generalize (w1.alloc (G (madeCells #[I N 0] zs.length) 3)).alloc (G #[U (V ⟨q,0,Z⟩),R (V ⟨w1.heap.size,0,Z⟩) zs.length zs.length] 167)=x at *
 obtain⟨p,hp⟩:∃ p,w1.heap.size+1=p:=⟨_,rfl⟩
 have hps:w.heap.size<=p:=by omega
 rw[hp] at hM ⊢
 clear hp
 generalize w1.heap.size=s at *
 have m1:=hM.cell 1
 have m1':x.cell? ⟨p,1,Z⟩=V (R (V ⟨s,0,Z⟩) zs.length zs.length):=m1
 clear m1
 have HS:=D hS
 have HA:=D (ha.grown hG)
 go_wp2_with (refine ko rfl (.tmp 39) (.tmp 40) 25 25 rfl 3 Tryz.underlying25 (by kernel_rfl) (V ⟨s,0,Z⟩) a zs.length zs.length zs.length c1 (by simp[Act.eval]) (by simp[Act.eval]) s 0 ((List.replicate zs.length (0:Int)).map (Value.int .i64)) 3 HS.out (zs.map (Value.int .i64)) (by simp) (yB HA.out) (by simp) (ints_oneCell .i64 zs) ?_;intro x2 hx2 hg2)
 rw[rY _ _ (by simp)] at hx2
 have hg3:w.grownBy x2 Z:=aU hG hg2 (.inr fun y e=>by injection e with e;omega)
 have hI:Mm x2 p q g s zs (mD ys 0):=by
  rw[ze]
  exact⟨hM.grown hg2 (fun e=>by injection e with e;exact hM.aj hS (by decide) e),hC.kept hg2 (fun e=>by injection e with e;exact hC.ptr.aj hS (by decide) e) (fun e=>by injection e with e;exact hC.row.aj hS (by decide) e),hx2,hz,by simp[HT.out]⟩
 clear hM hS hC hG m1' HS HA hg2 hx2
 go_wp2
 go_loopw [44] (fun t wr=>∃ k:Nat,k<=ys.length/\t=I N k/\Mm wr p q g s zs (mD ys k)/\w.grownBy wr Z) (fun t _=>ys.length-(intOf t).toNat)
 case atStart=>exact⟨0,Nat.zero_le _,rfl,hI,hg3⟩
 case round=>
  clear hI hg3
  obtain⟨k,hk,rfl,hI,hgr⟩:=hrel
  have c0:=hI.c0
  by_cases hlt:k<ys.length
  ·obtain⟨b',off,rfl,hcell⟩:=(hb.grown hgr).here hlt
   have hSt:=zw hI.cel k (by rw[jT ys k hk];exact hlt) (aF ys k) (hy.at_ k)
   rw[qN ys k hlt] at hSt
   have HSt:=D hSt
   clear hSt
   go_wp2_with fail
   refine HSt.out.mono ?_
   rintro e w3 ⟨rfl,hc3,ho3⟩
   have hI3:Mm w3 p q g s zs (mD ys (k+1)):=hI.only hc3 ho3 (by rw[jT ys k hk,jT ys (k+1) (by omega)])
   have hg4:w.grownBy w3 Z:=aU hgr ho3 (.inr fun y e=>by injection e with e;omega)
   clear HSt hI hgr hc3 ho3 hcell
   go_wp2
   go_roundw
   case rel=>exact⟨k+1,by omega,by go_num,hI3,hg4⟩
   case measure=>simp[intOf];omega
  ·obtain rfl:k=ys.length:=by omega
   rw[qO] at hI
   go_wp2
   go_ret2
   exact⟨p,q,g,s,rfl,hI,⟨hps,hq,hg,hs⟩,hgr⟩
end
end
