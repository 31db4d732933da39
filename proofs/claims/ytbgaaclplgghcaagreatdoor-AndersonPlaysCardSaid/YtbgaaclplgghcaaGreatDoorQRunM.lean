import Derived.Test.YtbgaaclplgghcaaGreatDoorQInstB
import Derived.Test.YtbgaaclplgghcaaGreatDoorQWdA
import Derived.Test.YtbgaaclplgghcaaGreatDoorQMem
import Derived.Laws.LoneSync
import Derived.Laws.Pointers
import Derived.Laws.BitsAllLaws
import Derived.Deep.RegionHeld3
import Derived.Deep.Cut
import Derived.Deep.QuietTactic
import Derived.BigQuiet
import Derived.ProofKit
import Derived.OpenShut
import Derived.Deep.Fields
import Derived.Lib.SmallJoins
import Derived.Deep.Slices
import Derived.ChangeSame
set_option linter.unusedVariables false
set_option maxHeartbeats 1000000
set_option maxRecDepth 100000
open Go.Value renaming int->Q,slice->F
open Go.IntKind renaming i64->N,u32->Z
open Option renaming none->U,some->K
open Bool renaming false->J,true->G
open Go.Obj renaming cells->E
open Go.Lib renaming hid->D
open Nat renaming le_refl->L
namespace Go.Proofs.YtbgaaclplgghcaaGreatDoor
section
structure ud (X:Type)(n:Nat)(op:X->Nat->X)(done:X->Prop) where
 I:X->Prop
 mu:X->Nat
 en:X->Nat->Prop
 keep:∀ x t,t<n->I x->I (op x t)
 le:∀ x t,I x->t<n->mu (op x t)<=mu x
 lt:∀ x t,I x->t<n->en x t->mu (op x t)<mu x
 stays:∀ x t t',I x->t<n->t'<n->en x t->t'≠t->en (op x t') t\/mu (op x t')<mu x
 some_:∀ x,I x->¬ done x->∃ t,t<n/\en x t
def rq {X:Type}(n:Nat)(op:X->Nat->X)(x:X):X:=(List.range n).foldl op x
def bD {X:Type}(n:Nat)(op:X->Nat->X):Nat->X->X
 | 0,x=>x
 | j+1,x=>bD n op j (rq n op x)
section
variable {X:Type}{n:Nat}{op:X->Nat->X}{done:X->Prop}
theorem pF (P:ud X n op done):∀ (l:List Nat) (x:X),P.I x->(∀ t∈l,t<n)->P.I (l.foldl op x)
 | [],x,h,_=>h
 | t :: l,x,h,hl=>pF P l _ (P.keep x t (hl t (by simp)) h) fun t ht=>hl t (by simp[ht])
theorem wy (P:ud X n op done):∀ (l:List Nat) (x:X),P.I x->(∀ t∈l,t<n)->P.mu (l.foldl op x)<=P.mu x
 | [],x,h,_=>L _
 | t :: l,x,h,hl=>Nat.le_trans (wy P l _ (P.keep x t (hl t (by simp)) h) fun t ht=>hl t (by simp[ht])) (P.le x t h (hl t (by simp)))
theorem ww (P:ud X n op done){t:Nat}(ht:t<n):∀ (l:List Nat) (x:X),P.I x->(∀ t∈l,t<n)->t∈l->P.en x t->P.mu (l.foldl op x)<P.mu x
 | [],x,_,_,hm,_=>by simp at hm
 | y :: l,x,h,hl,hm,he=>by
  have hy:=hl y (by simp)
  have hI:=P.keep x y hy h
  have hle:=wy P l (op x y) hI fun t ht=>hl t (by simp[ht])
  by_cases e:y=t
  ·subst e
   exact Nat.lt_of_le_of_lt hle (P.lt x y h ht he)
  ·rcases P.stays x t y h ht hy he e with h1 | h1
   ·have hm2:t∈l:=by
     rcases List.mem_cons.1 hm with hm | hm
     ·exact absurd hm.symm e
     ·exact hm
    exact Nat.lt_of_lt_of_le (ww P ht l _ hI (fun t ht=>hl t (by simp[ht])) hm2 h1) (P.le x y h hy)
   ·exact Nat.lt_of_le_of_lt hle h1
theorem pE (P:ud X n op done){x:X}(h:P.I x):P.I (rq n op x):=pF P _ x h fun t ht=>List.mem_range.1 ht
theorem it (P:ud X n op done):∀ (j:Nat) (x:X),P.I x->P.I (bD n op j x)
 | 0,x,h=>h
 | j+1,x,h=>it P j _ (pE P h)
theorem xI (P:ud X n op done){x:X}(h:P.I x)(hi:¬ done x):P.mu (rq n op x)<P.mu x:=by
 obtain⟨t,ht,he⟩:=P.some_ x h hi
 exact ww P ht _ x h (fun t ht=>List.mem_range.1 ht) (List.mem_range.2 ht) he
theorem lN (P:ud X n op done):∀ (j:Nat) (x:X),P.I x->P.mu x<j->∃ i,i<=P.mu x/\done (bD n op i x)/\∀ i',i'<i->¬ done (bD n op i' x)
 | 0,x,_,hj=>by omega
 | j+1,x,h,hj=>by
  by_cases hi:done x
  ·exact⟨0,Nat.zero_le _,hi,fun i' h=>by omega⟩
  ·have hlt:=xI P h hi
   obtain⟨i,h1,h2,h3⟩:=lN P j (rq n op x) (pE P h) (by omega)
   refine⟨i+1,by omega,h2,fun i' hi'=>?_⟩
   match i',hi' with
   | 0,_=>exact hi
   | i'+1,hi'=>exact h3 i' (by omega)
end
def aX (k:Lk)(r:Rn)(t:Nat):Rn:=dO k r ⟨if r.act t=2 then 2 else 3,t,J⟩
def kq (n:Nat)(r:Rn):Prop:=∀ t,t<n->r.act t=0
theorem gL {k:Lk}{r:Rn}{t:Nat}(h:r.act t=0):aX k r t=r:=by
 unfold aX dO
 simp only[h]
 split
 ·rfl
 ·simp[h]
abbrev Fin (k:Lk):=ud Rn k.n (aX k) (kq k.n)
structure mt where
 r:Rn
 left:Nat->Nat
 got:Nat
def bm (k:Lk)(x:mt)(t:Nat):mt:=
 if x.r.act t=0/\0<x.left t then { x with r:=dO k x.r ⟨1,t,J⟩,left:=bt x.left t (x.left t-1) }
 else { x with r:=aX k x.r t,got:=x.got+(if x.r.act t=2 then 1 else 0) }
def fc (n:Nat)(x:mt):Prop:=∀ t,t<n->x.r.act t=0/\x.left t=0
def dK (f:Nat->Nat):Nat->Nat
 | 0=>0
 | n+1=>dK f n+f n
theorem ia (f:Nat->Nat)(t v:Nat):∀ n,dK (bt f t v) n+(if t<n then f t else 0)=dK f n+(if t<n then v else 0)
 | 0=>rfl
 | n+1=>by
  have ih:=ia f t v n
  unfold dK
  by_cases e:n=t
  ·subst e
   rw[bg]
   simp at ih ⊢
   omega
  ·rw[aB e]
   by_cases h:t<n
   ·rw[if_pos h,if_pos h] at ih;rw[if_pos (by omega),if_pos (by omega)];omega
   ·rw[if_neg h,if_neg h] at ih;rw[if_neg (by omega),if_neg (by omega)];omega
theorem kY (f:Nat->Nat)(c:Nat):∀ n,(∀ t,t<n->f t<=c)->dK f n<=n*c
 | 0,_=>by simp[dK]
 | n+1,h=>by
  have h1:=kY f c n fun t ht=>h t (by omega)
  have h2:=h n (by omega)
  rw[Nat.add_mul,Nat.one_mul]
  unfold dK;omega
theorem gh {f g:Nat->Nat}:∀ n,(∀ t,t<n->f t=g t)->dK f n=dK g n
 | 0,_=>rfl
 | n+1,h=>by unfold dK;rw[gh n fun t ht=>h t (by omega),h n (by omega)]
def wi {k:Lk}(P:Fin k)(c:Nat)(keep1:∀ r t,t<k.n->P.I r->P.I (dO k r ⟨1,t,J⟩))(call:∀ r t,t<k.n->P.I r->r.act t=0->P.mu (dO k r ⟨1,t,J⟩)<=P.mu r+c)
 (idle:∀ r t,P.I r->t<k.n->P.en r t->r.act t≠0):ud mt k.n (bm k) (fc k.n) where
 I x:=P.I x.r
 mu x:=P.mu x.r+(c+1)*dK x.left k.n
 en x t:=(x.r.act t=0/\0<x.left t)\/P.en x.r t
 keep x t ht h:=by
  unfold bm
  split
  ·exact keep1 _ _ ht h
  ·exact P.keep _ _ ht h
 le x t h ht:=by
  unfold bm
  split
  ·rename_i hc
   have h1:=call x.r t ht h hc.1
   have h2:=ia x.left t (x.left t-1) k.n
   rw[if_pos ht,if_pos ht] at h2
   have h3:dK x.left k.n=dK (bt x.left t (x.left t-1)) k.n+1:=by omega
   simp only
   rw[h3,Nat.mul_add]
   omega
  ·have:=P.le x.r t h ht
   simp only
   omega
 lt x t h ht he:=by
  unfold bm
  split
  ·rename_i hc
   have h1:=call x.r t ht h hc.1
   have h2:=ia x.left t (x.left t-1) k.n
   rw[if_pos ht,if_pos ht] at h2
   have h3:dK x.left k.n=dK (bt x.left t (x.left t-1)) k.n+1:=by omega
   simp only
   rw[h3,Nat.mul_add]
   omega
  ·rename_i hc
   have:=P.lt x.r t h ht (by
    rcases he with he | he
    ·exact absurd he hc
    ·exact he)
   simp only
   omega
 stays x t t' h ht ht' he hne:=by
  unfold bm
  split
  ·rename_i hc
   right
   have h1:=call x.r t' ht' h hc.1
   have h2:=ia x.left t' (x.left t'-1) k.n
   rw[if_pos ht',if_pos ht'] at h2
   have h3:dK x.left k.n=dK (bt x.left t' (x.left t'-1)) k.n+1:=by omega
   simp only
   rw[h3,Nat.mul_add]
   omega
  ·rcases he with he | he
   ·left;left
    refine⟨?_,he.2⟩
    show (aX k x.r t').act t=0
    unfold aX
    rw[iG (by simp only;omega)]
    exact he.1
   ·rcases P.stays x.r t t' h ht ht' he hne with h1 | h1
    ·exact .inl (.inr h1)
    ·right
     simp only
     omega
 some_ x h hd:=by
  by_cases hi:kq k.n x.r
  ·have:∃ t,t<k.n/\0<x.left t:=by
    by_cases hh:∃ t,t<k.n/\0<x.left t
    ·exact hh
    ·exact absurd (fun t ht=>⟨hi t ht,by
      have:¬ 0<x.left t:=fun h0=>hh ⟨t,ht,h0⟩
      omega⟩) hd
   obtain⟨t,ht,h0⟩:=this
   exact⟨t,ht,.inl ⟨hi t ht,h0⟩⟩
  ·obtain⟨t,ht,he⟩:=P.some_ x.r h hi
   exact⟨t,ht,.inr he⟩
structure DZ (k:Lk)(I:Rn->Prop):Prop where
 range:∀ r t,I r->t<k.n->r.act t=0\/r.act t=1\/r.act t=2\/r.act t=3
 call:∀ r t,I r->t<k.n->r.act t=0->(dO k r ⟨1,t,J⟩).act t=1\/(dO k r ⟨1,t,J⟩).act t=2
 a1:∀ r t,I r->t<k.n->r.act t=1->(aX k r t).act t=1\/(aX k r t).act t=2
 a2:∀ r t,I r->t<k.n->r.act t=2->(aX k r t).act t=0\/(aX k r t).act t=3
 a3:∀ r t,I r->t<k.n->r.act t=3->(aX k r t).act t=0\/(aX k r t).act t=3
def eY (x:mt)(t:Nat):Nat:=x.left t+(if x.r.act t=1\/x.r.act t=2 then 1 else 0)
theorem sP {k:Lk}{r:Rn}{t s:Nat}(h:s≠t):(aX k r t).act s=r.act s:=by
 unfold aX
 exact iG (by simp only;omega)
theorem xu {k:Lk}{I:Rn->Prop}(A:DZ k I){x:mt}{t:Nat}(h:I x.r)(ht:t<k.n):(bm k x t).got+dK (eY (bm k x t)) k.n=x.got+dK (eY x) k.n:=by
 have key:∀ y:mt,(∀ s,s≠t->eY y s=eY x s)->dK (eY y) k.n+eY x t=dK (eY x) k.n+eY y t:=fun y hy=>by
  have h1:=ia (eY x) t (eY y t) k.n
  rw[if_pos ht,if_pos ht] at h1
  rw[gh (f:=eY y) (g:=bt (eY x) t (eY y t)) k.n fun s _=>by
   by_cases e:s=t
   ·subst e;rw[bg]
   ·rw[aB e];exact hy s e]
  exact h1
 unfold bm
 split
 ·rename_i hc
  have hk:=key { x with r:=dO k x.r ⟨1,t,J⟩,left:=bt x.left t (x.left t-1) } (fun s hs=>by
   unfold eY
   simp only
   rw[aB hs,iG (by simp only;omega)])
  have e1:eY { x with r:=dO k x.r ⟨1,t,J⟩,left:=bt x.left t (x.left t-1) } t=eY x t:=by
   unfold eY
   simp only
   have:=A.call x.r t h ht hc.1
   rw[bg,if_pos this,if_neg (by omega)]
   omega
  simp only at hk ⊢
  omega
 ·rename_i hc
  have hk:=key { x with r:=aX k x.r t,got:=x.got+(if x.r.act t=2 then 1 else 0) } (fun s hs=>by
   unfold eY
   simp only
   rw[sP hs])
  have e1:eY { x with r:=aX k x.r t,got:=x.got+(if x.r.act t=2 then 1 else 0) } t+(if x.r.act t=2 then 1 else 0)=eY x t:=by
   unfold eY
   simp only
   rcases A.range x.r t h ht with ha | ha | ha | ha
   ·rw[gL ha,ha];simp
   ·have:=A.a1 x.r t h ht ha
    rw[if_pos this,if_pos (show x.r.act t=1\/x.r.act t=2 from .inl ha),if_neg (show ¬ x.r.act t=2 by omega)]
   ·have:=A.a2 x.r t h ht ha
    rw[if_neg (show ¬ ((aX k x.r t).act t=1\/(aX k x.r t).act t=2) by omega),if_pos (show x.r.act t=1\/x.r.act t=2 from .inr ha),if_pos ha]
   ·have:=A.a3 x.r t h ht ha
    rw[if_neg (show ¬ ((aX k x.r t).act t=1\/(aX k x.r t).act t=2) by omega),if_neg (show ¬ (x.r.act t=1\/x.r.act t=2) by omega),if_neg (show ¬ x.r.act t=2 by omega)]
  simp only at hk ⊢
  omega
theorem Ah {k:Lk}{I:Rn->Prop}(A:DZ k I)(keep0:∀ r t,t<k.n->I r->I (aX k r t))(keep1:∀ r t,t<k.n->I r->I (dO k r ⟨1,t,J⟩)){x:mt}(h:I x.r)(j:Nat)(hd:fc k.n (bD k.n (bm k) j x)):
 (bD k.n (bm k) j x).got=x.got+dK (eY x) k.n:=by
 have step:∀ (x:mt) t,t<k.n->I x.r->I (bm k x t).r/\(bm k x t).got+dK (eY (bm k x t)) k.n=x.got+dK (eY x) k.n:=fun x t ht h=>by
  refine⟨?_,xu A h ht⟩
  unfold bm
  split
  ·exact keep1 _ _ ht h
  ·exact keep0 _ _ ht h
 have fold:∀ (l:List Nat) (x:mt),(∀ t∈l,t<k.n)->I x.r->I (l.foldl (bm k) x).r/\(l.foldl (bm k) x).got+dK (eY (l.foldl (bm k) x)) k.n=x.got+dK (eY x) k.n:=by
  intro l
  induction l with
  | nil=>intro x _ h;exact⟨h,rfl⟩
  | cons t l ih=>
   intro x hl h
   obtain⟨h1,h2⟩:=step x t (hl t (by simp)) h
   obtain⟨h3,h4⟩:=ih (bm k x t) (fun t ht=>hl t (by simp[ht])) h1
   exact⟨h3,h4.trans h2⟩
 have turns:∀ (j:Nat) (x:mt),I x.r->(bD k.n (bm k) j x).got+dK (eY (bD k.n (bm k) j x)) k.n=x.got+dK (eY x) k.n:=by
  intro j
  induction j with
  | zero=>intro x _;rfl
  | succ j ih=>
   intro x h
   obtain⟨h1,h2⟩:=fold (List.range k.n) x (fun t ht=>List.mem_range.1 ht) h
   exact(ih _ h1).trans h2
 have:=turns j x h
 have h0:dK (eY (bD k.n (bm k) j x)) k.n=0:=by
  have:dK (eY (bD k.n (bm k) j x)) k.n<=k.n*0:=kY _ 0 _ fun t ht=>by
   obtain⟨d1,d2⟩:=hd t ht
   unfold eY
   rw[d2,d1]
   simp
  omega
 omega
theorem Cn {k:Lk}{P:Fin k}(A:DZ k P.I)(keep1:∀ r t,t<k.n->P.I r->P.I (dO k r ⟨1,t,J⟩)){x:mt}(h:P.I x.r)(j:Nat)(hd:fc k.n (bD k.n (bm k) j x)):
 (bD k.n (bm k) j x).got=x.got+dK (eY x) k.n:=Ah A P.keep keep1 h j hd
section
variable {k:Lk}{r:Rn}{t:Nat}
theorem jn (hb:r.bad=J)(ht:t<k.n)(ha:r.act t=1\/r.act t=3):aX k r t=bA { r with m:=(bE k r.m t J).1 } t (bE k r.m t J).2:=by
 unfold aX dO
 rw[if_neg (show ¬ r.act t=2 by omega)]
 simp only
 rw[if_neg (by rw[hb];simp;omega)]
 simp only[Int.toNat_natCast]
 rw[if_neg (by omega),if_neg (by omega),if_pos ha]
theorem rZ (hb:r.bad=J)(ht:t<k.n)(ha:r.act t=2):aX k r t=bA { m:=(bp k r.m t G).1,act:=bt r.act t 3,l:=r.l++[⟨8,t,0⟩],bad:=r.bad } t (bp k r.m t G).2:=by
 unfold aX dO
 rw[if_pos ha]
 simp only
 rw[if_neg (by rw[hb];simp;omega)]
 simp only[Int.toNat_natCast]
 rw[if_neg (by omega),if_pos trivial,if_pos ha]
 rfl
theorem xj (hb:r.bad=J)(ht:t<k.n)(ha:r.act t=0):dO k r ⟨1,t,J⟩=bA { m:=(bp k r.m t J).1,act:=bt r.act t 1,l:=r.l++[⟨1,t,0⟩],bad:=r.bad } t (bp k r.m t J).2:=by
 unfold dO
 simp only
 rw[if_neg (by rw[hb];simp;omega)]
 simp only[Int.toNat_natCast]
 rw[if_pos trivial,if_pos ha]
 rfl
end
theorem jo {f g:Nat->Nat}{t:Nat}(hl:f t<g t)(hr:∀ t',t'≠t->f t'=g t'):∀ n,t<n->dK f n<dK g n
 | 0,h=>by omega
 | n+1,h=>by
  unfold dK
  by_cases e:n=t
  ·subst e
   have:dK f n=dK g n:=gh n fun s hs=>hr s (by omega)
   omega
  ·have:=jo hl hr n (by omega)
   have:=hr n e
   omega
theorem tj {k:Lk}{r:Rn}{t:Nat}(h:r.act t≠2):dO k r ⟨3,t,J⟩=aX k r t:=by unfold aX;rw[if_neg h]
theorem AD {k:Lk}{r:Rn}{t:Nat}(h:r.act t=2):dO k r ⟨2,t,J⟩=aX k r t:=by unfold aX;rw[if_pos h]
structure BQ (W:Rn->Nat->Nat)(En:Rn->Nat->Prop)(r r':Rn)(t:Nat):Prop where
 less:En r t->W r' t<W r t
 rest:∀ t',t'≠t->W r' t'=W r t'
 none_:¬ En r t->W r' t=W r t/\∀ t',t'≠t->En r t'->En r' t'
 a1:r.act t=1->r'.act t=1\/r'.act t=2
 a2:r.act t=2->r'.act t=0\/r'.act t=3
 a3:r.act t=3->r'.act t=0\/r'.act t=3
structure jI (k:Lk) where
 I:Rn->Prop
 W:Rn->Nat->Nat
 c:Nat
 En:Rn->Nat->Prop
 few:∀ r t,W r t<=c
 zero:∀ r t,r.act t=0->W r t=0
 range:∀ r t,I r->t<k.n->r.act t=0\/r.act t=1\/r.act t=2\/r.act t=3
 keep:∀ r o,I r->I (dO k r o)
 turned:∀ r t,I r->t<k.n->BQ W En r (aX k r t) t
 called:∀ r t,I r->t<k.n->r.act t=0->((dO k r ⟨1,t,J⟩).act t=1\/(dO k r ⟨1,t,J⟩).act t=2)/\∀ t',t'≠t->W (dO k r ⟨1,t,J⟩) t'=W r t'
 idle:∀ r t,I r->t<k.n->En r t->r.act t≠0
 some_:∀ r,I r->¬ kq k.n r->∃ t,t<k.n/\En r t
def jI.fin {k:Lk}(S:jI k):Fin k where
 I:=S.I
 mu r:=dK (S.W r) k.n
 en:=S.En
 keep r t _ h:=S.keep r _ h
 le r t h ht:=by
  have T:=S.turned r t h ht
  by_cases he:S.En r t
  ·exact Nat.le_of_lt (jo (T.less he) T.rest k.n ht)
  ·refine Nat.le_of_eq (gh k.n fun s _=>?_)
   by_cases e:s=t
   ·subst e;exact(T.none_ he).1
   ·exact T.rest s e
 lt r t h ht he:=by
  have T:=S.turned r t h ht
  exact jo (T.less he) T.rest k.n ht
 stays r t t' h ht ht' he hne:=by
  have T:=S.turned r t' h ht'
  by_cases he':S.En r t'
  ·exact .inr (jo (T.less he') T.rest k.n ht')
  ·exact .inl ((T.none_ he').2 t (fun e=>hne e.symm) he)
 some_:=S.some_
section
variable {k:Lk}(S:jI k)
theorem sd:DZ k S.fin.I where
 range r t h ht:=S.range r t h ht
 call r t h ht ha:=(S.called r t h ht ha).1
 a1 r t h ht ha:=(S.turned r t h ht).a1 ha
 a2 r t h ht ha:=(S.turned r t h ht).a2 ha
 a3 r t h ht ha:=(S.turned r t h ht).a3 ha
theorem mj (r:Rn)(t:Nat)(ht:t<k.n)(h:S.I r)(ha:r.act t=0):S.fin.mu (dO k r ⟨1,t,J⟩)<=S.fin.mu r+S.c:=by
 show dK (S.W (dO k r ⟨1,t,J⟩)) k.n<=dK (S.W r) k.n+S.c
 have h1:=ia (S.W r) t (S.W (dO k r ⟨1,t,J⟩) t) k.n
 rw[if_pos ht,if_pos ht] at h1
 rw[gh (f:=S.W (dO k r ⟨1,t,J⟩)) (g:=bt (S.W r) t (S.W (dO k r ⟨1,t,J⟩) t)) k.n fun s _=>by
  by_cases e:s=t
  ·subst e;rw[bg]
  ·rw[aB e];exact(S.called r t h ht ha).2 s e]
 have h2:=S.few (dO k r ⟨1,t,J⟩) t
 omega
theorem oW (r:Rn)(h:S.I r)(hr:∀ t,r.act t=0)(calls:Nat):
 ∃ i,i<=(S.c+1)*(k.n*calls)/\fc k.n (bD k.n (bm k) i ⟨r,fun _=>calls,0⟩)/\(∀ i',i'<i->¬ fc k.n (bD k.n (bm k) i' ⟨r,fun _=>calls,0⟩))/\
  (bD k.n (bm k) i ⟨r,fun _=>calls,0⟩).got=k.n*calls/\S.I (bD k.n (bm k) i ⟨r,fun _=>calls,0⟩).r:=by
 have keep1:∀ r t,t<k.n->S.fin.I r->S.fin.I (dO k r ⟨1,t,J⟩):=fun r t _ h=>S.keep r _ h
 let P:=wi S.fin S.c keep1 (fun r t ht h ha=>mj S r t ht h ha) (fun r t h ht he=>S.idle r t h ht he)
 have hI:P.I ⟨r,fun _=>calls,0⟩:=h
 have hmu:P.mu ⟨r,fun _=>calls,0⟩<=(S.c+1)*(k.n*calls):=by
  show dK (S.W r) k.n+(S.c+1)*dK (fun _=>calls) k.n<=_
  have e0:dK (S.W r) k.n<=k.n*0:=kY _ 0 _ fun t _=>by rw[S.zero r t (hr t)];omega
  have e1:=Nat.mul_le_mul_left (S.c+1) (kY (fun _=>calls) calls k.n (fun _ _=>L _))
  omega
 obtain⟨i,i1,i2,i3⟩:=lN P ((S.c+1)*(k.n*calls)+1) _ hI (by omega)
 refine⟨i,by omega,i2,i3,?_,it P i _ hI⟩
 have h4:=Cn (P:=S.fin) (sd S) keep1 (x:=⟨r,fun _=>calls,0⟩) h i i2
 have h5:dK (eY ⟨r,fun _=>calls,0⟩) k.n=k.n*calls:=by
  have:∀ m,dK (eY ⟨r,fun _=>calls,0⟩) m=m*calls:=by
   intro m
   induction m with
   | zero=>simp[dK]
   | succ m ih=>
    unfold dK
    rw[ih,Nat.add_mul,Nat.one_mul]
    unfold eY
    simp only
    rw[hr m]
    rfl
  exact this k.n
 exact h4.trans (by rw[h5];exact Nat.zero_add _)
theorem sc (r:Rn)(h:S.I r):∃ i,i<=k.n*S.c/\kq k.n (bD k.n (aX k) i r)/\(∀ i',i'<i->¬ kq k.n (bD k.n (aX k) i' r))/\S.I (bD k.n (aX k) i r):=by
 have hmu:S.fin.mu r<=k.n*S.c:=kY _ _ _ fun t _=>S.few r t
 obtain⟨i,i1,i2,i3⟩:=lN S.fin (k.n*S.c+1) r h (by omega)
 exact⟨i,by omega,i2,i3,it S.fin i r h⟩
end
def rJ (r:Rn)(t:Nat):Prop:=r.act t≠0/\(aD r.l t=2->(ax r.l).q.head?=K (t:Int)/\(ax r.l).ow=-1)
def FB (n:Nat)(r:Rn):Prop:=∀ t:Nat,t<n->r.act t=0->aD r.l t≠2/\cO (aD r.l t)=J
section
variable {n:Nat}{r:Rn}
theorem yp (h:dt n r.l)(ho:FB n r)(hi:¬ kq n r):∃ t,t<n/\rJ r t:=by
 obtain⟨m1,m2,m3⟩:=me _ h
 have:∃ t,t<n/\r.act t≠0:=by
  by_cases hh:∃ t,t<n/\r.act t≠0
  ·exact hh
  ·exfalso
   refine hi fun t ht=>?_
   by_cases h0:r.act t=0
   ·exact h0
   ·exact absurd ⟨t,ht,h0⟩ hh
 obtain⟨t,ht,h0⟩:=this
 by_cases h2:aD r.l t=2
 ·cases hq:(ax r.l).q with
  | nil=>
   have:=(m1 t).2 h2
   rw[hq] at this;simp at this
  | cons x rest=>
   have hx:=m3 x (by rw[hq];simp)
   have ex:((x.toNat:Nat):Int)=x:=by omega
   by_cases hw:(ax r.l).ow=-1
   ·refine⟨x.toNat,by omega,fun e=>?_,fun _=>⟨by rw[hq];simp;omega,hw⟩⟩
    have:=(ho x.toNat (by omega) e).1
    rw[ex] at this
    exact this ((m1 x).1 (by rw[hq];simp))
   ·obtain⟨o1,o2,o3,_⟩:=ef _ h
    have hk:=(o1 (ax r.l).ow).2 ⟨rfl,by omega⟩
    have hlt:=(iX _ h _ (fun e=>by rw[e] at hk;simp[cO] at hk)).2
    have eo:(((ax r.l).ow.toNat:Nat):Int)=(ax r.l).ow:=by omega
    refine⟨(ax r.l).ow.toNat,by omega,fun e=>?_,fun e=>?_⟩
    ·have:=(ho _ (by omega) e).2
     rw[eo,hk] at this;cases this
    ·rw[eo] at e
     rw[e] at hk
     simp[cO] at hk
 ·exact⟨t,ht,h0,fun e=>absurd e h2⟩
end
def kz (n:Nat)(r:Rn)(t:Nat):Prop:=∀ t',t'<n->t'≠t->r.act t'=0
theorem oX {n:Nat}{r:Rn}{t:Nat}(h:dt n r.l)(ho:FB n r)(hi:kz n r t)(ha:r.act t≠0):rJ r t:=by
 refine⟨ha,fun hl=>?_⟩
 obtain⟨m1,m2,m3⟩:=me _ h
 obtain⟨o1,o2,o3,_⟩:=ef _ h
 have hall:∀ x∈(ax r.l).q,x=(t:Int):=fun x hx=>by
  have hb:=m3 x hx
  have ex:((x.toNat:Nat):Int)=x:=by omega
  by_cases e:x.toNat=t
  ·omega
  ·have:=(ho x.toNat (by omega) (hi x.toNat (by omega) e)).1
   rw[ex] at this
   exact absurd ((m1 x).1 hx) this
 constructor
 ·cases hq:(ax r.l).q with
  | nil=>
   have:=(m1 t).2 hl
   rw[hq] at this;simp at this
  | cons x rest=>rw[hall x (by rw[hq];simp)];rfl
 ·by_cases hh:(ax r.l).ow=-1
  ·exact hh
  ·exfalso
   have hk:=(o1 (ax r.l).ow).2 ⟨rfl,by omega⟩
   have hlt:=(iX _ h _ (fun e=>by rw[e] at hk;simp[cO] at hk)).2
   have eo:(((ax r.l).ow.toNat:Nat):Int)=(ax r.l).ow:=by omega
   by_cases e:(ax r.l).ow.toNat=t
   ·rw[show (ax r.l).ow=(t:Int) by omega,hl] at hk
    simp[cO] at hk
   ·have:=(ho _ (by omega) (hi _ (by omega) e)).2
    rw[eo,hk] at this;cases this
def bq (k:Lk)(t:Nat):Nat->Rn->Rn
 | 0,r=>r
 | j+1,r=>bq k t j (dO k r ⟨3,t,J⟩)
section
variable {k:Lk}(S:jI k)
theorem jl {n:Nat}{r:Rn}{t:Nat}{kd:Int}(h:kz n r t):kz n (dO k r ⟨kd,t,J⟩) t:=fun t' ht' hne=>by
 rw[iG (by simp only;omega)]
 exact h t' ht' hne
theorem pK {r:Rn}{t:Nat}(h:r.act t=0\/r.act t=2):dO k r ⟨3,t,J⟩=r:=by
 unfold dO
 simp only
 split
 ·rfl
 ·simp only[Int.toNat_natCast]
  rw[if_neg (by omega),if_neg (by omega),if_neg (by omega)]
theorem my (V:Rn->Nat->Nat)(c b:Nat)(h0:∀ r t,S.I r->t<k.n->kz k.n r t->V r t<=c)(h1:∀ r t,S.I r->t<k.n->r.act t=1->b<V r t)(h2:∀ r t,S.I r->t<k.n->r.act t=2->V r t<=b)(h3:∀ r t,S.I r->t<k.n->r.act t=3->0<V r t)
 (hless:∀ r t,S.I r->t<k.n->kz k.n r t->r.act t≠0->V (aX k r t) t<V r t) (r:Rn) (h:S.I r) (t:Nat) (ht:t<k.n) (hi:kq k.n r):
 let r1:=bq k t (c-b) (dO k r ⟨1,t,J⟩)
 let r2:=bq k t (b-1) (dO k r1 ⟨2,t,J⟩)
 r1.act t=2/\r2.act t=0/\S.I r2:=by
 have lock:∀ (j:Nat) (r:Rn),S.I r->kz k.n r t->((r.act t=1/\V r t<=b+j)\/r.act t=2)->(bq k t j r).act t=2/\S.I (bq k t j r)/\kz k.n (bq k t j r) t:=by
  intro j
  induction j with
  | zero=>
   intro r h ha hc
   rcases hc with hc | hc
   ·have:=h1 r t h ht hc.1
    omega
   ·exact⟨hc,h,ha⟩
  | succ j ih=>
   intro r h ha hc
   refine ih _ (S.keep r _ h) (jl ha) ?_
   rcases hc with hc | hc
   ·have T:=S.turned r t h ht
    rw[tj (by omega)]
    have:=hless r t h ht ha (by omega)
    rcases T.a1 hc.1 with e | e
    ·exact .inl ⟨e,by omega⟩
    ·exact .inr e
   ·rw[pK (.inr hc)]
    exact .inr hc
 have unlock:∀ (j:Nat) (r:Rn),S.I r->kz k.n r t->((r.act t=3/\V r t<=j)\/r.act t=0)->(bq k t j r).act t=0/\S.I (bq k t j r):=by
  intro j
  induction j with
  | zero=>
   intro r h ha hc
   rcases hc with hc | hc
   ·have:=h3 r t h ht hc.1
    omega
   ·exact⟨hc,h⟩
  | succ j ih=>
   intro r h ha hc
   refine ih _ (S.keep r _ h) (jl ha) ?_
   rcases hc with hc | hc
   ·have T:=S.turned r t h ht
    rw[tj (by omega)]
    have:=hless r t h ht ha (by omega)
    rcases T.a3 hc.1 with e | e
    ·exact .inr e
    ·exact .inl ⟨e,by omega⟩
   ·rw[pK (.inl hc)]
    exact .inr hc
 intro r1 r2
 have hal:kz k.n r t:=fun t' ht' _=>hi t' ht'
 have hcall:=(S.called r t h ht (hi t ht)).1
 have hI1:=S.keep r ⟨1,t,J⟩ h
 have hc1:((dO k r ⟨1,t,J⟩).act t=1/\V (dO k r ⟨1,t,J⟩) t<=b+(c-b))\/(dO k r ⟨1,t,J⟩).act t=2:=by
  rcases hcall with e | e
  ·left
   have:=h0 (dO k r ⟨1,t,J⟩) t hI1 ht (jl hal)
   exact⟨e,by omega⟩
  ·exact .inr e
 obtain⟨g1,g2,g3⟩:=lock (c-b) _ hI1 (jl hal) hc1
 have T:=S.turned r1 t g2 ht
 have hl:=hless r1 t g2 ht g3 (by show r1.act t≠0;rw[show r1.act t=2 from g1];decide)
 have hb:=h2 r1 t g2 ht g1
 have e5:dO k r1 ⟨2,t,J⟩=aX k r1 t:=AD g1
 obtain⟨u1,u2⟩:=unlock (b-1) (dO k r1 ⟨2,t,J⟩) (S.keep _ _ g2) (jl g3) (by
  rw[e5]
  rcases T.a2 g1 with e | e
  ·exact .inr e
  ·exact .inl ⟨e,by omega⟩)
 exact⟨g1,u1,u2⟩
theorem qA (b:Nat)(h1:∀ r t,S.I r->t<k.n->r.act t=1->b<S.W r t)(h2:∀ r t,S.I r->t<k.n->r.act t=2->S.W r t<=b)(h3:∀ r t,S.I r->t<k.n->r.act t=3->0<S.W r t)
 (en:∀ r t,S.I r->t<k.n->kz k.n r t->r.act t≠0->S.En r t) (r:Rn) (h:S.I r) (t:Nat) (ht:t<k.n) (hi:kq k.n r):
 let r1:=bq k t (S.c-b) (dO k r ⟨1,t,J⟩)
 let r2:=bq k t (b-1) (dO k r1 ⟨2,t,J⟩)
 r1.act t=2/\r2.act t=0/\S.I r2:=
 my S S.W S.c b (fun r t _ _ _=>S.few r t) h1 h2 h3 (fun r t h ht hal ha=>(S.turned r t h ht).less (en r t h ht hal ha)) r h t ht hi
end
theorem oV {k:Lk}{x:mt}(h:fc k.n x):rq k.n (bm k) x=x:=by
 unfold rq
 have one:∀ t,t<k.n->bm k x t=x:=fun t ht=>by
  obtain⟨h1,h2⟩:=h t ht
  unfold bm
  rw[if_neg (by rw[h2];simp),gL h1,if_neg (by omega)]
  rfl
 have:∀ l:List Nat,(∀ t∈l,t<k.n)->l.foldl (bm k) x=x:=by
  intro l
  induction l with
  | nil=>intro _;rfl
  | cons t l ih=>
   intro hl
   rw[List.foldl_cons,one t (hl t (by simp))]
   exact ih fun t ht=>hl t (by simp[ht])
 exact this _ fun t ht=>List.mem_range.1 ht
theorem qy (c n calls:Nat)(hc:c<=99):(c+1)*(n*calls)<=100*(n+1)*(calls+1):=by
 have h1:n*calls<=(n+1)*(calls+1):=Nat.mul_le_mul (by omega) (by omega)
 have h2:(c+1)*(n*calls)<=100*((n+1)*(calls+1)):=Nat.mul_le_mul (by omega) h1
 rw[Nat.mul_assoc]
 exact h2
def DW (c:Nat)(ms:List Int):Prop:=(∀ x∈ms,0<=x/\x<5)/\ms.length<=c
theorem kQ (c:Nat):DW c []:=⟨by simp,by simp⟩
theorem qU {self:Int}{l:List aP}(hl:∀ i∈l,FI i):∀ (n:Nat) (xs:List Int) (pc:Int) (ms:List Int),(∀ x∈ms,0<=x/\x<5)->(∀ x∈(iS self l n xs pc ms).ms,0<=x/\x<5)/\(iS self l n xs pc ms).ms.length<=ms.length+n
 | n,xs,pc,ms,h=>by
  by_cases h9:pc<0\/l.length<=pc
  ·rw[ot h9];exact⟨h,by simp⟩
  ·obtain⟨k,rfl⟩:∃ k:Nat,pc=k:=⟨pc.toNat,by omega⟩
   have hk:=List.getElem?_eq_getElem (l:=l) (i:=k) (by omega)
   have hi:=hl _ (List.getElem_mem (l:=l) (n:=k) (by omega))
   generalize l[k]=i at hk hi
   by_cases hm:fq i.op=G
   ·rw[ou hk hm];exact⟨h,by simp⟩
   ·have hm':fq i.op=J:=by simpa using hm
    match n with
    | 0=>rw[lJ hk hm'];exact⟨h,by simp⟩
    | n+1=>
     by_cases h13:i.op=13
     ·rw[lL hk h13];exact⟨h,by simp⟩
     ·rw[lK hk hm' h13]
      by_cases h12:i.op=12
      ·rw[if_pos h12]
       have h2:=qU (self:=self) hl n (pg xs i self) (uc xs k i) (ms++[i.k]) (fun x hx=>by
        rcases List.mem_append.1 hx with hx | hx
        ·exact h x hx
        ·simp at hx;subst hx
         exact⟨hi.k.1,by have:=hi.mark (.inl h12);omega⟩)
       exact⟨h2.1,by have:=h2.2;simp only[List.length_append,List.length_cons,List.length_nil] at this;omega⟩
      ·rw[if_neg h12]
       have h2:=qU (self:=self) hl n (pg xs i self) (uc xs k i) ms h
       exact⟨h2.1,by have:=h2.2;omega⟩
section
variable {k:Lk}{m:Mc}{t:Nat}
theorem mX (h:gG k)(c:zR)(o:Ot):DW 256 (iR k m t c o).2.ms:=by
 have h2:=qU (self:=(t:Int)) h.ok 256 c.xs c.pc [] (by simp)
 exact⟨h2.1,by have:=h2.2;simpa [iR] using this⟩
theorem kU (h:gG k)(u:Bool):DW 256 (bp k m t u).2.ms:=mX h _ _
theorem qT (h:gG k)(late:Bool):DW 256 (bE k m t late).2.ms:=by
 unfold bE
 simp only
 split
 ·exact kQ _
 ·split
  ·exact mX h _ _
  ·split
   ·split
    ·exact kQ _
    ·exact mX h _ _
   ·split
    ·exact kQ _
    ·unfold rS
     simp only
     repeat' split
     all_goals first | exact mX h _ _ | exact kQ _
end
theorem oI (r:Rn)(t:Nat)(o:Ot):(bA r t o).l.length<=r.l.length+o.ms.length+1:=by
 unfold bA eZ enter
 simp only
 repeat' split
 all_goals (simp only[List.length_append,List.length_map,List.length_cons,List.length_nil];omega)
theorem kf {k:Lk}(h:gG k)(r:Rn)(o:kp):(dO k r o).l.length<=r.l.length+258:=by
 unfold dO
 split
 ·omega
 ·simp only
  split
  ·split
   ·have h1:=oI { (enter { r with act:=bt r.act o.t.toNat 1 } 1 o.t.toNat) with m:=(bp k r.m o.t.toNat J).1 } o.t.toNat (bp k r.m o.t.toNat J).2
    have h2:=(kU h (m:=r.m) (t:=o.t.toNat) J).2
    simp only[enter,List.length_append,List.length_cons,List.length_nil] at h1 ⊢
    omega
   ·omega
  ·split
   ·split
    ·have h1:=oI { (enter { r with act:=bt r.act o.t.toNat 3 } 8 o.t.toNat) with m:=(bp k r.m o.t.toNat G).1 } o.t.toNat (bp k r.m o.t.toNat G).2
     have h2:=(kU h (m:=r.m) (t:=o.t.toNat) G).2
     simp only[enter,List.length_append,List.length_cons,List.length_nil] at h1 ⊢
     omega
    ·omega
   ·split
    ·have h1:=oI { r with m:=(bE k r.m o.t.toNat o.late).1 } o.t.toNat (bE k r.m o.t.toNat o.late).2
     have h2:=(qT h (m:=r.m) (t:=o.t.toNat) o.late).2
     simp only at h1 ⊢
     omega
    ·omega
theorem oq {k:Lk}(h:gG k):∀ (l:List kp) (r:Rn),(fp k r l).l.length<=r.l.length+258*l.length
 | [],r=>by simp[fp]
 | o :: l,r=>by
  have h1:=oq h l (dO k r o)
  have h2:=kf h r o
  unfold fp at *
  simp only[List.foldl_cons,List.length_cons]
  omega
end
section
open Go.ChangeShapes Go.WideShapes Go.ChangeAt Go.RowKit
def GP (w:World)(a:Option Addr)(l:List aP):Prop:=
 0<l.length->∃ b off,a=K ⟨b,off,U⟩/\b<w.heap.size/\∀ k i,l[k]?=K i->∀ j,j<8->w.cell? ⟨b,off+k*8+j,U⟩=(jN i)[j]?
def Pv (w:World)(v:Value)(c:gu):Prop:=∃ a cap,v=.agg #[F a c.l.length cap,Q N c.lo,Q N c.un]/\c.l.length<=cap/\cap<=maxLen/\(a=U->cap=0)/\GP w a c.l
section
variable {w w':World}{a:Option Addr}{l:List aP}{v:Value}{c:gu}
theorem GP.below (h:GP w a l)(hb:Below w.heap.size w w'):GP w' a l:=by
 intro h0
 obtain⟨b,off,e,hlt,hc⟩:=h h0
 exact⟨b,off,e,Nat.lt_of_lt_of_le hlt hb.size,fun k i hk j hj=>(hb.cell (p:=⟨b,off+k*8+j,U⟩) hlt).trans (hc k i hk j hj)⟩
theorem Pv.below (h:Pv w v c)(hb:Below w.heap.size w w'):Pv w' v c:=by
 obtain⟨a,cap,e,h1,h2,h4,h3⟩:=h
 exact⟨a,cap,e,h1,h2,h4,h3.below hb⟩
theorem wk {t:TypeId}{base cap:Nat}(h:w.ownsRow base t 8 (F a l.length cap) l.length (bu l)):GP w a l:=by
 intro h0
 obtain⟨a2,cap2,e,_,_,hg⟩:=aT h
 simp only[Value.slice.injEq] at e
 obtain⟨rfl,-,rfl⟩:=e
 obtain⟨g,rfl,_,_,hlt,_,hc⟩:=hg h0
 refine⟨g,0,rfl,hlt,fun k i hk j hj=>?_⟩
 have hkl:=(List.getElem?_eq_some_iff.1 hk).1
 rw[Nat.zero_add,hc _ (by omega),sW hk hj]
theorem wC {t:TypeId}{base n cap size:Nat}{xs:List Value}(h:w.ownsRow base t size (F a n cap) n xs)(e:a=U):cap=0:=by
 subst e
 rcases h.2 with ⟨h,_⟩ | ⟨g,c,cur,h,_⟩
 ·injection h
 ·injection h with h;cases h
theorem Pg.pv {base:Nat}(h:Pg w base v c):Pv w v c:=by
 obtain⟨sl,rfl,ho⟩:=h
 obtain⟨a,cap,rfl,h1,h2,_⟩:=aT ho
 exact⟨a,cap,rfl,h1,h2,wC ho,wk ho⟩
theorem GP.at_ (h:GP w a l){k:Nat}{i:aP}(hk:l[k]?=K i):∃ b off,a=K ⟨b,off,U⟩/\b<w.heap.size/\w.cell? ⟨b,off+k*8,U⟩=K (Q N i.op)/\w.cell? ⟨b,off+k*8+1,U⟩=K (Q N i.d)/\w.cell? ⟨b,off+k*8+2,U⟩=K (Q N i.s)/\w.cell? ⟨b,off+k*8+3,U⟩=K (Q N i.t)/\
 w.cell? ⟨b,off+k*8+4,U⟩=K (Q N i.u)/\w.cell? ⟨b,off+k*8+5,U⟩=K (Q N i.a)/\w.cell? ⟨b,off+k*8+6,U⟩=K (Q Z i.k)/\w.cell? ⟨b,off+k*8+7,U⟩=K (Q N i.pl):=by
 have hkl:=(List.getElem?_eq_some_iff.1 hk).1
 obtain⟨b,off,e,hlt,hc⟩:=h (by omega)
 exact⟨b,off,e,hlt,hc k i hk 0 (by omega),hc k i hk 1 (by omega),hc k i hk 2 (by omega),hc k i hk 3 (by omega),hc k i hk 4 (by omega),hc k i hk 5 (by omega),hc k i hk 6 (by omega),hc k i hk 7 (by omega)⟩
end
def gA:List aP->List aP->Bool
 | [],[]=>G
 | i :: l,j :: m=>dd i j && gA l m
 | _,_=>J
theorem lH:∀ l m:List aP,gA l m=G↔l=m
 | [],[]=>by simp[gA]
 | [],_ :: _=>by simp[gA]
 | _ :: _,[]=>by simp[gA]
 | i :: l,j :: m=>by simp[gA,Dw,lH l m]
theorem xB {l m:List aP}(h:l.length≠m.length):gA l m=J:=by
 rw[Bool.eq_false_iff]
 intro e
 exact h (by rw[(lH l m).1 e])
def jP (c d:gu):Bool:=decide (c.lo=d.lo) && (decide (c.un=d.un) && gA c.l d.l)
theorem xA (c d:gu):jP c d=G↔c=d:=by
 obtain⟨l,lo,un⟩:=c
 obtain⟨m,lo2,un2⟩:=d
 simp[jP,lH]
 constructor
 ·rintro⟨h1,h2,h3⟩;exact⟨h3,h1,h2⟩
 ·rintro⟨h1,h2,h3⟩;exact⟨h2,h3,h1⟩
theorem uv (l m:List aP)(k:Nat)(hk:k<l.length)(hm:k<m.length):gA (l.drop k) (m.drop k)=(dd l[k] m[k] && gA (l.drop (k+1)) (m.drop (k+1))):=by
 rw[List.drop_eq_getElem_cons hk,List.drop_eq_getElem_cons hm,gA]
theorem dT.here {k:IntKind}{w:World}{a:Option Addr}{xs:List Int}(h:dT k w a xs){i:Nat}(hi:i<xs.length):∃ b off,a=K ⟨b,off,U⟩/\w.cell? ⟨b,off+i,U⟩=K (.int k (aG xs i)):=by
 obtain⟨b,off,e,_,hc⟩:=h (by omega)
 exact⟨b,off,e,hc i hi⟩
theorem dT.grown {k:IntKind}{w w':World}{a:Option Addr}{xs:List Int}(h:dT k w a xs)(hb:w.grownBy w' U):dT k w' a xs:=by
 intro h0
 obtain⟨b,off,e,hlt,hc⟩:=h h0
 exact⟨b,off,e,Nat.lt_of_lt_of_le hlt hb.size,fun i hi=>((aQ hb).cell (p:=⟨b,off+i,U⟩) hlt).trans (hc i hi)⟩
end
section
def G2 (m:Int):List aP:=[⟨20,1,0,0,0,0,1,0⟩,⟨12,0,0,0,0,0,1,0⟩,⟨4,2,1,0,0,0,m-1,0⟩,⟨1,3,0,0,0,0,1,0⟩,⟨21,4,2,3,0,1,0,-1⟩,⟨12,0,0,0,0,0,2,0⟩,⟨17,0,2,0,0,1,0,0⟩,⟨13,0,0,0,0,0,1,0⟩,⟨3,2,1,0,0,0,1,0⟩,⟨4,2,2,0,0,0,m-1,0⟩,⟨1,3,0,0,0,0,1,0⟩,⟨17,0,2,3,0,1,0,0⟩,⟨12,0,0,0,0,0,4,0⟩,⟨13,0,0,0,0,0,2,0⟩]
def gS (n m:Nat):Lk:=⟨G2 m,0,8,[1,m],0,n⟩
def ac (a b c d pc:Int):zR:=⟨[0,a,b,c,d,0,0,0],pc⟩
def bC (m:Nat):Prop:=m=1\/m=2\/m=4\/m=8\/m=16\/m=32\/m=64
theorem eP {m:Nat}(h:bC m):1<=m/\m<=64:=by unfold bC at h;omega
theorem vK {m:Nat}(h:bC m)(x:Int):tw x % m=x % m:=by
 unfold tw
 rcases h with h | h | h | h | h | h | h <;> subst h <;> omega
theorem CZ {m:Nat}(h:bC m){x d:Int}(h0:0<=d)(h1:d<m)(e:x % m=(x+d) % m):d=0:=by
 rcases h with h | h | h | h | h | h | h <;> subst h <;> omega
theorem qh {m:Nat}(h:bC m){x:Int}(h0:0<=x):kj x ((m:Int)-1)=x % m:=by
 have key:∀ e:Nat,m=2 ^ e->kj x ((m:Int)-1)=x % m:=fun e he=>by
  unfold kj
  have e1:((m:Int)-1).toNat=2 ^ e-1:=by rw[he];omega
  rw[e1,Nat.and_two_pow_sub_one_eq_mod,<-he,Int.natCast_emod,Int.toNat_of_nonneg h0]
 rcases h with h | h | h | h | h | h | h
 ·exact key 0 h
 ·exact key 1 h
 ·exact key 2 h
 ·exact key 3 h
 ·exact key 4 h
 ·exact key 5 h
 ·exact key 6 h
theorem G5 (x:Int):0<=tw x/\tw x<4294967296:=by unfold tw;omega
theorem BK {m:Nat}(h:bC m)(x:Int):kj (tw x) ((m:Int)-1)=x % m:=by rw[qh h (G5 x).1,vK h]
def zS (m p:Nat)(b:Bool):List Int:=(List.range m).map fun i=>if b=G/\i=p then 1 else 0
theorem Cp (m p:Nat)(b:Bool):(zS m p b).length=m:=by simp[zS]
theorem EC {m p i:Nat}{b:Bool}(x:Int)(hi:i<m):aG (x :: zS m p b) (1+i)=if b=G/\i=p then 1 else 0:=by
 unfold aG zS
 rw[Nat.add_comm 1 i]
 simp[hi]
theorem xz {m p:Nat}(x:Int):(x :: zS m p G).set (1+p) 0=x :: zS m p J:=by
 rw[Nat.add_comm 1 p,List.set_cons_succ]
 congr 1
 apply List.ext_getElem?
 intro i
 unfold zS
 rw[List.getElem?_set]
 simp only[List.getElem?_map,List.length_map,List.length_range]
 by_cases e:p=i
 ·subst e
  by_cases h:p<m <;> simp[h]
 ·by_cases h:i<m <;> simp[e,h]
  omega
theorem wm {m p q:Nat}(x:Int)(hq:q<m):(x :: zS m p J).set (1+q) 1=x :: zS m q G:=by
 rw[Nat.add_comm 1 q,List.set_cons_succ]
 congr 1
 apply List.ext_getElem?
 intro i
 unfold zS
 rw[List.getElem?_set]
 simp only[List.getElem?_map,List.length_map,List.length_range]
 by_cases e:q=i
 ·subst e
  simp[hq]
 ·by_cases h:i<m <;> simp[e,h]
  omega
theorem rp {m:Nat}(h:bC m){b:Int}(h0:0<=b)(h1:b<m):gP [1,(m:Int)] 1 b=K (1+b.toNat):=by
 have hm:=eP h
 have hb:b % 4096=b:=by omega
 unfold gP
 rw[if_pos]
 ·rw[hb];rfl
 ·refine⟨by omega,by simp,?_⟩
  show b % 4096<((aG [1,(m:Int)] 1).toNat:Int)
  rw[hb]
  show b<(((m:Int)).toNat:Int)
  omega
section
variable {n sl t:Nat}{m:Mc}{a b c d pc x:Int}{late:Bool}
theorem wX (h:m.cs t=ac a b c d pc):bp (gS n sl) m t J=({ m with cs:=bt m.cs t (ac a b c d 0) },⟨[],-1,-1,J,J,0⟩):=by
 unfold bp;rw[h];rfl
theorem qi (h:m.cs t=ac a b c d pc):bp (gS n sl) m t G=({ m with cs:=bt m.cs t (ac a (kj (tw (a+1)) ((sl:Int)-1)) 1 d 11) },⟨[],-1,-1,J,J,0⟩):=by
 unfold bp;rw[h];rfl
theorem GN {ys:List Int}(h:m.cs t=ac a b c d 0)(hw:m.ws=x :: ys):bE (gS n sl) m t late=({ m with ws:=tw (x+1) :: ys,cs:=bt m.cs t (ac x (kj x ((sl:Int)-1)) 1 d 4) },⟨[1],-1,0,G,J,0⟩):=by
 obtain⟨ws,pn,cs⟩:=m
 simp only at h hw
 subst hw
 rw[kB (i:=⟨20,1,0,0,0,0,1,0⟩) (a:=0) (by simp only[h];rfl) (by decide) (by decide) (by simp only[h];rfl)]
 simp only[h]
 kernel_rfl
theorem GM (hs:bC sl)(h:m.cs t=ac a b 1 d 4)(h0:0<=b)(h1:b<sl):bE (gS n sl) m t late =
 if aG m.ws (1+b.toNat)=1 then ({ m with cs:=bt m.cs t (ac a b 1 (aG m.ws (1+b.toNat)) 6) },⟨[2],-1,((1+b.toNat:Nat):Int),J,J,0⟩)
 else ({ m with cs:=bt m.cs t (ac a b 1 (aG m.ws (1+b.toNat)) 4) },⟨[],-1,((1+b.toNat:Nat):Int),J,G,0⟩):=by
 have hf:=rp hs h0 h1
 obtain⟨ws,pn,cs⟩:=m
 simp only at h
 rw[kB (i:=⟨21,4,2,3,0,1,0,-1⟩) (a:=1+b.toNat) (by simp only[h];rfl) (by decide) (by decide) (by simp only[h];exact hf)]
 simp only[h]
 generalize 1+b.toNat=g
 generalize hy:aG ws g=y
 have e:∀ (A B C:Mc×Ot),(if (decide (aG ws g=1) != decide ((0:Int)=1))=G then A else if late=J\/(-1:Int)<0 then B else C)=if y=1 then A else B:=fun A B C=>by
  rw[hy]
  by_cases e:y=1 <;> simp[e]
 refine Eq.trans ?_ (e _ _ (iR (gS n sl) ⟨ws,pn,cs⟩ t (ac a b 1 (aG ws g) (-1)) ⟨[],0,g,J,J,0⟩))
 rw[<-hy]
 kernel_rfl
theorem GL (hs:bC sl)(h:m.cs t=ac a b c d 6)(h0:0<=b)(h1:b<sl):bE (gS n sl) m t late=({ m with ws:=m.ws.set (1+b.toNat) 0,cs:=bt m.cs t (ac a b c d 7) },⟨[],1,((1+b.toNat:Nat):Int),G,J,0⟩):=by
 have hf:=rp hs h0 h1
 obtain⟨ws,pn,cs⟩:=m
 simp only at h
 rw[kB (i:=⟨17,0,2,0,0,1,0,0⟩) (a:=1+b.toNat) (by simp only[h];rfl) (by decide) (by decide) (by simp only[h];exact hf)]
 simp only[h]
 generalize 1+b.toNat=g
 show _=_
 kernel_rfl
theorem Eb (hs:bC sl)(h:m.cs t=ac a b 1 d 11)(h0:0<=b)(h1:b<sl):bE (gS n sl) m t late=({ m with ws:=m.ws.set (1+b.toNat) 1,cs:=bt m.cs t (ac a b 1 d 13) },⟨[4],2,((1+b.toNat:Nat):Int),G,J,0⟩):=by
 have hf:=rp hs h0 h1
 obtain⟨ws,pn,cs⟩:=m
 simp only at h
 rw[kB (i:=⟨17,0,2,3,0,1,0,0⟩) (a:=1+b.toNat) (by simp only[h];rfl) (by decide) (by decide) (by simp only[h];exact hf)]
 simp only[h]
 generalize 1+b.toNat=g
 show _=_
 kernel_rfl
end
def H9 (sl:Nat)(st:Int)(s:Nat)(act la:Int)(c:zR):Prop:=
 (act=0/\(la=0\/la=10)/\∃ a b x d pc,c=ac a b x d pc)\/(act=1/\la=1/\∃ a b x d,c=ac a b x d 0)\/(act=1/\la=2)\/
 (act=1/\la=3/\∃ d,c=ac (tw (st+s)) ((st+s) % sl) 1 d 6)\/
 (act=2/\la=5/\∃ b x d pc,c=ac (tw (st+s)) b x d pc)\/(act=3/\la=8/\∃ d,c=ac (tw (st+s)) ((st+s+1) % sl) 1 d 11)
def iT (l:List En):Bool:=decide ((ax l).ow=-1\/aD l (ax l).ow=3)
structure uo (n sl:Nat)(st:Int)(s:Nat)(r:Rn):Prop where
 bad:r.bad=J
 tr:dt n r.l
 now:∀ y∈r.l,y.now=0
 ws:r.m.ws=tw (st+s+nj r.l+(ax r.l).q.length) :: zS sl ((st+s) % sl).toNat (iT r.l)
 qs:∀ j t:Nat,(ax r.l).q[j]?=K (t:Int)->r.act t=1/\∃ d,r.m.cs t=ac (tw (st+s+nj r.l+j)) ((st+s+nj r.l+j) % sl) 1 d 4
 th:∀ t:Nat,t<n->H9 sl st s (r.act t) (aD r.l t) (r.m.cs t)
theorem nF {n:Int}{l:List En}{t k:Int}(h:dt n l)(ho:(ax (l++[⟨k,t,0⟩])).ow=(ax l).ow)(h1:k≠3)(h2:aD l t≠3)(h3:aD l t≠5):iT (l++[⟨k,t,0⟩])=iT l:=by
 unfold iT
 rw[ho,cH]
 simp only
 by_cases e:t=(ax l).ow
 ·rw[if_pos e,<-e,Bool.eq_iff_iff]
  simp only[decide_eq_true_eq]
  omega
 ·rw[if_neg e]
section
variable {n sl:Nat}{st:Int}{s:Nat}{r:Rn}{t:Nat}
theorem jk (h:uo n sl st s r)(hl:aD r.l t≠2){j t':Nat}(hq:(ax r.l).q[j]?=K (t':Int)):t'≠t:=fun e=>by
 subst e
 exact hl (((me _ h.tr).1 t').1 (List.mem_of_getElem? hq))
theorem mK (hs:bC sl)(x:Int):0<=x % sl/\x % sl<sl:=by
 have:=eP hs
 exact⟨Int.emod_nonneg _ (by omega),Int.emod_lt_of_pos _ (by omega)⟩
theorem wY (h:uo n sl st s r)(ht:t<n)(ha:r.act t=0):uo n sl st s (bA { m:=(bp (gS n sl) r.m t J).1,act:=bt r.act t 1,l:=r.l++[⟨1,t,0⟩],bad:=r.bad } t (bp (gS n sl) r.m t J).2):=by
 obtain⟨_,hla,a,b,x,d,pc,hc⟩:r.act t=0/\(aD r.l t=0\/aD r.l t=10)/\∃ a b x d pc,r.m.cs t=ac a b x d pc:=by
  rcases h.th t ht with h1 | h1 | h1 | h1 | h1 | h1
  ·exact h1
  all_goals (exfalso;have:=h1.1;omega)
 rw[wX hc,ed]
 have hown:cO (aD r.l t)=J:=by unfold cO;simp;omega
 have e1:(ax (r.l++[⟨1,(t:Int),0⟩])).q=(ax r.l).q:=lh h.tr (by simp) (by show aD r.l t≠2;omega)
 have o1:(ax (r.l++[⟨1,(t:Int),0⟩])).ow=(ax r.l).ow:=oz h.tr (by simp) rfl hown
 have e2:nj (r.l++[⟨1,(t:Int),0⟩])=nj r.l:=by unfold nj;rw[o1]
 have e3:iT (r.l++[⟨1,(t:Int),0⟩])=iT r.l:=nF h.tr o1 (by omega) (by omega) (by omega)
 refine⟨h.bad,eI h.tr h.now rfl ⟨by simp,by simpa using ht,.inl ⟨rfl,?_⟩⟩,fI h.now,?_,fun j t' hq=>?_,fun t' ht'=>?_⟩
 ·rw[mM]
  rcases hla with e | e
  ·exact .inl e
  ·exact .inr (.inr (.inr e))
 ·show r.m.ws=_
  rw[e1,e2,e3];exact h.ws
 ·rw[e1] at hq
  have hne:=jk h (t:=t) (by omega) hq
  obtain⟨q1,d',q2⟩:=h.qs j t' hq
  simp only
  rw[aB hne,aB hne,e2]
  exact⟨q1,d',q2⟩
 ·simp only
  by_cases e:t'=t
  ·subst e
   rw[bg,bg,co]
   exact .inr (.inl ⟨rfl,rfl,a,b,x,d,rfl⟩)
  ·rw[aB e,aB e,bT _ _ _ _ e]
   exact h.th t' ht'
theorem ij {l:List En}{t:Int}(ho:(ax l).ow=t)(ht:0<=t):iT l=decide (aD l t=3):=by
 unfold iT
 rw[ho,Bool.eq_iff_iff]
 simp only[decide_eq_true_eq]
 omega
theorem jA {l:List En}(ho:(ax l).ow=-1):iT l=G:=by
 unfold iT
 rw[ho]
 simp
theorem DL (hs:bC sl)(h:uo n sl st s r)(ht:t<n)(ha:r.act t=2)(h0:0<=st):uo n sl st s (bA { m:=(bp (gS n sl) r.m t G).1,act:=bt r.act t 3,l:=r.l++[⟨8,t,0⟩],bad:=r.bad } t (bp (gS n sl) r.m t G).2):=by
 obtain⟨_,hla,b,x,d,pc,hc⟩:r.act t=2/\aD r.l t=5/\∃ b x d pc,r.m.cs t=ac (tw (st+s)) b x d pc:=by
  rcases h.th t ht with h1 | h1 | h1 | h1 | h1 | h1
  case inr.inr.inr.inr.inl=>exact h1
  all_goals (exfalso;have:=h1.1;omega)
 rw[qi hc,ed]
 have hown:cO (aD r.l t)=G:=by unfold cO;simp;omega
 have o0:(ax r.l).ow=t:=BU h.tr hown
 have o1:(ax (r.l++[⟨8,(t:Int),0⟩])).ow=t:=qZ rfl
 have e1:(ax (r.l++[⟨8,(t:Int),0⟩])).q=(ax r.l).q:=lh h.tr (by simp) (by show aD r.l t≠2;omega)
 have e2:nj (r.l++[⟨8,(t:Int),0⟩])=nj r.l:=by unfold nj;rw[o1,o0]
 have e3:iT (r.l++[⟨8,(t:Int),0⟩])=iT r.l:=by
  rw[ij o1 (by omega),ij o0 (by omega),co,hla];rfl
 refine⟨h.bad,eI h.tr h.now rfl ⟨by simp,by simpa using ht,?_⟩,fI h.now,?_,fun j t' hq=>?_,fun t' ht'=>?_⟩
 ·rw[mM]
  exact .inr (.inr (.inr (.inr (.inr (.inr (.inl ⟨rfl,hla⟩))))))
 ·show r.m.ws=_
  rw[e1,e2,e3];exact h.ws
 ·rw[e1] at hq
  have hne:=jk h (t:=t) (by omega) hq
  obtain⟨q1,b',q2⟩:=h.qs j t' hq
  simp only
  rw[aB hne,aB hne,e2]
  exact⟨q1,b',q2⟩
 ·simp only
  by_cases e:t'=t
  ·subst e
   rw[bg,bg,co]
   refine .inr (.inr (.inr (.inr (.inr ⟨rfl,rfl,d,?_⟩))))
   rw[BK hs,show (tw (st+s)+1) % (sl:Int)=(st+s+1) % (sl:Int) from by
    rw[<-vK hs (tw (st+s)+1),<-vK hs (st+s+1)]
    congr 1
    unfold tw;omega]
  ·rw[aB e,aB e,bT _ _ _ _ e]
   exact h.th t' ht'
theorem Gs (hs:bC sl)(h:uo n sl st s r)(ht:t<n)(ha:r.act t=1)(hla:aD r.l t=1){a b x d:Int}(hc:r.m.cs t=ac a b x d 0)(late:Bool):
 uo n sl st s (bA { r with m:=(bE (gS n sl) r.m t late).1 } t (bE (gS n sl) r.m t late).2):=by
 rw[GN hc h.ws,jC]
 have hown:cO (aD r.l t)=J:=by unfold cO;simp;omega
 have o1:(ax (r.l++[⟨fT 1,(t:Int),0⟩])).ow=(ax r.l).ow:=oz h.tr (by simp) rfl hown
 have e1:(ax (r.l++[⟨fT 1,(t:Int),0⟩])).q=(ax r.l).q++[(t:Int)]:=Ga h.tr rfl (by show aD r.l t≠2;omega)
 have e2:nj (r.l++[⟨fT 1,(t:Int),0⟩])=nj r.l:=by unfold nj;rw[o1]
 have e3:iT (r.l++[⟨fT 1,(t:Int),0⟩])=iT r.l:=nF h.tr o1 (by decide) (by omega) (by omega)
 refine⟨h.bad,eI h.tr h.now rfl ⟨by simp,by simpa using ht,?_⟩,fI h.now,?_,fun j t' hq=>?_,fun t' ht'=>?_⟩
 ·rw[mM]
  exact .inr (.inl ⟨.inl rfl,hla⟩)
 ·show _ :: _=_ :: _
  rw[e1,e2,e3,List.length_append,List.length_singleton]
  congr 1
  unfold tw;omega
 ·rw[e1,List.getElem?_append] at hq
  simp only
  split at hq
  ·have hne:=jk h (t:=t) (by omega) hq
   obtain⟨q1,b',q2⟩:=h.qs j t' hq
   rw[aB hne,e2]
   exact⟨q1,b',q2⟩
  ·have hj:j-(ax r.l).q.length=0:=by
    have:=(List.getElem?_eq_some_iff.1 hq).1
    simp at this;omega
   rw[hj] at hq
   simp at hq
   have e:t'=t:=by omega
   subst e
   have hjj:j=(ax r.l).q.length:=by omega
   subst hjj
   rw[bg,e2,BK hs]
   exact⟨ha,d,rfl⟩
 ·simp only
  by_cases e:t'=t
  ·subst e
   rw[bg,co]
   exact .inr (.inr (.inl ⟨ha,rfl⟩))
  ·rw[aB e,bT _ _ _ _ e]
   exact h.th t' ht'
theorem Gq (hs:bC sl)(h:uo n sl st s r)(ht:t<n)(ha:r.act t=1)(hla:aD r.l t=3){d:Int}(hc:r.m.cs t=ac (tw (st+s)) ((st+s) % sl) 1 d 6)(late:Bool):
 uo n sl st s (bA { r with m:=(bE (gS n sl) r.m t late).1 } t (bE (gS n sl) r.m t late).2):=by
 obtain⟨b0,b1⟩:=mK hs (st+s)
 rw[GL hs hc b0 b1,qe (by exact ha)]
 have hown:cO (aD r.l t)=G:=by unfold cO;simp;omega
 have o0:(ax r.l).ow=t:=BU h.tr hown
 have o1:(ax (r.l++[⟨5,(t:Int),0⟩])).ow=t:=qZ rfl
 have e1:(ax (r.l++[⟨5,(t:Int),0⟩])).q=(ax r.l).q:=lh h.tr (by simp) (by show aD r.l t≠2;omega)
 have e2:nj (r.l++[⟨5,(t:Int),0⟩])=nj r.l:=by unfold nj;rw[o1,o0]
 have e3:iT r.l=G:=by rw[ij o0 (by omega),hla];rfl
 have e4:iT (r.l++[⟨5,(t:Int),0⟩])=J:=by rw[ij o1 (by omega),co];rfl
 refine⟨h.bad,eI h.tr h.now rfl ⟨by simp,by simpa using ht,?_⟩,fI h.now,?_,fun j t' hq=>?_,fun t' ht'=>?_⟩
 ·rw[mM]
  exact .inr (.inr (.inr (.inr (.inl ⟨rfl,hla⟩))))
 ·show r.m.ws.set _ _=_
  rw[h.ws,e1,e2,e3,e4,xz]
 ·rw[e1] at hq
  have hne:=jk h (t:=t) (by omega) hq
  obtain⟨q1,b',q2⟩:=h.qs j t' hq
  simp only
  rw[aB hne,aB hne,e2]
  exact⟨q1,b',q2⟩
 ·simp only
  by_cases e:t'=t
  ·subst e
   rw[bg,bg,co]
   exact .inr (.inr (.inr (.inr (.inl ⟨rfl,rfl,_,_,_,_,rfl⟩))))
  ·rw[aB e,aB e,bT _ _ _ _ e]
   exact h.th t' ht'
theorem Fl (hs:bC sl)(h:uo n sl st s r)(ht:t<n)(ha:r.act t=3)(hla:aD r.l t=8){d:Int}(hc:r.m.cs t=ac (tw (st+s)) ((st+s+1) % sl) 1 d 11)(late:Bool):
 uo n sl st (s+1) (bA { r with m:=(bE (gS n sl) r.m t late).1 } t (bE (gS n sl) r.m t late).2):=by
 obtain⟨b0,b1⟩:=mK hs (st+s+1)
 rw[Eb hs hc b0 b1,qd (by exact ha)]
 have hown:cO (aD r.l t)=G:=by unfold cO;simp;omega
 have ht1:dt n (r.l++[⟨9,(t:Int),0⟩]):=eI h.tr h.now rfl ⟨by simp,by simpa using ht,by rw[mM];exact .inr (.inr (.inr (.inr (.inr (.inr (.inr (.inl ⟨rfl,hla⟩)))))))⟩
 have hl1:aD (r.l++[⟨9,(t:Int),0⟩]) t=9:=co _ _ _
 have e0:(ax r.l).ow=t:=BU h.tr hown
 have o1:(ax (r.l++[⟨9,(t:Int),0⟩])).ow=-1:=CT h.tr rfl hown
 have o2:(ax (r.l++[⟨9,(t:Int),0⟩]++[⟨10,(t:Int),0⟩])).ow=-1:=by rw[oz ht1 (by simp) rfl (by show cO (aD (r.l++[⟨9,(t:Int),0⟩]) t)=J;rw[hl1];rfl),o1]
 have e1:(ax (r.l++[⟨9,(t:Int),0⟩]++[⟨10,(t:Int),0⟩])).q=(ax r.l).q:=by
  rw[lh ht1 (by simp) (by show aD (r.l++[⟨9,(t:Int),0⟩]) t≠2;omega),lh h.tr (by simp) (by show aD r.l t≠2;omega)]
 have k0:nj r.l=1:=by unfold nj;rw[e0,if_neg (by omega)]
 have k1:nj (r.l++[⟨9,(t:Int),0⟩]++[⟨10,(t:Int),0⟩])=0:=by unfold nj;rw[o2,if_pos rfl]
 have f0:iT r.l=J:=by rw[ij e0 (by omega),hla];rfl
 have f1:iT (r.l++[⟨9,(t:Int),0⟩]++[⟨10,(t:Int),0⟩])=G:=jA o2
 have w2:st+(s:Int)+1=st+((s+1:Nat):Int):=by omega
 refine⟨h.bad,eI ht1 (fI h.now) rfl ⟨by simp,by simpa using ht,?_⟩,fI (fI h.now),?_,fun j t' hq=>?_,fun t' ht'=>?_⟩
 ·rw[mM]
  exact .inr (.inr (.inr (.inr (.inr (.inr (.inr (.inr ⟨rfl,hl1⟩)))))))
 ·show r.m.ws.set _ _=_
  rw[h.ws,e1,k1,k0,f0,f1,wm _ (by omega)]
  have w1:st+(s:Int)+((1:Nat):Int)+((ax r.l).q.length:Int)=st+((s+1:Nat):Int)+((0:Nat):Int)+((ax r.l).q.length:Int):=by omega
  rw[w1,w2]
 ·rw[e1] at hq
  have hne:=jk h (t:=t) (by omega) hq
  obtain⟨q1,b',q2⟩:=h.qs j t' hq
  simp only
  rw[aB hne,aB hne,k1]
  refine⟨q1,b',q2.trans ?_⟩
  rw[k0,show st+(s:Int)+((1:Nat):Int)+(j:Int)=st+((s+1:Nat):Int)+((0:Nat):Int)+(j:Int) by omega]
 ·simp only
  by_cases e:t'=t
  ·subst e
   rw[bg,bg,co]
   exact .inl ⟨rfl,.inr rfl,_,_,_,_,_,rfl⟩
  ·rw[aB e,aB e,bT _ _ _ _ e,bT _ _ _ _ e]
   have hnow:¬ cO (aD r.l t')=G:=fun hh=>e (by have:=CS h.tr hh hown;omega)
   rcases h.th t' ht' with h1 | h1 | h1 | h1 | h1 | h1
   ·exact .inl h1
   ·exact .inr (.inl h1)
   ·exact .inr (.inr (.inl h1))
   ·exact absurd (by rw[h1.2.1];rfl) hnow
   ·exact absurd (by rw[h1.2.1];rfl) hnow
   ·exact absurd (by rw[h1.2.1];rfl) hnow
theorem wU (hs:bC sl)(hn:n<=sl)(h:uo n sl st s r){j:Nat}(hj:j<(ax r.l).q.length):
 aG r.m.ws (1+((st+s+nj r.l+j) % sl).toNat)=if nj r.l=0/\j=0 then 1 else 0:=by
 obtain⟨b0,b1⟩:=mK hs (st+s+nj r.l+j)
 obtain⟨c0,c1⟩:=mK hs (st+s)
 have hfew:=CU h.tr
 rw[h.ws,EC _ (by omega)]
 by_cases e:nj r.l=0/\j=0
 ·rw[if_pos e,if_pos]
  refine⟨jA (BV e.1),?_⟩
  rw[e.1,e.2]
  simp
 ·rw[if_neg e,if_neg]
  rintro⟨_,e2⟩
  have e3:(st+s) % (sl:Int)=(st+s+((nj r.l+j:Nat):Int)) % (sl:Int):=by
   rw[show st+(s:Int)+((nj r.l+j:Nat):Int)=st+s+nj r.l+j by omega]
   omega
  have:=CZ hs (by omega) (by omega) e3
  omega
theorem Gr (hs:bC sl)(hn:n<=sl)(h:uo n sl st s r)(ht:t<n)(ha:r.act t=1)(hla:aD r.l t=2)(late:Bool):
 uo n sl st s (bA { r with m:=(bE (gS n sl) r.m t late).1 } t (bE (gS n sl) r.m t late).2):=by
 obtain⟨m1,m2,m3⟩:=me _ h.tr
 obtain⟨j,hj⟩:=List.getElem?_of_mem ((m1 t).2 hla)
 obtain⟨_,d,hc⟩:=h.qs j t hj
 have hjl:j<(ax r.l).q.length:=(List.getElem?_eq_some_iff.1 hj).1
 have hown:cO (aD r.l t)=J:=by rw[hla];rfl
 have hne:∀ j' t':Nat,(ax r.l).q[j']?=K (t':Int)->j'≠j->t'≠t:=fun j' t' hq hjj e=>by
  subst e
  have hlt':=(List.getElem?_eq_some_iff.1 hq).1
  rw[List.getElem?_eq_getElem hlt'] at hq
  rw[List.getElem?_eq_getElem hjl] at hj
  exact hjj ((List.getElem_inj m2).1 ((Option.some.inj hq).trans (Option.some.inj hj).symm))
 obtain⟨b0,b1⟩:=mK hs (st+s+nj r.l+j)
 rw[GM hs hc b0 b1,wU hs hn h hjl]
 by_cases hz:nj r.l=0/\j=0
 ·rw[if_pos hz,if_pos rfl,jC]
  obtain⟨z1,rfl⟩:=hz
  have o0:=BV z1
  obtain⟨rest,hq0⟩:∃ rest,(ax r.l).q=(t:Int) :: rest:=by
   cases hqq:(ax r.l).q with
   | nil=>rw[hqq] at hj;simp at hj
   | cons y rest=>rw[hqq] at hj;simp at hj;subst hj;exact⟨rest,rfl⟩
  have o1:(ax (r.l++[⟨fT 2,(t:Int),0⟩])).ow=t:=qZ rfl
  have e1:(ax (r.l++[⟨fT 2,(t:Int),0⟩])).q=rest:=EL h.tr (by show fT 2≠2;decide) hq0
  have k1:nj (r.l++[⟨fT 2,(t:Int),0⟩])=1:=by unfold nj;rw[o1,if_neg (by omega)]
  have f0:iT r.l=G:=jA o0
  have f1:iT (r.l++[⟨fT 2,(t:Int),0⟩])=G:=by rw[ij o1 (by omega),co];rfl
  refine⟨h.bad,eI h.tr h.now rfl ⟨by simp,by simpa using ht,?_⟩,fI h.now,?_,fun j t' hq=>?_,fun t' ht'=>?_⟩
  ·rw[mM,hq0,o0]
   exact .inr (.inr (.inl ⟨rfl,hla,rfl,rfl⟩))
  ·show r.m.ws=_
   rw[h.ws,e1,k1,z1,f0,f1,hq0,List.length_cons]
   have w1:st+(s:Int)+((0:Nat):Int)+((rest.length+1:Nat):Int)=st+(s:Int)+((1:Nat):Int)+(rest.length:Int):=by omega
   rw[w1]
  ·rw[e1] at hq
   have hq2:(ax r.l).q[j+1]?=K (t':Int):=by rw[hq0];simpa using hq
   have hnt:=hne (j+1) t' hq2 (by omega)
   obtain⟨q1,b',q2⟩:=h.qs (j+1) t' hq2
   simp only
   rw[aB hnt,k1]
   refine⟨q1,b',q2.trans ?_⟩
   rw[z1,show st+(s:Int)+((0:Nat):Int)+((j+1:Nat):Int)=st+(s:Int)+((1:Nat):Int)+(j:Int) by omega]
  ·simp only
   by_cases e':t'=t
   ·subst e'
    rw[bg,co]
    refine .inr (.inr (.inr (.inl ⟨ha,rfl,1,?_⟩)))
    rw[z1,show st+(s:Int)+((0:Nat):Int)+((0:Nat):Int)=st+s by omega]
   ·rw[aB e',bT _ _ _ _ e']
    exact h.th t' ht'
 ·rw[if_neg hz,if_neg (by decide),ed]
  refine⟨h.bad,h.tr,h.now,h.ws,fun j' t' hq=>?_,fun t' ht'=>?_⟩
  ·simp only
   by_cases e':t'=t
   ·have hjj:j'=j:=by
     rcases Nat.decEq j' j with hh | hh
     ·exact absurd e' (hne j' t' hq hh)
     ·exact hh
    subst hjj
    subst e'
    rw[bg]
    exact⟨ha,_,rfl⟩
   ·rw[aB e']
    exact h.qs j' t' hq
  ·simp only
   by_cases e':t'=t
   ·subst e'
    exact .inr (.inr (.inl ⟨ha,hla⟩))
   ·rw[aB e']
    exact h.th t' ht'
theorem Gt (hs:bC sl)(hn:n<=sl)(h0:0<=st)(o:kp)(h:∃ s,uo n sl st s r):∃ s,uo n sl st s (dO (gS n sl) r o):=by
 refine AC (I:=fun r=>∃ s,uo n sl st s r) ?_ ?_ ?_ r o h
 ·rintro r t ⟨s,h⟩ ht _ ha;exact⟨s,wY h ht ha⟩
 ·rintro r t ⟨s,h⟩ ht _ ha;exact⟨s,DL hs h ht ha h0⟩
 ·rintro r t late ⟨s,h⟩ ht _ ha
  rcases h.th t ht with h1 | h1 | h1 | h1 | h1 | h1
  ·exfalso;have:=h1.1;omega
  ·obtain⟨h2,h3,a,b,x,d,hc⟩:=h1
   exact⟨s,Gs hs h ht h2 h3 hc late⟩
  ·exact⟨s,Gr hs hn h ht h1.1 h1.2 late⟩
  ·obtain⟨h2,h3,d,hc⟩:=h1
   exact⟨s,Gq hs h ht h2 h3 hc late⟩
  ·exfalso;have:=h1.1;omega
  ·obtain⟨h2,h3,d,hc⟩:=h1
   exact⟨s+1,Fl hs h ht h2 h3 hc late⟩
theorem v8 (hs:bC sl)(h0:0<=st)(h1:st<4294967296)(r7:List Int)(h7:∀ t,aG r7 t=0):uo n sl st 0 (jT (gS n sl) (st :: zS sl (st % sl).toNat G) r7):=by
 have e:st+((0:Nat):Int)=st:=by omega
 refine⟨rfl,pr _,fun y hy=>by simp[jT] at hy,?_,fun j t hq=>by simp[jT,ax,GX] at hq,fun t ht=>.inl ⟨rfl,.inl rfl,0,0,0,0,0,?_⟩⟩
 ·show st :: zS sl (st % sl).toNat G=tw (st+((0:Nat):Int)+((0:Nat):Int)+((0:Nat):Int)) :: zS sl ((st+((0:Nat):Int)) % sl).toNat (iT [])
  rw[e,e,e,jA rfl]
  congr 1
  unfold tw;omega
 ·show (⟨[0,0,0,0,0,0,0,aG r7 t],0⟩:zR)=_
  rw[h7];rfl
theorem BN (h:uo n sl st s r):FB n r:=fun t ht ha=>by
 rcases h.th t ht with h1 | h1 | h1 | h1 | h1 | h1
 ·rcases h1.2.1 with e | e <;> rw[e] <;> exact⟨by decide,rfl⟩
 all_goals (exfalso;have:=h1.1;omega)
def z9 (act la:Int):Nat:=if act=1 then (if la=1 then 5 else if la=2 then 4 else 3) else if act=2 then 2 else if act=3 then 1 else 0
def xa (r:Rn)(t:Nat):Nat:=z9 (r.act t) (aD r.l t)
theorem zm (hs:bC sl)(hn:n<=sl)(h:uo n sl st s r)(ht:t<n):BQ xa rJ r (aX (gS n sl) r t) t:=by
 rcases h.th t ht with h1 | h1 | h1 | h1 | h1 | h1
 ·rw[gL h1.1]
  exact⟨fun he=>absurd h1.1 he.1,fun _ _=>rfl,fun _=>⟨rfl,fun _ _ h=>h⟩,fun e=>by omega,fun e=>by omega,fun e=>by omega⟩
 ·obtain⟨ha,hla,a,b,x,d,hc⟩:=h1
  rw[jn h.bad ht (.inl ha),GN hc h.ws,jC]
  refine⟨fun _=>?_,fun t' hne=>?_,fun he=>absurd ⟨by omega,fun e=>by omega⟩ he,fun _=>.inl ha,fun e=>by omega,fun e=>by omega⟩
  ·unfold xa
   simp only
   rw[co,hla,ha]
   decide
  ·unfold xa
   simp only
   rw[bT _ _ _ _ hne]
 ·obtain⟨ha,hla⟩:=h1
  obtain⟨m1,m2,m3⟩:=me _ h.tr
  obtain⟨j,hj⟩:=List.getElem?_of_mem ((m1 t).2 hla)
  obtain⟨_,d,hc⟩:=h.qs j t hj
  have hjl:j<(ax r.l).q.length:=(List.getElem?_eq_some_iff.1 hj).1
  obtain⟨b0,b1⟩:=mK hs (st+s+nj r.l+j)
  rw[jn h.bad ht (.inl ha),GM hs hc b0 b1,wU hs hn h hjl]
  by_cases hz:nj r.l=0/\j=0
  ·rw[if_pos hz,if_pos rfl,jC]
   refine⟨fun _=>?_,fun t' hne=>?_,fun he=>?_,fun _=>.inl ha,fun e=>by omega,fun e=>by omega⟩
   ·unfold xa
    simp only
    rw[co,ha,hla]
    decide
   ·unfold xa
    simp only
    rw[bT _ _ _ _ hne]
   ·exfalso
    refine he ⟨by omega,fun _=>⟨?_,BV hz.1⟩⟩
    rw[List.head?_eq_getElem?,<-hz.2];exact hj
  ·rw[if_neg hz,if_neg (by decide),ed]
   refine⟨fun he=>?_,fun _ _=>rfl,fun _=>⟨rfl,fun _ _ h=>h⟩,fun _=>.inl ha,fun e=>by omega,fun e=>by omega⟩
   exfalso
   obtain⟨h1,h2⟩:=he.2 hla
   rw[List.head?_eq_getElem?] at h1
   refine hz ⟨by unfold nj;rw[if_pos h2],?_⟩
   have hlt:0<(ax r.l).q.length:=by omega
   rw[List.getElem?_eq_getElem hlt] at h1
   rw[List.getElem?_eq_getElem hjl] at hj
   exact(List.getElem_inj m2).1 ((Option.some.inj hj).trans (Option.some.inj h1).symm)
 ·obtain⟨ha,hla,d,hc⟩:=h1
  obtain⟨b0,b1⟩:=mK hs (st+s)
  rw[jn h.bad ht (.inl ha),GL hs hc b0 b1,qe (by exact ha)]
  refine⟨fun _=>?_,fun t' hne=>?_,fun he=>absurd ⟨by omega,fun e=>by omega⟩ he,fun _=>.inr (bg _ _ _),fun e=>by omega,fun e=>by omega⟩
  ·unfold xa
   simp only
   rw[bg,co,ha,hla]
   decide
  ·unfold xa
   simp only
   rw[aB hne,bT _ _ _ _ hne]
 ·obtain⟨ha,hla,b,x,d,pc,hc⟩:=h1
  rw[rZ h.bad ht ha,qi hc,ed]
  refine⟨fun _=>?_,fun t' hne=>?_,fun he=>absurd ⟨by omega,fun e=>by omega⟩ he,fun e=>by omega,fun _=>.inr (bg _ _ _),fun e=>by omega⟩
  ·unfold xa
   simp only
   rw[bg,co,ha,hla]
   decide
  ·unfold xa
   simp only
   rw[aB hne,bT _ _ _ _ hne]
 ·obtain⟨ha,hla,d,hc⟩:=h1
  obtain⟨b0,b1⟩:=mK hs (st+s+1)
  rw[jn h.bad ht (.inr ha),Eb hs hc b0 b1,qd (by exact ha)]
  refine⟨fun _=>?_,fun t' hne=>?_,fun he=>absurd ⟨by omega,fun e=>by omega⟩ he,fun e=>by omega,fun e=>by omega,fun _=>.inl (bg _ _ _)⟩
  ·unfold xa
   simp only
   rw[bg,co,ha,hla]
   decide
  ·unfold xa
   simp only
   rw[aB hne,bT _ _ _ _ hne,bT _ _ _ _ hne]
theorem zr (h:uo n sl st s r)(ht:t<n)(ha:r.act t=0):(dO (gS n sl) r ⟨1,t,J⟩).act t=1/\(dO (gS n sl) r ⟨1,t,J⟩).l=r.l++[⟨1,t,0⟩]/\uo n sl st s (dO (gS n sl) r ⟨1,t,J⟩):=by
 have hk:=wY h ht ha
 rw[xj h.bad ht ha]
 obtain⟨a,b,x,d,pc,hc⟩:∃ a b x d pc,r.m.cs t=ac a b x d pc:=by
  rcases h.th t ht with h1 | h1 | h1 | h1 | h1 | h1
  ·exact h1.2.2
  all_goals (exfalso;have:=h1.1;omega)
 rw[wX hc,ed] at hk ⊢
 exact⟨bg _ _ _,rfl,hk⟩
def Hl (n sl:Nat)(st:Int)(hs:bC sl)(hn:n<=sl)(h0:0<=st):jI (gS n sl) where
 I r:=∃ s,uo n sl st s r
 W:=xa
 c:=5
 En:=rJ
 few r t:=by
  unfold xa z9
  repeat' split
  all_goals omega
 zero r t h:=by
  unfold xa z9
  rw[h];simp
 range r t:=by
  rintro⟨s,h⟩ ht
  rcases h.th t ht with h1 | h1 | h1 | h1 | h1 | h1 <;> have:=h1.1 <;> omega
 keep r o h:=Gt hs hn h0 o h
 turned r t:=by
  rintro⟨s,h⟩ ht
  exact zm hs hn h ht
 called r t:=by
  rintro⟨s,h⟩ ht ha
  obtain⟨e1,e2,_⟩:=zr h ht ha
  refine⟨.inl e1,fun t' hne=>?_⟩
  unfold xa
  rw[iG (by simp only;omega),e2,bT _ _ _ _ hne]
 idle r t _ _ he:=he.1
 some_ r:=by
  rintro⟨s,h⟩ hi
  exact yp h.tr (BN h) hi
theorem Bl (hs:bC sl)(hn:n<=sl)(h0:0<=st)(h:uo n sl st s r)(ht:t<n)(hi:kq n r):
 let r1:=bq (gS n sl) t 3 (dO (gS n sl) r ⟨1,t,J⟩)
 let r2:=bq (gS n sl) t 1 (dO (gS n sl) r1 ⟨2,t,J⟩)
 r1.act t=2/\r2.act t=0/\∃ s,uo n sl st s r2:=
 qA (Hl n sl st hs hn h0) 2
  (fun r t h ht ha=>by
   obtain⟨s,h⟩:=h
   show 2<xa r t
   unfold xa z9
   rw[if_pos ha]
   repeat' split
   all_goals omega)
  (fun r t h ht ha=>by
   show xa r t<=2
   unfold xa z9
   rw[ha];simp)
  (fun r t h ht ha=>by
   show 0<xa r t
   unfold xa z9
   rw[ha];simp)
  (fun r t h ht hal ha=>by
   obtain⟨s,h⟩:=h
   exact oX h.tr (BN h) hal ha) r ⟨s,h⟩ t ht hi
end
def eF (r:Rn):Nat->Bool
 | 0=>J
 | j+1=>eF r j || (r.act j != 0)
theorem nK {r r':Rn}:∀ {j:Nat},(∀ t,t<j->r'.act t=r.act t)->eF r' j=eF r j
 | 0,_=>rfl
 | j+1,h=>by
  unfold eF
  rw[nK (fun t ht=>h t (by omega)),h j (by omega)]
theorem iC {r:Rn}:∀ {n:Nat},eF r n=J↔kq n r
 | 0=>⟨fun _ t ht=>by omega,fun _=>rfl⟩
 | n+1=>by
  unfold eF
  rw[Bool.or_eq_false_iff,iC]
  constructor
  ·rintro⟨h1,h2⟩ t ht
   by_cases e:t=n
   ·subst e;simpa using h2
   ·exact h1 t (by omega)
  ·intro h
   exact⟨fun t ht=>h t (by omega),by simpa using h n (by omega)⟩
def dh (k:Lk)(r:Rn)(j:Nat):Rn:=(List.range j).foldl (aX k) r
theorem pN (k:Lk)(r:Rn):dh k r 0=r:=rfl
theorem lR (k:Lk)(r:Rn)(j:Nat):dh k r (j+1)=aX k (dh k r j) j:=by
 unfold dh
 rw[List.range_succ,List.foldl_append];rfl
theorem vC (k:Lk)(r:Rn)(j:Nat):eF (dh k r (j+1)) (j+1)=(eF (dh k r j) j || ((dh k r (j+1)).act j != 0)):=by
 show (eF (dh k r (j+1)) j || _)=_
 rw[nK (fun t ht=>?_)]
 rw[lR]
 exact iG (by simp only;omega)
def fQ (k:Lk):Nat->Rn->Bool×Rn
 | 0,r=>(J,r)
 | f+1,r=>if eF (dh k r k.n) k.n=J then (G,dh k r k.n) else fQ k f (dh k r k.n)
theorem hG (k:Lk)(f:Nat)(r:Rn):fQ k (f+1) r=if eF (dh k r k.n) k.n=J then (G,dh k r k.n) else fQ k f (dh k r k.n):=rfl
theorem pZ (k:Lk)(r:Rn):fQ k 0 r=(J,r):=rfl
end
section
open Go.ChangeShapes Go.WideShapes Go.ChangeAt Go.RowKit
theorem wn:(Tryz.prog.info? 127).map (fun i=>(i.zero,i.size,i.bytes))=K (K (.agg #[Q N 0,Q N 0,Q N 0,Q N 0,Q N 0,Q N 0,Q Z 0,Q N 0]),8,64):=by kernel_rfl
theorem xm {l:List aP}{k:Nat}(h:k<l.length):l.take (k+1)=l.take k++[l[k]]:=by simp
theorem CB {w x y w':World}{o:Obj}{lo un:Int}{k:Nat}{l:List aP}{v v':Value}{i:aP}{R O:Nat}{rs:Array Value}(hb:Below w.heap.size w x)(hO:Bk x O 35 #[v,Q N lo,Q N un])(hR:Bk x R 35 rs)(hne:R≠O)(hwO:w.heap.size<=O)
 (hv:x.ownsRow w.heap.size 127 8 v k (bu l)) (hy:Below x.heap.size x y) (hw:w'.ownsRow w.heap.size 127 8 v' (k+1) (bu l++jN i)) (hg:(y.alloc o).grownBy w' v.ownBlock):
 Below w.heap.size w (w'.setCell ⟨O,0,U⟩ v')/\Bk (w'.setCell ⟨O,0,U⟩ v') O 35 #[v',Q N lo,Q N un]/\Bk (w'.setCell ⟨O,0,U⟩ v') R 35 rs/\(w'.setCell ⟨O,0,U⟩ v').ownsRow w.heap.size 127 8 v' (k+1) (bu (l++[i])):=by
 have hA:ag x (y.alloc o) (fun _=>False):=(af hy).alloc o
 have hB:ag (y.alloc o) w' (fun b=>K b=v.ownBlock):=.aO hg (by rintro i e;exact .inl e.symm)
 have hC:ag x w' (fun b=>K b=v.ownBlock):=(hA.wide (by simp)).aH hB (by rintro i e;exact .inl e)
 have un_:∀ {g:Nat} {cs:Array Value},Bk x g 35 cs->Bk w' g 35 cs:=fun hk=>hk.within hC fun e=>by
  obtain⟨cs,hcs⟩:=aU hv e.symm
  exact Bk.av hcs hk (by decide) rfl
 have hO2:=un_ hO
 have hR2:=un_ hR
 have hb2:Below w.heap.size w w':=by
  refine hb.trans ⟨hC.os,hC.tape,hC.output,hC.size,fun i hi=>hC.block i (Nat.lt_of_lt_of_le hi hb.size) fun e=>?_⟩
  have:=(World.ownsRow.lt hv i e.symm).1
  omega
 refine⟨hb2.setCell hwO _,hO2.put 0 v',hR2.off hne _,?_⟩
 rw[jW]
 refine ar hw ((ag.refl w' (fun b=>b=O)).put O 0 v' (.inl rfl)) fun b e e2=>?_
 obtain⟨cs,hcs⟩:=aU hw e
 exact Bk.av hcs hO2 (by decide) e2
theorem Gh (c:gu)(v:Value)(w:World)(hv:Pv w v c)(hl:c.l.length<=1000):
 Calls Tryz.prog 33 #[v] w fun e w'=>∃ sl,e=.returned (.agg #[sl,Q N c.lo,Q N c.un])/\w'.ownsRow w.heap.size 127 8 sl c.l.length (bu c.l)/\Below w.heap.size w w':=by
 obtain⟨a,ca,rfl,hc1,hc2,_,ha⟩:=hv
 obtain⟨l,lo,un⟩:=c
 simp only at hl hc1 ha ⊢
 have q0:=((Bk.made w 25 #[F a l.length ca,Q N lo,Q N un]).alloc (E #[F U 0 0,Q N 0,Q N 0] 35))
 have q1:=Bk.made (w.alloc (E #[F a l.length ca,Q N lo,Q N un] 25)) 35 #[F U 0 0,Q N 0,Q N 0]
 rw[World.size_alloc] at q1
 have b0:Below w.heap.size w ((w.alloc (E #[F a l.length ca,Q N lo,Q N un] 25)).alloc (E #[F U 0 0,Q N 0,Q N 0] 35)):=((Below.refl _ _).alloc (L _) _).alloc (by simp) _
 go_enter Tryz.func33,Tryz.ntmps33
 go_upto_region 1 with fail
 generalize (w.alloc (E #[F a l.length ca,Q N lo,Q N un] 25)).alloc (E #[F U 0 0,Q N 0,Q N 0] 35)=x at *
 obtain⟨x0,x1,x2⟩:=q0.iD
 go_upto_region 2 with fail
 have O0:=Bk.made x 35 #[F U 0 0,Q N lo,Q N un]
 have hxw:w.heap.size+1<x.heap.size:=q1.lt
 replace q0:=q0.alloc (E #[F U 0 0,Q N lo,Q N un] 35)
 replace q1:=q1.alloc (E #[F U 0 0,Q N lo,Q N un] 35)
 replace b0:=b0.alloc (o:=E #[F U 0 0,Q N lo,Q N un] 35) b0.size
 generalize x.heap.size=O at *
 generalize x.alloc (E #[F U 0 0,Q N lo,Q N un] 35)=x at *
 have z0:x.cell? ⟨w.heap.size,0,U⟩=K (F a l.length ca):=q0.cell 0
 clear x0 x1 x2 q0
 go_wp2
 go_loopw [14] (fun i wr=>∃ (k:Nat) (v:Value),i=Q N k/\k<=l.length/\Below w.heap.size w wr/\Bk wr O 35 #[v,Q N lo,Q N un]/\Bk wr (w.heap.size+1) 35 #[F U 0 0,Q N 0,Q N 0]/\wr.ownsRow w.heap.size 127 8 v k (bu (l.take k))) (fun i _=>l.length-(intOf i).toNat)
 case atStart=>exact⟨0,F U 0 0,rfl,Nat.zero_le _,b0,O0,q1,World.ownsRow_nil _ _ _ _⟩
 case round=>
  obtain⟨k,v,rfl,hk,hb,hO,hR,hv⟩:=hrel
  clear z0 O0 q1 b0
  by_cases hlt:k<l.length
  ·have hki:(k:Int)<l.length:=by omega
   obtain⟨g,off,rfl,hgl,e0,e1,e2,e3,e4,e5,e6,e7⟩:=(ha.below hb).at_ (List.getElem?_eq_getElem hlt)
   have HT:=D (xm hlt)
   generalize l[k]=i at *
   have HF:=D (fun W=>G7 i W)
   obtain⟨op,d,s,t,u,a',k',pl⟩:=i
   simp only at e0 e1 e2 e3 e4 e5 e6 e7
   unfold iv at HF
   simp only at HF
   obtain⟨a2,cap2,rfl,hcap2,hmax2,_⟩:=aT hv
   go_upto_region 5 with fail
   have m2:=Ib.made wr op d s t u a' k' pl
   replace hb:=hb.alloc (o:=E #[Q N op,Q N d,Q N s,Q N t,Q N u,Q N a',Q Z k',Q N pl] 121) hb.size
   replace hO:=hO.alloc (E #[Q N op,Q N d,Q N s,Q N t,Q N u,Q N a',Q Z k',Q N pl] 121)
   replace hR:=hR.alloc (E #[Q N op,Q N d,Q N s,Q N t,Q N u,Q N a',Q Z k',Q N pl] 121)
   replace hv:=World.ownsRow.alloc hv (E #[Q N op,Q N d,Q N s,Q N t,Q N u,Q N a',Q Z k',Q N pl] 121)
   clear e0 e1 e2 e3 e4 e5 e6 e7
   generalize wr.heap.size=q at *
   generalize wr.alloc (E #[Q N op,Q N d,Q N s,Q N t,Q N u,Q N a',Q Z k',Q N pl] 121)=x at *
   obtain⟨e0,e1,e2,e3,e4,e5,e6,e7⟩:=m2.cells
   simp only at e0 e1 e2 e3 e4 e5 e6 e7
   have v0:x.cell? ⟨O,0,U⟩=K (F a2 k cap2):=hO.cell 0
   have HV0:Hid (∀ y,Below x.heap.size x y->y.cell? ⟨O,0,U⟩=K (F a2 k cap2)):=D fun y hy=>(hy.cell (p:=⟨O,0,U⟩) hO.lt).trans v0
   have HV1:Hid (∀ y,Below x.heap.size x y->∀ o,(y.alloc o).cell? ⟨O,0,U⟩=K (F a2 k cap2)):=D fun y hy o=>(Bk.alloc ((hy.block _ hO.lt).trans hO) o).cell 0
   have HOW:Hid (∀ y,Below x.heap.size x y->(y.alloc (E #[Q N op,Q N d,Q N s,Q N t,Q N u,Q N a',Q Z k',Q N pl] 127)).ownsRow w.heap.size 127 8 (F a2 k cap2) k (bu (l.take k))):=D fun y hy=>World.ownsRow.alloc (ar hv (af hy) (by simp)) _
   have HNW:Hid (∀ y:World,∀ (j:Nat) (uu:Value),[Value.int .i64 op,Q N d,Q N s,Q N t,Q N u,Q N a',Q Z k',Q N pl][j]?=K uu->(y.alloc (E #[Q N op,Q N d,Q N s,Q N t,Q N u,Q N a',Q Z k',Q N pl] 127)).cell? ((⟨y.heap.size,0,U⟩:Addr).add j)=K uu):=D fun y=>fD (Bk.made y 127 #[Q N op,Q N d,Q N s,Q N t,Q N u,Q N a',Q Z k',Q N pl])
   have HBS:Hid (∀ y,Below x.heap.size x y->w.heap.size<=(y.alloc (E #[Q N op,Q N d,Q N s,Q N t,Q N u,Q N a',Q Z k',Q N pl] 127)).heap.size):=D fun y hy=>by rw[World.size_alloc];have:=hb.size;have:=hy.size;omega
   have HEND:Hid (∀ y,Below x.heap.size x y->∀ (w':World) (v':Value),w'.ownsRow w.heap.size 127 8 v' (k+1) (bu (l.take k)++jN ⟨op,d,s,t,u,a',k',pl⟩)->(y.alloc (E #[Q N op,Q N d,Q N s,Q N t,Q N u,Q N a',Q Z k',Q N pl] 127)).grownBy w' (Value.slice a2 k cap2).ownBlock->
    Below w.heap.size w (w'.setCell ⟨O,0,U⟩ v')/\Bk (w'.setCell ⟨O,0,U⟩ v') O 35 #[v',Q N lo,Q N un]/\Bk (w'.setCell ⟨O,0,U⟩ v') (w.heap.size+1) 35 #[F U 0 0,Q N 0,Q N 0]/\(w'.setCell ⟨O,0,U⟩ v').ownsRow w.heap.size 127 8 v' (k+1) (bu (l.take (k+1)))):=
    D fun y hy w' v' h1 h2=>by rw[HT.out];exact CB hb hO hR (by omega) (by omega) hv hy h1 h2
   have HKO:Hid (∀ y,Below x.heap.size x y->∀ (w':World),(y.alloc (E #[Q N op,Q N d,Q N s,Q N t,Q N u,Q N a',Q Z k',Q N pl] 127)).grownBy w' (Value.slice a2 k cap2).ownBlock->Bk w' O 35 #[F a2 k cap2,Q N lo,Q N un]):=D fun y hy w' hg=>
    Bk.grown (Bk.alloc ((hy.block _ hO.lt).trans hO) _) hg fun e=>by
     obtain⟨cs,hcs⟩:=aU hv e.symm
     exact Bk.av hcs hO (by decide) rfl
   clear hO hR hv hb m2 ha HT
   go_region_law (first
    | (have hy9:=hy;refine kA rfl (.tmp 19) (.tmp 22) 33 rfl _ 64 Tryz.underlying33 wn rfl (by omega) (by omega) (HOW.out y hy) (by simp[Act.eval]) (jN ⟨op,d,s,t,u,a',k',pl⟩) rfl (oD _) y.heap.size (by simp[Act.eval]) (HNW.out y) (by omega) (HBS.out y hy) ?_;intro v' w' hown hgr hloc;have hko:=HKO.out y hy w' hgr;have ck0:w'.cell? ⟨O,0,U⟩=K (F a2 k cap2):=hko.cell 0;have cf0:=hko.free 0;obtain⟨a3,cap3,rfl,_,_,_⟩:=aT hown)
    | (go_simp;go_at_call 70;refine(HF.out _).mono ?_;rintro e y ⟨rfl,hy0⟩;have hy:Below x.heap.size x y:=eB hy0;have hyv:=HV0.out y hy;have hyo:=HV1.out y hy))
   all_goals (
    have HS:=D (HEND.out y hy w' _ hown hgr)
    clear HOW HNW HBS HEND HKO HV0 HV1 HF hgr hown hloc
    go_wp2
    obtain⟨s1,s2,s3,s4⟩:=HS.out
    go_roundw
    case rel=>exact⟨k+1,_,by go_num,by omega,s1,s2,s3,s4⟩
    case measure=>
     show l.length-((k:Int)+1).toNat<l.length-(k:Int).toNat
     omega)
  ·obtain rfl:k=l.length:=by omega
   have hki:¬ (l.length:Int)<l.length:=by omega
   rw[List.take_length] at hv
   obtain⟨a2,cap2,rfl,hcap2,hmax2,_⟩:=aT hv
   obtain⟨y0,y1,y2⟩:=hO.iD
   obtain⟨z0,z1,z2⟩:=hR.iD
   have zf:=hR.free
   clear ha
   go_wp2
   have h9:=eA hR (F a2 l.length cap2) (Q N lo) (Q N un)
   have b9:=bQ hb (by show w.heap.size<=w.heap.size+1;omega) (F a2 l.length cap2) (Q N lo) (Q N un)
   have o9:(dG wr (w.heap.size+1) (F a2 l.length cap2) (Q N lo) (Q N un)).ownsRow w.heap.size 127 8 (F a2 l.length cap2) l.length (bu l):=ar hv ((((ag.refl wr (fun b=>b=w.heap.size+1)).put (w.heap.size+1) 0 (F a2 l.length cap2) (.inl rfl)).put (w.heap.size+1) 1 (Q N lo) (.inl rfl)).put (w.heap.size+1) 2 (Q N un) (.inl rfl)) (fun b e e2=>by
    obtain⟨cs,hcs⟩:=aU hv e
    exact Bk.av hcs hR (by decide) e2)
   generalize hv9:(((wr.setCell ⟨w.heap.size+1,0,U⟩ (F a2 l.length cap2)).setCell ⟨w.heap.size+1,1,U⟩ (Q N lo)).setCell ⟨w.heap.size+1,2,U⟩ (Q N un))=v9
   replace hv9:dG wr (w.heap.size+1) (F a2 l.length cap2) (Q N lo) (Q N un)=v9:=hv9
   rw[hv9] at h9 b9 o9
   obtain⟨q0,q1,q2⟩:=h9.iD
   refine bodyPost_ret (v:=.agg #[F a2 l.length cap2,Q N lo,Q N un]) (by simp[results,Tryz.results33,go_sem,q0,q1,q2]) rfl ⟨F a2 l.length cap2,rfl,o9,b9⟩
theorem rH {w:World}{base:Nat}{t:TypeId}{sl:Value}{c:gu}(h:w.ownsRow base t 8 sl c.l.length (bu c.l)):Pv w (.agg #[sl,Q N c.lo,Q N c.un]) c:=by
 obtain⟨a,cap,rfl,h1,h2,_⟩:=aT h
 exact⟨a,cap,rfl,h1,h2,wC h,wk h⟩
theorem Cr (i j:aP)(w:World):(binOp .neq 127 (iv i) (iv j)).run Tryz.prog w=.ok (.bool (!dd i j)) w:=by
 unfold iv
 have hu:=Tryz.underlying127
 go_simp
 unfold dd
 repeat' split
 all_goals simp[*]
theorem lG (w:World)(t:TypeId)(xs ys:Array Value):Below w.heap.size w ((w.alloc (.cells xs t)).alloc (.cells ys t))/\Bk ((w.alloc (.cells xs t)).alloc (.cells ys t)) w.heap.size t xs/\Bk ((w.alloc (.cells xs t)).alloc (.cells ys t)) (w.heap.size+1) t ys:=by
 have h:=Bk.made (w.alloc (.cells xs t)) t ys
 rw[World.size_alloc] at h
 exact⟨((Below.refl _ _).alloc (L _) _).alloc (by simp) _,(Bk.made w t xs).alloc _,h⟩
theorem F4 (c d:gu)(v u:Value)(w:World)(hv:Pv w v c)(hu:Pv w u d)(hl:c.l.length<=100000):
 Calls Tryz.prog 31 #[v,u] w fun e w'=>e=.returned (.bool (jP c d))/\Below w.heap.size w w':=by
 obtain⟨a,ca,rfl,_,_,_,ha⟩:=hv
 obtain⟨b,cb,rfl,_,_,_,hb⟩:=hu
 have HE:Hid (jP c d=(decide (c.lo=d.lo) && (decide (c.un=d.un) && gA c.l d.l))):=D rfl
 obtain⟨bb,k1,k2⟩:=lG w 35 #[F a c.l.length ca,Q N c.lo,Q N c.un] #[F b d.l.length cb,Q N d.lo,Q N d.un]
 replace ha:=ha.below bb
 replace hb:=hb.below bb
 generalize jP c d=r at *
 obtain⟨l,lo,un⟩:=c
 obtain⟨m,lo2,un2⟩:=d
 simp only at HE bb k1 k2 ha hb hl ⊢
 go_enter Tryz.func31,Tryz.ntmps31
 go_upto_region 1 with fail
 generalize (w.alloc (E #[F a l.length ca,Q N lo,Q N un] 35)).alloc (E #[F b m.length cb,Q N lo2,Q N un2] 35)=x at *
 obtain⟨x0,x1,x2⟩:=k1.iD
 obtain⟨y0,y1,y2⟩:=k2.iD
 by_cases hlm:l.length=m.length
 case neg=>
  have hne:((l.length:Int) != m.length)=G:=by simp;omega
  have HS:=D (xB hlm)
  clear hlm
  go_wp2
  go_ret
  exact⟨by rw[HE.out,HS.out];simp,bb⟩
 case pos=>
  have hne:((l.length:Int) != m.length)=J:=by simp;omega
  by_cases h1:lo=lo2
  case neg=>
   have e1:(lo != lo2)=G:=by simpa using h1
   have H1:=D h1
   clear h1
   go_wp2
   go_ret
   exact⟨by rw[HE.out];simp[H1.out],bb⟩
  case pos=>
   by_cases h2:un=un2
   case neg=>
    have e1:(lo != lo2)=J:=by simpa using h1
    have e2:(un != un2)=G:=by simpa using h2
    have H2:=D h2
    clear h2 h1
    go_wp2
    go_ret
    exact⟨by rw[HE.out];simp[H2.out],bb⟩
   case pos=>
    have HS:Hid (r=gA (l.drop 0) (m.drop 0)):=D (by rw[HE.out];simp[h1,h2])
    have e1:(lo != lo2)=J:=by simpa using h1
    have e2:(un != un2)=J:=by simpa using h2
    clear HE h1 h2
    go_wp2
    go_loopw [4,30] (fun q i wr=>∃ k:Nat,q=.bool J/\k<=l.length/\i=Q N k/\Below x.heap.size x wr/\Hid (r=gA (l.drop k) (m.drop k))) (fun _ i _=>l.length-(intOf i).toNat)
    case atStart=>exact⟨0,rfl,Nat.zero_le _,rfl,Below.refl _ _,HS⟩
    case round=>
     obtain⟨k,rfl,hk,rfl,hbw,HR⟩:=hrel
     have z0:wr.cell? ⟨w.heap.size,0,U⟩=K (F a l.length ca):=(hbw.cell (p:=⟨w.heap.size,0,U⟩) k1.lt).trans x0
     have z1:wr.cell? ⟨w.heap.size+1,0,U⟩=K (F b m.length cb):=(hbw.cell (p:=⟨w.heap.size+1,0,U⟩) k2.lt).trans y0
     by_cases hlt:k<l.length
     ·have hki:(k:Int)<l.length:=by omega
      have hkj:(k:Int)<m.length:=by omega
      have HD:=D (uv l m k hlt (by omega))
      obtain⟨ba,oa,rfl,_,a0,a1,a2,a3,a4,a5,a6,a7⟩:=(ha.below hbw).at_ (List.getElem?_eq_getElem hlt)
      obtain⟨bb2,ob,rfl,_,b0,b1,b2,b3,b4,b5,b6,b7⟩:=(hb.below hbw).at_ (List.getElem?_eq_getElem (show k<m.length by omega))
      have hq:=Cr l[k] m[k]
      generalize l[k]=i at *
      generalize m[k]=j at *
      have HE:Hid (r=(dd i j && gA (l.drop (k+1)) (m.drop (k+1)))):=D (by rw[HR.out,HD.out])
      clear HR HD ha hb x0 x1 x2 y0 y1 y2
      obtain⟨i0,i1,i2,i3,i4,i5,i6,i7⟩:=i
      obtain⟨j0,j1,j2,j3,j4,j5,j6,j7⟩:=j
      simp only at a0 a1 a2 a3 a4 a5 a6 a7 b0 b1 b2 b3 b4 b5 b6 b7
      unfold iv at hq
      simp only at hq
      generalize dd ⟨i0,i1,i2,i3,i4,i5,i6,i7⟩ ⟨j0,j1,j2,j3,j4,j5,j6,j7⟩=t at *
      have hend:=bb.trans (hbw.mono bb.size)
      cases t with
      | true=>
       have HE2:Hid (r=gA (l.drop (k+1)) (m.drop (k+1))):=D (by rw[HE.out];simp)
       clear HE
       go_wp2
       go_quiet (fail)
       go_wp2
       go_roundw
       case rel=>exact⟨k+1,rfl,by omega,by go_num,Below.trans hbw ⟨rfl,rfl,rfl,L _,fun _ _=>rfl⟩,HE2⟩
       case measure=>
        show l.length-((k:Int)+1).toNat<l.length-(k:Int).toNat
        omega
      | false=>
       have HE2:Hid (r=J):=D (by rw[HE.out];simp)
       clear HE
       go_wp2
       go_quiet (fail)
       go_wp2
       go_ret
       exact⟨by rw[HE2.out];rfl,Below.trans hend ⟨rfl,rfl,rfl,L _,fun _ _=>rfl⟩⟩
     ·have hki:¬ (k:Int)<l.length:=by omega
      have HE2:Hid (r=G):=D (by rw[HR.out,List.drop_of_length_le (by omega),List.drop_of_length_le (by omega)];rfl)
      go_wp2
      go_ret
      exact⟨by rw[HE2.out];rfl,bb.trans (hbw.mono bb.size)⟩
end
section
open Go.Joins Go.ChangeShapes Go.WideShapes Go.ChangeAt Go.RowKit Go.Deep
section
variable {H:Type}{enc:TypeId×Value->H}{P:Program}{w:World}{base:Nat}{spare:Nat->Bool}{ki:Bool}
theorem xQ {r:Reach}{b0:Nat}{t:TypeId}{f0 f1 f2:Field}{v:Value}{d:DataW H}{p:List MemPlace}(hs:P.underlying t=K (.struct #[f0,f1,f2]))(hone:oneCellFields P #[f0,f1,f2]=G)(hC:P.cellsOf t=3)
 (hv:Value.okWide P w r b0 t v) (h:DataW.Trod enc P w base spare ki t v d p):
 ∃ (v0 v1 v2:Value) (y0 y1 y2:DataW H×List MemPlace) (n:Nat),v=.agg #[v0,v1,v2]/\DataW.trod enc P w base spare ki n f0.type [v0]=K y0/\DataW.trod enc P w base spare ki n f1.type [v1]=K y1/\DataW.trod enc P w base spare ki n f2.type [v2]=K y2:=by
 obtain⟨cs,rfl,hsz⟩:=okWide_struct hs hv
 obtain⟨l⟩:=cs
 match l,hsz.trans hC with
 | [c0,c1,c2],_=>
  obtain⟨fuel,hf⟩:=h
  obtain⟨xs,n,_,hx,_,hlen,hg⟩:=DataW.trod_struct hs hf
  obtain⟨o0,k0⟩:=hone_of hone 0 f0 rfl
  obtain⟨o1,k1⟩:=hone_of hone 1 f1 rfl
  obtain⟨o2,k2⟩:=hone_of hone 2 f2 rfl
  match xs,hlen with
  | [y0,y1,y2],_=>
   exact⟨c0,c1,c2,y0,y1,y2,n,rfl,by simpa [Value.cells,o0,k0] using hg 0 f0 rfl,by simpa [Value.cells,o1,k1] using hg 1 f1 rfl,by simpa [Value.cells,o2,k2] using hg 2 f2 rfl⟩
end
end
section
open Go.ChangeShapes Go.WideShapes Go.ChangeAt Go.RowKit
def Hb (xs:List Int)(pc:Int):List Value:=xs.map (Value.int .u32)++[Q N pc]
def cv (xs:List Int)(pc:Int):Value:=.agg (Hb xs pc).toArray
end
