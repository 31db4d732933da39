import Derived.Test.YtieiifdhdjhnoaaGreatDoorQInstB
import Derived.Test.YtieiifdhdjhnoaaGreatDoorQWdA
import Derived.Test.YtieiifdhdjhnoaaGreatDoorQMem
import Derived.Laws.LoneSync
import Derived.Laws.Pointers
import Derived.Laws.BitsAllLaws
import Derived.Deep.RegionHeld3
import Derived.Deep.Cut
import Derived.Deep.QuietTactic
import Derived.BigQuiet
import Derived.ProofKit
import Derived.OpenShut
import Derived.Deep.Fields
import Derived.Lib.SmallJoins
import Derived.Deep.Slices
import Derived.ChangeSame
import Derived.Test.YtieiifdhdjhnoaaGreatDoorTie
import Derived.Test.YtieiifdhdjhnoaaGreatDoorCards
import Derived.Lay
import Derived.Handed
import Derived.PinnedBridge
import Derived.SevenTiedAt
import Derived.Shelf.Vars
import Derived.Lib.LaidTab
import Derived.Stop.LaidErr
set_option linter.unusedVariables false
set_option maxHeartbeats 1000000
set_option maxRecDepth 100000
open Go.Value renaming int->Q,slice->E
open Go.IntKind renaming i64->N,u32->Z
open Option renaming none->U,some->K
open Bool renaming false->J,true->G
open Go.Obj renaming cells->D
open Go.Lib renaming hid->L
open Nat renaming le_refl->M
namespace Go.Proofs.YtieiifdhdjhnoaaGreatDoor
section
structure tU (X:Type)(n:Nat)(op:X->Nat->X)(done:X->Prop) where
 I:X->Prop
 mu:X->Nat
 en:X->Nat->Prop
 keep:∀ x t,t<n->I x->I (op x t)
 le:∀ x t,I x->t<n->mu (op x t)<=mu x
 lt:∀ x t,I x->t<n->en x t->mu (op x t)<mu x
 stays:∀ x t t',I x->t<n->t'<n->en x t->t'≠t->en (op x t') t\/mu (op x t')<mu x
 some_:∀ x,I x->¬ done x->∃ t,t<n/\en x t
def rh {X:Type}(n:Nat)(op:X->Nat->X)(x:X):X:=(List.range n).foldl op x
def bD {X:Type}(n:Nat)(op:X->Nat->X):Nat->X->X
 | 0,x=>x
 | j+1,x=>bD n op j (rh n op x)
section
variable {X:Type}{n:Nat}{op:X->Nat->X}{done:X->Prop}
theorem pz (P:tU X n op done):∀ (l:List Nat) (x:X),P.I x->(∀ t∈l,t<n)->P.I (l.foldl op x)
 | [],x,h,_=>h
 | t :: l,x,h,hl=>pz P l _ (P.keep x t (hl t (by simp)) h) fun t ht=>hl t (by simp[ht])
theorem wb (P:tU X n op done):∀ (l:List Nat) (x:X),P.I x->(∀ t∈l,t<n)->P.mu (l.foldl op x)<=P.mu x
 | [],x,h,_=>M _
 | t :: l,x,h,hl=>Nat.le_trans (wb P l _ (P.keep x t (hl t (by simp)) h) fun t ht=>hl t (by simp[ht])) (P.le x t h (hl t (by simp)))
theorem wa (P:tU X n op done){t:Nat}(ht:t<n):∀ (l:List Nat) (x:X),P.I x->(∀ t∈l,t<n)->t∈l->P.en x t->P.mu (l.foldl op x)<P.mu x
 | [],x,_,_,hm,_=>by simp at hm
 | y :: l,x,h,hl,hm,he=>by
  have hy:=hl y (by simp)
  have hI:=P.keep x y hy h
  have hle:=wb P l (op x y) hI fun t ht=>hl t (by simp[ht])
  by_cases e:y=t
  ·subst e
   exact Nat.lt_of_le_of_lt hle (P.lt x y h ht he)
  ·rcases P.stays x t y h ht hy he e with h1 | h1
   ·have hm2:t∈l:=by
     rcases List.mem_cons.1 hm with hm | hm
     ·exact absurd hm.symm e
     ·exact hm
    exact Nat.lt_of_lt_of_le (wa P ht l _ hI (fun t ht=>hl t (by simp[ht])) hm2 h1) (P.le x y h hy)
   ·exact Nat.lt_of_le_of_lt hle h1
theorem py (P:tU X n op done){x:X}(h:P.I x):P.I (rh n op x):=pz P _ x h fun t ht=>List.mem_range.1 ht
theorem ir (P:tU X n op done):∀ (j:Nat) (x:X),P.I x->P.I (bD n op j x)
 | 0,x,h=>h
 | j+1,x,h=>ir P j _ (py P h)
theorem xp (P:tU X n op done){x:X}(h:P.I x)(hi:¬ done x):P.mu (rh n op x)<P.mu x:=by
 obtain⟨t,ht,he⟩:=P.some_ x h hi
 exact wa P ht _ x h (fun t ht=>List.mem_range.1 ht) (List.mem_range.2 ht) he
theorem lI (P:tU X n op done):∀ (j:Nat) (x:X),P.I x->P.mu x<j->∃ i,i<=P.mu x/\done (bD n op i x)/\∀ i',i'<i->¬ done (bD n op i' x)
 | 0,x,_,hj=>by omega
 | j+1,x,h,hj=>by
  by_cases hi:done x
  ·exact⟨0,Nat.zero_le _,hi,fun i' h=>by omega⟩
  ·have hlt:=xp P h hi
   obtain⟨i,h1,h2,h3⟩:=lI P j (rh n op x) (py P h) (by omega)
   refine⟨i+1,by omega,h2,fun i' hi'=>?_⟩
   match i',hi' with
   | 0,_=>exact hi
   | i'+1,hi'=>exact h3 i' (by omega)
end
def bc (k:Lk)(r:Rn)(t:Nat):Rn:=dN k r ⟨if r.act t=2 then 2 else 3,t,J⟩
def kj (n:Nat)(r:Rn):Prop:=∀ t,t<n->r.act t=0
theorem gM {k:Lk}{r:Rn}{t:Nat}(h:r.act t=0):bc k r t=r:=by
 unfold bc dN
 simp only[h]
 split
 ·rfl
 ·simp[h]
abbrev G4 (k:Lk):=tU Rn k.n (bc k) (kj k.n)
structure mm where
 r:Rn
 left:Nat->Nat
 got:Nat
def bm (k:Lk)(x:mm)(t:Nat):mm:=
 if x.r.act t=0/\0<x.left t then { x with r:=dN k x.r ⟨1,t,J⟩,left:=bp x.left t (x.left t-1) }
 else { x with r:=bc k x.r t,got:=x.got+(if x.r.act t=2 then 1 else 0) }
def eY (n:Nat)(x:mm):Prop:=∀ t,t<n->x.r.act t=0/\x.left t=0
def dK (f:Nat->Nat):Nat->Nat
 | 0=>0
 | n+1=>dK f n+f n
theorem ia (f:Nat->Nat)(t v:Nat):∀ n,dK (bp f t v) n+(if t<n then f t else 0)=dK f n+(if t<n then v else 0)
 | 0=>rfl
 | n+1=>by
  have ih:=ia f t v n
  unfold dK
  by_cases e:n=t
  ·subst e
   rw[aK]
   simp at ih ⊢
   omega
  ·rw[ax e]
   by_cases h:t<n
   ·rw[if_pos h,if_pos h] at ih;rw[if_pos (by omega),if_pos (by omega)];omega
   ·rw[if_neg h,if_neg h] at ih;rw[if_neg (by omega),if_neg (by omega)];omega
theorem kT (f:Nat->Nat)(c:Nat):∀ n,(∀ t,t<n->f t<=c)->dK f n<=n*c
 | 0,_=>by simp[dK]
 | n+1,h=>by
  have h1:=kT f c n fun t ht=>h t (by omega)
  have h2:=h n (by omega)
  rw[Nat.add_mul,Nat.one_mul]
  unfold dK;omega
theorem gg {f g:Nat->Nat}:∀ n,(∀ t,t<n->f t=g t)->dK f n=dK g n
 | 0,_=>rfl
 | n+1,h=>by unfold dK;rw[gg n fun t ht=>h t (by omega),h n (by omega)]
def vU {k:Lk}(P:G4 k)(c:Nat)(keep1:∀ r t,t<k.n->P.I r->P.I (dN k r ⟨1,t,J⟩))(call:∀ r t,t<k.n->P.I r->r.act t=0->P.mu (dN k r ⟨1,t,J⟩)<=P.mu r+c)
 (idle:∀ r t,P.I r->t<k.n->P.en r t->r.act t≠0):tU mm k.n (bm k) (eY k.n) where
 I x:=P.I x.r
 mu x:=P.mu x.r+(c+1)*dK x.left k.n
 en x t:=(x.r.act t=0/\0<x.left t)\/P.en x.r t
 keep x t ht h:=by
  unfold bm
  split
  ·exact keep1 _ _ ht h
  ·exact P.keep _ _ ht h
 le x t h ht:=by
  unfold bm
  split
  ·rename_i hc
   have h1:=call x.r t ht h hc.1
   have h2:=ia x.left t (x.left t-1) k.n
   rw[if_pos ht,if_pos ht] at h2
   have h3:dK x.left k.n=dK (bp x.left t (x.left t-1)) k.n+1:=by omega
   simp only
   rw[h3,Nat.mul_add]
   omega
  ·have:=P.le x.r t h ht
   simp only
   omega
 lt x t h ht he:=by
  unfold bm
  split
  ·rename_i hc
   have h1:=call x.r t ht h hc.1
   have h2:=ia x.left t (x.left t-1) k.n
   rw[if_pos ht,if_pos ht] at h2
   have h3:dK x.left k.n=dK (bp x.left t (x.left t-1)) k.n+1:=by omega
   simp only
   rw[h3,Nat.mul_add]
   omega
  ·rename_i hc
   have:=P.lt x.r t h ht (by
    rcases he with he | he
    ·exact absurd he hc
    ·exact he)
   simp only
   omega
 stays x t t' h ht ht' he hne:=by
  unfold bm
  split
  ·rename_i hc
   right
   have h1:=call x.r t' ht' h hc.1
   have h2:=ia x.left t' (x.left t'-1) k.n
   rw[if_pos ht',if_pos ht'] at h2
   have h3:dK x.left k.n=dK (bp x.left t' (x.left t'-1)) k.n+1:=by omega
   simp only
   rw[h3,Nat.mul_add]
   omega
  ·rcases he with he | he
   ·left;left
    refine⟨?_,he.2⟩
    show (bc k x.r t').act t=0
    unfold bc
    rw[jG (by simp only;omega)]
    exact he.1
   ·rcases P.stays x.r t t' h ht ht' he hne with h1 | h1
    ·exact .inl (.inr h1)
    ·right
     simp only
     omega
 some_ x h hd:=by
  by_cases hi:kj k.n x.r
  ·have:∃ t,t<k.n/\0<x.left t:=by
    by_cases hh:∃ t,t<k.n/\0<x.left t
    ·exact hh
    ·exact absurd (fun t ht=>⟨hi t ht,by
      have:¬ 0<x.left t:=fun h0=>hh ⟨t,ht,h0⟩
      omega⟩) hd
   obtain⟨t,ht,h0⟩:=this
   exact⟨t,ht,.inl ⟨hi t ht,h0⟩⟩
  ·obtain⟨t,ht,he⟩:=P.some_ x.r h hi
   exact⟨t,ht,.inr he⟩
structure DF (k:Lk)(I:Rn->Prop):Prop where
 range:∀ r t,I r->t<k.n->r.act t=0\/r.act t=1\/r.act t=2\/r.act t=3
 call:∀ r t,I r->t<k.n->r.act t=0->(dN k r ⟨1,t,J⟩).act t=1\/(dN k r ⟨1,t,J⟩).act t=2
 a1:∀ r t,I r->t<k.n->r.act t=1->(bc k r t).act t=1\/(bc k r t).act t=2
 a2:∀ r t,I r->t<k.n->r.act t=2->(bc k r t).act t=0\/(bc k r t).act t=3
 a3:∀ r t,I r->t<k.n->r.act t=3->(bc k r t).act t=0\/(bc k r t).act t=3
def eT (x:mm)(t:Nat):Nat:=x.left t+(if x.r.act t=1\/x.r.act t=2 then 1 else 0)
theorem sK {k:Lk}{r:Rn}{t s:Nat}(h:s≠t):(bc k r t).act s=r.act s:=by
 unfold bc
 exact jG (by simp only;omega)
theorem xd {k:Lk}{I:Rn->Prop}(A:DF k I){x:mm}{t:Nat}(h:I x.r)(ht:t<k.n):(bm k x t).got+dK (eT (bm k x t)) k.n=x.got+dK (eT x) k.n:=by
 have pg:∀ y:mm,(∀ s,s≠t->eT y s=eT x s)->dK (eT y) k.n+eT x t=dK (eT x) k.n+eT y t:=fun y hy=>by
  have h1:=ia (eT x) t (eT y t) k.n
  rw[if_pos ht,if_pos ht] at h1
  rw[gg (f:=eT y) (g:=bp (eT x) t (eT y t)) k.n fun s _=>by
   by_cases e:s=t
   ·subst e;rw[aK]
   ·rw[ax e];exact hy s e]
  exact h1
 unfold bm
 split
 ·rename_i hc
  have hk:=pg { x with r:=dN k x.r ⟨1,t,J⟩,left:=bp x.left t (x.left t-1) } (fun s hs=>by
   unfold eT
   simp only
   rw[ax hs,jG (by simp only;omega)])
  have e1:eT { x with r:=dN k x.r ⟨1,t,J⟩,left:=bp x.left t (x.left t-1) } t=eT x t:=by
   unfold eT
   simp only
   have:=A.call x.r t h ht hc.1
   rw[aK,if_pos this,if_neg (by omega)]
   omega
  simp only at hk ⊢
  omega
 ·rename_i hc
  have hk:=pg { x with r:=bc k x.r t,got:=x.got+(if x.r.act t=2 then 1 else 0) } (fun s hs=>by
   unfold eT
   simp only
   rw[sK hs])
  have e1:eT { x with r:=bc k x.r t,got:=x.got+(if x.r.act t=2 then 1 else 0) } t+(if x.r.act t=2 then 1 else 0)=eT x t:=by
   unfold eT
   simp only
   rcases A.range x.r t h ht with ha | ha | ha | ha
   ·rw[gM ha,ha];simp
   ·have:=A.a1 x.r t h ht ha
    rw[if_pos this,if_pos (show x.r.act t=1\/x.r.act t=2 from .inl ha),if_neg (show ¬ x.r.act t=2 by omega)]
   ·have:=A.a2 x.r t h ht ha
    rw[if_neg (show ¬ ((bc k x.r t).act t=1\/(bc k x.r t).act t=2) by omega),if_pos (show x.r.act t=1\/x.r.act t=2 from .inr ha),if_pos ha]
   ·have:=A.a3 x.r t h ht ha
    rw[if_neg (show ¬ ((bc k x.r t).act t=1\/(bc k x.r t).act t=2) by omega),if_neg (show ¬ (x.r.act t=1\/x.r.act t=2) by omega),if_neg (show ¬ x.r.act t=2 by omega)]
  simp only at hk ⊢
  omega
theorem zT {k:Lk}{I:Rn->Prop}(A:DF k I)(keep0:∀ r t,t<k.n->I r->I (bc k r t))(keep1:∀ r t,t<k.n->I r->I (dN k r ⟨1,t,J⟩)){x:mm}(h:I x.r)(j:Nat)(hd:eY k.n (bD k.n (bm k) j x)):
 (bD k.n (bm k) j x).got=x.got+dK (eT x) k.n:=by
 have step:∀ (x:mm) t,t<k.n->I x.r->I (bm k x t).r/\(bm k x t).got+dK (eT (bm k x t)) k.n=x.got+dK (eT x) k.n:=fun x t ht h=>by
  refine⟨?_,xd A h ht⟩
  unfold bm
  split
  ·exact keep1 _ _ ht h
  ·exact keep0 _ _ ht h
 have fold:∀ (l:List Nat) (x:mm),(∀ t∈l,t<k.n)->I x.r->I (l.foldl (bm k) x).r/\(l.foldl (bm k) x).got+dK (eT (l.foldl (bm k) x)) k.n=x.got+dK (eT x) k.n:=by
  intro l
  induction l with
  | nil=>intro x _ h;exact⟨h,rfl⟩
  | cons t l ih=>
   intro x hl h
   obtain⟨h1,h2⟩:=step x t (hl t (by simp)) h
   obtain⟨h3,h4⟩:=ih (bm k x t) (fun t ht=>hl t (by simp[ht])) h1
   exact⟨h3,h4.trans h2⟩
 have turns:∀ (j:Nat) (x:mm),I x.r->(bD k.n (bm k) j x).got+dK (eT (bD k.n (bm k) j x)) k.n=x.got+dK (eT x) k.n:=by
  intro j
  induction j with
  | zero=>intro x _;rfl
  | succ j ih=>
   intro x h
   obtain⟨h1,h2⟩:=fold (List.range k.n) x (fun t ht=>List.mem_range.1 ht) h
   exact(ih _ h1).trans h2
 have:=turns j x h
 have h0:dK (eT (bD k.n (bm k) j x)) k.n=0:=by
  have:dK (eT (bD k.n (bm k) j x)) k.n<=k.n*0:=kT _ 0 _ fun t ht=>by
   obtain⟨d1,d2⟩:=hd t ht
   unfold eT
   rw[d2,d1]
   simp
  omega
 omega
theorem Ca {k:Lk}{P:G4 k}(A:DF k P.I)(keep1:∀ r t,t<k.n->P.I r->P.I (dN k r ⟨1,t,J⟩)){x:mm}(h:P.I x.r)(j:Nat)(hd:eY k.n (bD k.n (bm k) j x)):
 (bD k.n (bm k) j x).got=x.got+dK (eT x) k.n:=zT A P.keep keep1 h j hd
section
variable {k:Lk}{r:Rn}{t:Nat}
theorem jk (hb:r.bad=J)(ht:t<k.n)(ha:r.act t=1\/r.act t=3):bc k r t=bA { r with m:=(bC k r.m t J).1 } t (bC k r.m t J).2:=by
 unfold bc dN
 rw[if_neg (show ¬ r.act t=2 by omega)]
 simp only
 rw[if_neg (by rw[hb];simp;omega)]
 simp only[Int.toNat_natCast]
 rw[if_neg (by omega),if_neg (by omega),if_pos ha]
theorem rS (hb:r.bad=J)(ht:t<k.n)(ha:r.act t=2):bc k r t=bA { m:=(bn k r.m t G).1,act:=bp r.act t 3,l:=r.l++[⟨8,t,0⟩],bad:=r.bad } t (bn k r.m t G).2:=by
 unfold bc dN
 rw[if_pos ha]
 simp only
 rw[if_neg (by rw[hb];simp;omega)]
 simp only[Int.toNat_natCast]
 rw[if_neg (by omega),if_pos trivial,if_pos ha]
 rfl
theorem wX (hb:r.bad=J)(ht:t<k.n)(ha:r.act t=0):dN k r ⟨1,t,J⟩=bA { m:=(bn k r.m t J).1,act:=bp r.act t 1,l:=r.l++[⟨1,t,0⟩],bad:=r.bad } t (bn k r.m t J).2:=by
 unfold dN
 simp only
 rw[if_neg (by rw[hb];simp;omega)]
 simp only[Int.toNat_natCast]
 rw[if_pos trivial,if_pos ha]
 rfl
end
theorem jl {f g:Nat->Nat}{t:Nat}(hl:f t<g t)(hr:∀ t',t'≠t->f t'=g t'):∀ n,t<n->dK f n<dK g n
 | 0,h=>by omega
 | n+1,h=>by
  unfold dK
  by_cases e:n=t
  ·subst e
   have:dK f n=dK g n:=gg n fun s hs=>hr s (by omega)
   omega
  ·have:=jl hl hr n (by omega)
   have:=hr n e
   omega
theorem sX {k:Lk}{r:Rn}{t:Nat}(h:r.act t≠2):dN k r ⟨3,t,J⟩=bc k r t:=by unfold bc;rw[if_neg h]
theorem Ao {k:Lk}{r:Rn}{t:Nat}(h:r.act t=2):dN k r ⟨2,t,J⟩=bc k r t:=by unfold bc;rw[if_pos h]
structure BD (W:Rn->Nat->Nat)(En:Rn->Nat->Prop)(r r':Rn)(t:Nat):Prop where
 less:En r t->W r' t<W r t
 rest:∀ t',t'≠t->W r' t'=W r t'
 none_:¬ En r t->W r' t=W r t/\∀ t',t'≠t->En r t'->En r' t'
 a1:r.act t=1->r'.act t=1\/r'.act t=2
 a2:r.act t=2->r'.act t=0\/r'.act t=3
 a3:r.act t=3->r'.act t=0\/r'.act t=3
structure jC (k:Lk) where
 I:Rn->Prop
 W:Rn->Nat->Nat
 c:Nat
 En:Rn->Nat->Prop
 few:∀ r t,W r t<=c
 zero:∀ r t,r.act t=0->W r t=0
 range:∀ r t,I r->t<k.n->r.act t=0\/r.act t=1\/r.act t=2\/r.act t=3
 keep:∀ r o,I r->I (dN k r o)
 turned:∀ r t,I r->t<k.n->BD W En r (bc k r t) t
 called:∀ r t,I r->t<k.n->r.act t=0->((dN k r ⟨1,t,J⟩).act t=1\/(dN k r ⟨1,t,J⟩).act t=2)/\∀ t',t'≠t->W (dN k r ⟨1,t,J⟩) t'=W r t'
 idle:∀ r t,I r->t<k.n->En r t->r.act t≠0
 some_:∀ r,I r->¬ kj k.n r->∃ t,t<k.n/\En r t
def jC.fin {k:Lk}(S:jC k):G4 k where
 I:=S.I
 mu r:=dK (S.W r) k.n
 en:=S.En
 keep r t _ h:=S.keep r _ h
 le r t h ht:=by
  have T:=S.turned r t h ht
  by_cases he:S.En r t
  ·exact Nat.le_of_lt (jl (T.less he) T.rest k.n ht)
  ·refine Nat.le_of_eq (gg k.n fun s _=>?_)
   by_cases e:s=t
   ·subst e;exact(T.none_ he).1
   ·exact T.rest s e
 lt r t h ht he:=by
  have T:=S.turned r t h ht
  exact jl (T.less he) T.rest k.n ht
 stays r t t' h ht ht' he hne:=by
  have T:=S.turned r t' h ht'
  by_cases he':S.En r t'
  ·exact .inr (jl (T.less he') T.rest k.n ht')
  ·exact .inl ((T.none_ he').2 t (fun e=>hne e.symm) he)
 some_:=S.some_
section
variable {k:Lk}(S:jC k)
theorem rX:DF k S.fin.I where
 range r t h ht:=S.range r t h ht
 call r t h ht ha:=(S.called r t h ht ha).1
 a1 r t h ht ha:=(S.turned r t h ht).a1 ha
 a2 r t h ht ha:=(S.turned r t h ht).a2 ha
 a3 r t h ht ha:=(S.turned r t h ht).a3 ha
theorem mb (r:Rn)(t:Nat)(ht:t<k.n)(h:S.I r)(ha:r.act t=0):S.fin.mu (dN k r ⟨1,t,J⟩)<=S.fin.mu r+S.c:=by
 show dK (S.W (dN k r ⟨1,t,J⟩)) k.n<=dK (S.W r) k.n+S.c
 have h1:=ia (S.W r) t (S.W (dN k r ⟨1,t,J⟩) t) k.n
 rw[if_pos ht,if_pos ht] at h1
 rw[gg (f:=S.W (dN k r ⟨1,t,J⟩)) (g:=bp (S.W r) t (S.W (dN k r ⟨1,t,J⟩) t)) k.n fun s _=>by
  by_cases e:s=t
  ·subst e;rw[aK]
  ·rw[ax e];exact(S.called r t h ht ha).2 s e]
 have h2:=S.few (dN k r ⟨1,t,J⟩) t
 omega
theorem oO (r:Rn)(h:S.I r)(hr:∀ t,r.act t=0)(calls:Nat):
 ∃ i,i<=(S.c+1)*(k.n*calls)/\eY k.n (bD k.n (bm k) i ⟨r,fun _=>calls,0⟩)/\(∀ i',i'<i->¬ eY k.n (bD k.n (bm k) i' ⟨r,fun _=>calls,0⟩))/\
  (bD k.n (bm k) i ⟨r,fun _=>calls,0⟩).got=k.n*calls/\S.I (bD k.n (bm k) i ⟨r,fun _=>calls,0⟩).r:=by
 have keep1:∀ r t,t<k.n->S.fin.I r->S.fin.I (dN k r ⟨1,t,J⟩):=fun r t _ h=>S.keep r _ h
 let P:=vU S.fin S.c keep1 (fun r t ht h ha=>mb S r t ht h ha) (fun r t h ht he=>S.idle r t h ht he)
 have hI:P.I ⟨r,fun _=>calls,0⟩:=h
 have hmu:P.mu ⟨r,fun _=>calls,0⟩<=(S.c+1)*(k.n*calls):=by
  show dK (S.W r) k.n+(S.c+1)*dK (fun _=>calls) k.n<=_
  have e0:dK (S.W r) k.n<=k.n*0:=kT _ 0 _ fun t _=>by rw[S.zero r t (hr t)];omega
  have e1:=Nat.mul_le_mul_left (S.c+1) (kT (fun _=>calls) calls k.n (fun _ _=>M _))
  omega
 obtain⟨i,i1,i2,i3⟩:=lI P ((S.c+1)*(k.n*calls)+1) _ hI (by omega)
 refine⟨i,by omega,i2,i3,?_,ir P i _ hI⟩
 have h4:=Ca (P:=S.fin) (rX S) keep1 (x:=⟨r,fun _=>calls,0⟩) h i i2
 have h5:dK (eT ⟨r,fun _=>calls,0⟩) k.n=k.n*calls:=by
  have:∀ m,dK (eT ⟨r,fun _=>calls,0⟩) m=m*calls:=by
   intro m
   induction m with
   | zero=>simp[dK]
   | succ m ih=>
    unfold dK
    rw[ih,Nat.add_mul,Nat.one_mul]
    unfold eT
    simp only
    rw[hr m]
    rfl
  exact this k.n
 exact h4.trans (by rw[h5];exact Nat.zero_add _)
theorem rW (r:Rn)(h:S.I r):∃ i,i<=k.n*S.c/\kj k.n (bD k.n (bc k) i r)/\(∀ i',i'<i->¬ kj k.n (bD k.n (bc k) i' r))/\S.I (bD k.n (bc k) i r):=by
 have hmu:S.fin.mu r<=k.n*S.c:=kT _ _ _ fun t _=>S.few r t
 obtain⟨i,i1,i2,i3⟩:=lI S.fin (k.n*S.c+1) r h (by omega)
 exact⟨i,by omega,i2,i3,ir S.fin i r h⟩
end
def rE (r:Rn)(t:Nat):Prop:=r.act t≠0/\(aF r.l t=2->(ay r.l).q.head?=K (t:Int)/\(ay r.l).ow=-1)
def Fj (n:Nat)(r:Rn):Prop:=∀ t:Nat,t<n->r.act t=0->aF r.l t≠2/\dk (aF r.l t)=J
section
variable {n:Nat}{r:Rn}
theorem yh (h:dD n r.l)(ho:Fj n r)(hi:¬ kj n r):∃ t,t<n/\rE r t:=by
 obtain⟨m1,m2,m3⟩:=iW _ h
 have:∃ t,t<n/\r.act t≠0:=by
  by_cases hh:∃ t,t<n/\r.act t≠0
  ·exact hh
  ·exfalso
   refine hi fun t ht=>?_
   by_cases h0:r.act t=0
   ·exact h0
   ·exact absurd ⟨t,ht,h0⟩ hh
 obtain⟨t,ht,h0⟩:=this
 by_cases h2:aF r.l t=2
 ·cases hq:(ay r.l).q with
  | nil=>
   have:=(m1 t).2 h2
   rw[hq] at this;simp at this
  | cons x rest=>
   have hx:=m3 x (by rw[hq];simp)
   have ex:((x.toNat:Nat):Int)=x:=by omega
   by_cases hw:(ay r.l).ow=-1
   ·refine⟨x.toNat,by omega,fun e=>?_,fun _=>⟨by rw[hq];simp;omega,hw⟩⟩
    have:=(ho x.toNat (by omega) e).1
    rw[ex] at this
    exact this ((m1 x).1 (by rw[hq];simp))
   ·obtain⟨o1,o2,o3,_⟩:=eP _ h
    have hk:=(o1 (ay r.l).ow).2 ⟨rfl,by omega⟩
    have hlt:=(iR _ h _ (fun e=>by rw[e] at hk;simp[dk] at hk)).2
    have eo:(((ay r.l).ow.toNat:Nat):Int)=(ay r.l).ow:=by omega
    refine⟨(ay r.l).ow.toNat,by omega,fun e=>?_,fun e=>?_⟩
    ·have:=(ho _ (by omega) e).2
     rw[eo,hk] at this;cases this
    ·rw[eo] at e
     rw[e] at hk
     simp[dk] at hk
 ·exact⟨t,ht,h0,fun e=>absurd e h2⟩
end
def ku (n:Nat)(r:Rn)(t:Nat):Prop:=∀ t',t'<n->t'≠t->r.act t'=0
theorem oP {n:Nat}{r:Rn}{t:Nat}(h:dD n r.l)(ho:Fj n r)(hi:ku n r t)(ha:r.act t≠0):rE r t:=by
 refine⟨ha,fun hl=>?_⟩
 obtain⟨m1,m2,m3⟩:=iW _ h
 obtain⟨o1,o2,o3,_⟩:=eP _ h
 have hall:∀ x∈(ay r.l).q,x=(t:Int):=fun x hx=>by
  have hb:=m3 x hx
  have ex:((x.toNat:Nat):Int)=x:=by omega
  by_cases e:x.toNat=t
  ·omega
  ·have:=(ho x.toNat (by omega) (hi x.toNat (by omega) e)).1
   rw[ex] at this
   exact absurd ((m1 x).1 hx) this
 constructor
 ·cases hq:(ay r.l).q with
  | nil=>
   have:=(m1 t).2 hl
   rw[hq] at this;simp at this
  | cons x rest=>rw[hall x (by rw[hq];simp)];rfl
 ·by_cases hh:(ay r.l).ow=-1
  ·exact hh
  ·exfalso
   have hk:=(o1 (ay r.l).ow).2 ⟨rfl,by omega⟩
   have hlt:=(iR _ h _ (fun e=>by rw[e] at hk;simp[dk] at hk)).2
   have eo:(((ay r.l).ow.toNat:Nat):Int)=(ay r.l).ow:=by omega
   by_cases e:(ay r.l).ow.toNat=t
   ·rw[show (ay r.l).ow=(t:Int) by omega,hl] at hk
    simp[dk] at hk
   ·have:=(ho _ (by omega) (hi _ (by omega) e)).2
    rw[eo,hk] at this;cases this
def bt (k:Lk)(t:Nat):Nat->Rn->Rn
 | 0,r=>r
 | j+1,r=>bt k t j (dN k r ⟨3,t,J⟩)
section
variable {k:Lk}(S:jC k)
theorem ji {n:Nat}{r:Rn}{t:Nat}{kd:Int}(h:ku n r t):ku n (dN k r ⟨kd,t,J⟩) t:=fun t' ht' hne=>by
 rw[jG (by simp only;omega)]
 exact h t' ht' hne
theorem pG {r:Rn}{t:Nat}(h:r.act t=0\/r.act t=2):dN k r ⟨3,t,J⟩=r:=by
 unfold dN
 simp only
 split
 ·rfl
 ·simp only[Int.toNat_natCast]
  rw[if_neg (by omega),if_neg (by omega),if_neg (by omega)]
theorem mo (V:Rn->Nat->Nat)(c b:Nat)(h0:∀ r t,S.I r->t<k.n->ku k.n r t->V r t<=c)(h1:∀ r t,S.I r->t<k.n->r.act t=1->b<V r t)(h2:∀ r t,S.I r->t<k.n->r.act t=2->V r t<=b)(h3:∀ r t,S.I r->t<k.n->r.act t=3->0<V r t)
 (hless:∀ r t,S.I r->t<k.n->ku k.n r t->r.act t≠0->V (bc k r t) t<V r t) (r:Rn) (h:S.I r) (t:Nat) (ht:t<k.n) (hi:kj k.n r):
 let r1:=bt k t (c-b) (dN k r ⟨1,t,J⟩)
 let r2:=bt k t (b-1) (dN k r1 ⟨2,t,J⟩)
 r1.act t=2/\r2.act t=0/\S.I r2:=by
 have lock:∀ (j:Nat) (r:Rn),S.I r->ku k.n r t->((r.act t=1/\V r t<=b+j)\/r.act t=2)->(bt k t j r).act t=2/\S.I (bt k t j r)/\ku k.n (bt k t j r) t:=by
  intro j
  induction j with
  | zero=>
   intro r h ha hc
   rcases hc with hc | hc
   ·have:=h1 r t h ht hc.1
    omega
   ·exact⟨hc,h,ha⟩
  | succ j ih=>
   intro r h ha hc
   refine ih _ (S.keep r _ h) (ji ha) ?_
   rcases hc with hc | hc
   ·have T:=S.turned r t h ht
    rw[sX (by omega)]
    have:=hless r t h ht ha (by omega)
    rcases T.a1 hc.1 with e | e
    ·exact .inl ⟨e,by omega⟩
    ·exact .inr e
   ·rw[pG (.inr hc)]
    exact .inr hc
 have unlock:∀ (j:Nat) (r:Rn),S.I r->ku k.n r t->((r.act t=3/\V r t<=j)\/r.act t=0)->(bt k t j r).act t=0/\S.I (bt k t j r):=by
  intro j
  induction j with
  | zero=>
   intro r h ha hc
   rcases hc with hc | hc
   ·have:=h3 r t h ht hc.1
    omega
   ·exact⟨hc,h⟩
  | succ j ih=>
   intro r h ha hc
   refine ih _ (S.keep r _ h) (ji ha) ?_
   rcases hc with hc | hc
   ·have T:=S.turned r t h ht
    rw[sX (by omega)]
    have:=hless r t h ht ha (by omega)
    rcases T.a3 hc.1 with e | e
    ·exact .inr e
    ·exact .inl ⟨e,by omega⟩
   ·rw[pG (.inl hc)]
    exact .inr hc
 intro r1 r2
 have hal:ku k.n r t:=fun t' ht' _=>hi t' ht'
 have hcall:=(S.called r t h ht (hi t ht)).1
 have hI1:=S.keep r ⟨1,t,J⟩ h
 have hc1:((dN k r ⟨1,t,J⟩).act t=1/\V (dN k r ⟨1,t,J⟩) t<=b+(c-b))\/(dN k r ⟨1,t,J⟩).act t=2:=by
  rcases hcall with e | e
  ·left
   have:=h0 (dN k r ⟨1,t,J⟩) t hI1 ht (ji hal)
   exact⟨e,by omega⟩
  ·exact .inr e
 obtain⟨g1,g2,g3⟩:=lock (c-b) _ hI1 (ji hal) hc1
 have T:=S.turned r1 t g2 ht
 have hl:=hless r1 t g2 ht g3 (by show r1.act t≠0;rw[show r1.act t=2 from g1];decide)
 have hb:=h2 r1 t g2 ht g1
 have e5:dN k r1 ⟨2,t,J⟩=bc k r1 t:=Ao g1
 obtain⟨u1,u2⟩:=unlock (b-1) (dN k r1 ⟨2,t,J⟩) (S.keep _ _ g2) (ji g3) (by
  rw[e5]
  rcases T.a2 g1 with e | e
  ·exact .inr e
  ·exact .inl ⟨e,by omega⟩)
 exact⟨g1,u1,u2⟩
theorem qw (b:Nat)(h1:∀ r t,S.I r->t<k.n->r.act t=1->b<S.W r t)(h2:∀ r t,S.I r->t<k.n->r.act t=2->S.W r t<=b)(h3:∀ r t,S.I r->t<k.n->r.act t=3->0<S.W r t)
 (en:∀ r t,S.I r->t<k.n->ku k.n r t->r.act t≠0->S.En r t) (r:Rn) (h:S.I r) (t:Nat) (ht:t<k.n) (hi:kj k.n r):
 let r1:=bt k t (S.c-b) (dN k r ⟨1,t,J⟩)
 let r2:=bt k t (b-1) (dN k r1 ⟨2,t,J⟩)
 r1.act t=2/\r2.act t=0/\S.I r2:=
 mo S S.W S.c b (fun r t _ _ _=>S.few r t) h1 h2 h3 (fun r t h ht hal ha=>(S.turned r t h ht).less (en r t h ht hal ha)) r h t ht hi
end
theorem oN {k:Lk}{x:mm}(h:eY k.n x):rh k.n (bm k) x=x:=by
 unfold rh
 have one:∀ t,t<k.n->bm k x t=x:=fun t ht=>by
  obtain⟨h1,h2⟩:=h t ht
  unfold bm
  rw[if_neg (by rw[h2];simp),gM h1,if_neg (by omega)]
  rfl
 have:∀ l:List Nat,(∀ t∈l,t<k.n)->l.foldl (bm k) x=x:=by
  intro l
  induction l with
  | nil=>intro _;rfl
  | cons t l ih=>
   intro hl
   rw[List.foldl_cons,one t (hl t (by simp))]
   exact ih fun t ht=>hl t (by simp[ht])
 exact this _ fun t ht=>List.mem_range.1 ht
theorem qt (c n calls:Nat)(hc:c<=99):(c+1)*(n*calls)<=100*(n+1)*(calls+1):=by
 have h1:n*calls<=(n+1)*(calls+1):=Nat.mul_le_mul (by omega) (by omega)
 have h2:(c+1)*(n*calls)<=100*((n+1)*(calls+1)):=Nat.mul_le_mul (by omega) h1
 rw[Nat.mul_assoc]
 exact h2
def DC (c:Nat)(ms:List Int):Prop:=(∀ x∈ms,0<=x/\x<5)/\ms.length<=c
theorem kM (c:Nat):DC c []:=⟨by simp,by simp⟩
theorem qO {self:Int}{l:List aU}(hl:∀ i∈l,Fr i):∀ (n:Nat) (xs:List Int) (pc:Int) (ms:List Int),(∀ x∈ms,0<=x/\x<5)->(∀ x∈(iN self l n xs pc ms).ms,0<=x/\x<5)/\(iN self l n xs pc ms).ms.length<=ms.length+n
 | n,xs,pc,ms,h=>by
  by_cases h9:pc<0\/l.length<=pc
  ·rw[nW h9];exact⟨h,by simp⟩
  ·obtain⟨k,rfl⟩:∃ k:Nat,pc=k:=⟨pc.toNat,by omega⟩
   have hk:=List.getElem?_eq_getElem (l:=l) (i:=k) (by omega)
   have hi:=hl _ (List.getElem_mem (l:=l) (n:=k) (by omega))
   generalize l[k]=i at hk hi
   by_cases hm:fp i.op=G
   ·rw[nX hk hm];exact⟨h,by simp⟩
   ·have hm':fp i.op=J:=by simpa using hm
    match n with
    | 0=>rw[lE hk hm'];exact⟨h,by simp⟩
    | n+1=>
     by_cases h13:i.op=13
     ·rw[lG hk h13];exact⟨h,by simp⟩
     ·rw[lF hk hm' h13]
      by_cases h12:i.op=12
      ·rw[if_pos h12]
       have h2:=qO (self:=self) hl n (oV xs i self) (tT xs k i) (ms++[i.k]) (fun x hx=>by
        rcases List.mem_append.1 hx with hx | hx
        ·exact h x hx
        ·simp at hx;subst hx
         exact⟨hi.k.1,by have:=hi.mark (.inl h12);omega⟩)
       exact⟨h2.1,by have:=h2.2;simp only[List.length_append,List.length_cons,List.length_nil] at this;omega⟩
      ·rw[if_neg h12]
       have h2:=qO (self:=self) hl n (oV xs i self) (tT xs k i) ms h
       exact⟨h2.1,by have:=h2.2;omega⟩
section
variable {k:Lk}{m:Mc}{t:Nat}
theorem mP (h:gH k)(c:zE)(o:Ot):DC 256 (iD k m t c o).2.ms:=by
 have h2:=qO (self:=(t:Int)) h.ok 256 c.xs c.pc [] (by simp)
 exact⟨h2.1,by have:=h2.2;simpa [iD] using this⟩
theorem kQ (h:gH k)(u:Bool):DC 256 (bn k m t u).2.ms:=mP h _ _
theorem qN (h:gH k)(late:Bool):DC 256 (bC k m t late).2.ms:=by
 unfold bC
 simp only
 split
 ·exact kM _
 ·split
  ·exact mP h _ _
  ·split
   ·split
    ·exact kM _
    ·exact mP h _ _
   ·split
    ·exact kM _
    ·unfold oY
     simp only
     repeat' split
     all_goals first | exact mP h _ _ | exact kM _
end
theorem oB (r:Rn)(t:Nat)(o:Ot):(bA r t o).l.length<=r.l.length+o.ms.length+1:=by
 unfold bA eU enter
 simp only
 repeat' split
 all_goals (simp only[List.length_append,List.length_map,List.length_cons,List.length_nil];omega)
theorem ka {k:Lk}(h:gH k)(r:Rn)(o:ki):(dN k r o).l.length<=r.l.length+258:=by
 unfold dN
 split
 ·omega
 ·simp only
  split
  ·split
   ·have h1:=oB { (enter { r with act:=bp r.act o.t.toNat 1 } 1 o.t.toNat) with m:=(bn k r.m o.t.toNat J).1 } o.t.toNat (bn k r.m o.t.toNat J).2
    have h2:=(kQ h (m:=r.m) (t:=o.t.toNat) J).2
    simp only[enter,List.length_append,List.length_cons,List.length_nil] at h1 ⊢
    omega
   ·omega
  ·split
   ·split
    ·have h1:=oB { (enter { r with act:=bp r.act o.t.toNat 3 } 8 o.t.toNat) with m:=(bn k r.m o.t.toNat G).1 } o.t.toNat (bn k r.m o.t.toNat G).2
     have h2:=(kQ h (m:=r.m) (t:=o.t.toNat) G).2
     simp only[enter,List.length_append,List.length_cons,List.length_nil] at h1 ⊢
     omega
    ·omega
   ·split
    ·have h1:=oB { r with m:=(bC k r.m o.t.toNat o.late).1 } o.t.toNat (bC k r.m o.t.toNat o.late).2
     have h2:=(qN h (m:=r.m) (t:=o.t.toNat) o.late).2
     simp only at h1 ⊢
     omega
    ·omega
theorem nV {k:Lk}(h:gH k):∀ (l:List ki) (r:Rn),(fo k r l).l.length<=r.l.length+258*l.length
 | [],r=>by simp[fo]
 | o :: l,r=>by
  have h1:=nV h l (dN k r o)
  have h2:=ka h r o
  unfold fo at *
  simp only[List.foldl_cons,List.length_cons]
  omega
end
section
open Go.ChangeShapes Go.WideShapes Go.ChangeAt Go.RowKit
def Gy (w:World)(a:Option Addr)(l:List aU):Prop:=
 0<l.length->∃ b off,a=K ⟨b,off,U⟩/\b<w.heap.size/\∀ k i,l[k]?=K i->∀ j,j<8->w.cell? ⟨b,off+k*8+j,U⟩=(jJ i)[j]?
def Pv (w:World)(v:Value)(c:gp):Prop:=∃ a cap,v=.agg #[E a c.l.length cap,Q N c.lo,Q N c.un]/\c.l.length<=cap/\cap<=maxLen/\(a=U->cap=0)/\Gy w a c.l
section
variable {w w':World}{a:Option Addr}{l:List aU}{v:Value}{c:gp}
theorem Gy.below (h:Gy w a l)(hb:Below w.heap.size w w'):Gy w' a l:=by
 intro h0
 obtain⟨b,off,e,hlt,hc⟩:=h h0
 exact⟨b,off,e,Nat.lt_of_lt_of_le hlt hb.size,fun k i hk j hj=>(hb.cell (p:=⟨b,off+k*8+j,U⟩) hlt).trans (hc k i hk j hj)⟩
theorem Pv.below (h:Pv w v c)(hb:Below w.heap.size w w'):Pv w' v c:=by
 obtain⟨a,cap,e,h1,h2,h4,h3⟩:=h
 exact⟨a,cap,e,h1,h2,h4,h3.below hb⟩
theorem vW {t:TypeId}{base cap:Nat}(h:w.ownsRow base t 8 (E a l.length cap) l.length (bu l)):Gy w a l:=by
 intro h0
 obtain⟨a2,cap2,e,_,_,hg⟩:=aX h
 simp only[Value.slice.injEq] at e
 obtain⟨rfl,-,rfl⟩:=e
 obtain⟨g,rfl,_,_,hlt,_,hc⟩:=hg h0
 refine⟨g,0,rfl,hlt,fun k i hk j hj=>?_⟩
 have hkl:=(List.getElem?_eq_some_iff.1 hk).1
 rw[Nat.zero_add,hc _ (by omega),sR hk hj]
theorem wh {t:TypeId}{base n cap size:Nat}{xs:List Value}(h:w.ownsRow base t size (E a n cap) n xs)(e:a=U):cap=0:=by
 subst e
 rcases h.2 with ⟨h,_⟩ | ⟨g,c,cur,h,_⟩
 ·injection h
 ·injection h with h;cases h
theorem Pg.pv {base:Nat}(h:Pg w base v c):Pv w v c:=by
 obtain⟨sl,rfl,ho⟩:=h
 obtain⟨a,cap,rfl,h1,h2,_⟩:=aX ho
 exact⟨a,cap,rfl,h1,h2,wh ho,vW ho⟩
theorem Gy.at_ (h:Gy w a l){k:Nat}{i:aU}(hk:l[k]?=K i):∃ b off,a=K ⟨b,off,U⟩/\b<w.heap.size/\w.cell? ⟨b,off+k*8,U⟩=K (Q N i.op)/\w.cell? ⟨b,off+k*8+1,U⟩=K (Q N i.d)/\w.cell? ⟨b,off+k*8+2,U⟩=K (Q N i.s)/\w.cell? ⟨b,off+k*8+3,U⟩=K (Q N i.t)/\
 w.cell? ⟨b,off+k*8+4,U⟩=K (Q N i.u)/\w.cell? ⟨b,off+k*8+5,U⟩=K (Q N i.a)/\w.cell? ⟨b,off+k*8+6,U⟩=K (Q Z i.k)/\w.cell? ⟨b,off+k*8+7,U⟩=K (Q N i.pl):=by
 have hkl:=(List.getElem?_eq_some_iff.1 hk).1
 obtain⟨b,off,e,hlt,hc⟩:=h (by omega)
 exact⟨b,off,e,hlt,hc k i hk 0 (by omega),hc k i hk 1 (by omega),hc k i hk 2 (by omega),hc k i hk 3 (by omega),hc k i hk 4 (by omega),hc k i hk 5 (by omega),hc k i hk 6 (by omega),hc k i hk 7 (by omega)⟩
end
def gA:List aU->List aU->Bool
 | [],[]=>G
 | i :: l,j :: m=>dg i j && gA l m
 | _,_=>J
theorem lC:∀ l m:List aU,gA l m=G↔l=m
 | [],[]=>by simp[gA]
 | [],_ :: _=>by simp[gA]
 | _ :: _,[]=>by simp[gA]
 | i :: l,j :: m=>by simp[gA,Di,lC l m]
theorem xh {l m:List aU}(h:l.length≠m.length):gA l m=J:=by
 rw[Bool.eq_false_iff]
 intro e
 exact h (by rw[(lC l m).1 e])
def jL (c d:gp):Bool:=decide (c.lo=d.lo) && (decide (c.un=d.un) && gA c.l d.l)
theorem xg (c d:gp):jL c d=G↔c=d:=by
 obtain⟨l,lo,un⟩:=c
 obtain⟨m,lo2,un2⟩:=d
 simp[jL,lC]
 constructor
 ·rintro⟨h1,h2,h3⟩;exact⟨h3,h1,h2⟩
 ·rintro⟨h1,h2,h3⟩;exact⟨h2,h3,h1⟩
theorem uh (l m:List aU)(k:Nat)(hk:k<l.length)(hm:k<m.length):gA (l.drop k) (m.drop k)=(dg l[k] m[k] && gA (l.drop (k+1)) (m.drop (k+1))):=by
 rw[List.drop_eq_getElem_cons hk,List.drop_eq_getElem_cons hm,gA]
theorem dQ.here {k:IntKind}{w:World}{a:Option Addr}{xs:List Int}(h:dQ k w a xs){i:Nat}(hi:i<xs.length):∃ b off,a=K ⟨b,off,U⟩/\w.cell? ⟨b,off+i,U⟩=K (.int k (aD xs i)):=by
 obtain⟨b,off,e,_,hc⟩:=h (by omega)
 exact⟨b,off,e,hc i hi⟩
theorem dQ.grown {k:IntKind}{w w':World}{a:Option Addr}{xs:List Int}(h:dQ k w a xs)(hb:w.grownBy w' U):dQ k w' a xs:=by
 intro h0
 obtain⟨b,off,e,hlt,hc⟩:=h h0
 exact⟨b,off,e,Nat.lt_of_lt_of_le hlt hb.size,fun i hi=>((aQ hb).cell (p:=⟨b,off+i,U⟩) hlt).trans (hc i hi)⟩
end
section
def GK:List aU:=[⟨11,1,0,0,0,0,0,0⟩,⟨16,2,1,0,0,1,0,0⟩,⟨5,3,1,0,0,0,1,0⟩,⟨7,3,3,2,0,0,0,0⟩,⟨18,4,0,3,0,0,0,0⟩,⟨12,0,0,0,0,0,1,0⟩,⟨4,5,4,0,0,0,1,0⟩,⟨6,6,4,0,0,0,1,0⟩,⟨21,4,6,5,0,1,1,-1⟩,⟨12,0,0,0,0,0,2,0⟩,⟨13,0,0,0,0,0,1,0⟩,
 ⟨1,3,0,0,0,0,1,0⟩,⟨8,0,2,0,0,0,0,14⟩,⟨1,3,0,0,0,0,0,0⟩,⟨17,0,1,3,0,1,0,0⟩,⟨12,0,0,0,0,0,4,0⟩,⟨13,0,0,0,0,0,2,0⟩]
def gQ (n:Nat):Lk:=⟨GK,0,11,[1,((n+1:Nat):Int)],0,n⟩
def gc (a b c d e f pc:Int):zE:=⟨[0,a,b,c,d,e,f,0],pc⟩
def DY (F:Nat->Int)(n:Nat):List Int:=(List.range (n+1)).map F
theorem vO {F:Nat->Int}{n i:Nat}(x:Int)(hi:i<=n):aD (x :: DY F n) (1+i)=F i:=by
 unfold aD DY
 rw[Nat.add_comm 1 i]
 simp[show i<n+1 by omega]
theorem wG {F:Nat->Int}{n i:Nat}(x v:Int):(x :: DY F n).set (1+i) v=x :: DY (bp F i v) n:=by
 rw[Nat.add_comm 1 i,List.set_cons_succ]
 congr 1
 apply List.ext_getElem?
 intro j
 unfold DY
 rw[List.getElem?_set]
 simp only[List.getElem?_map,List.length_map,List.length_range]
 by_cases e:i=j
 ·subst e
  by_cases h:i<n+1 <;> simp[h,bp]
 ·by_cases h:j<n+1 <;> simp[e,h,bp]
  intro e2;exact absurd e2.symm e
theorem qW {n:Nat}(h:n<=64){b:Int}(h0:0<=b)(h1:b<=n):gC [1,((n+1:Nat):Int)] 1 b=K (1+b.toNat):=by
 have hb:b % 4096=b:=by omega
 unfold gC
 rw[if_pos]
 ·rw[hb];rfl
 ·refine⟨by omega,by simp,?_⟩
  show b % 4096<((aD [1,((n+1:Nat):Int)] 1).toNat:Int)
  rw[hb]
  show b<((((n+1:Nat):Int)).toNat:Int)
  omega
theorem Gd {x:Int}(h0:0<=x):nF x 1=x % 2:=by
 unfold nF
 have e1:((1:Int)).toNat=2 ^ 1-1:=rfl
 rw[e1,Nat.and_two_pow_sub_one_eq_mod]
 omega
theorem GT {x y:Int}(h0:0<=x)(h1:x<1000)(hy:y=0\/y=1):Dw (x*2 ^ (1:Int).toNat % 4294967296) y=2*x+y:=by
 have e:x*2 ^ (1:Int).toNat % 4294967296=2*x:=by
  show x*2 ^ 1 % 4294967296=_
  omega
 rw[e]
 unfold Dw
 obtain⟨k,rfl⟩:=Int.eq_ofNat_of_zero_le h0
 have e2:((2:Int)*(k:Int)).toNat=k*2 ^ 1:=by omega
 rw[e2]
 rcases hy with rfl|rfl
 ·show (((k*2 ^ 1) ||| 0:Nat):Int)=_
  rw[Nat.or_zero];omega
 ·show (((k*2 ^ 1) ||| 1:Nat):Int)=_
  rw[nat_join1 (k*2 ^ 1) 1 (by omega) (by omega)]
  omega
section
variable {n t:Nat}{m:Mc}{a b c d e f pc x:Int}{late:Bool}
theorem wE (h:m.cs t=gc a b c d e f pc):bn (gQ n) m t J=({ m with cs:=bp m.cs t (gc t b c d e f 1) },⟨[],-1,-1,J,J,0⟩):=by
 unfold bn;rw[h];rfl
theorem uT (h:m.cs t=gc a b c d e f pc)(hb:b=0):bn (gQ n) m t G=({ m with cs:=bp m.cs t (gc a b 1 d e f 14) },⟨[],-1,-1,J,J,0⟩):=by
 subst hb
 unfold bn;rw[h];rfl
theorem uS (h:m.cs t=gc a b c d e f pc)(hb:b=1):bn (gQ n) m t G=({ m with cs:=bp m.cs t (gc a b 0 d e f 14) },⟨[],-1,-1,J,J,0⟩):=by
 subst hb
 unfold bn;rw[h];rfl
theorem Gr (hn:n<=64)(h:m.cs t=gc t b c d e f 1)(ht:t<n):bC (gQ n) m t late=({ m with cs:=bp m.cs t (gc t (aD m.ws (1+t)) (Dw ((t:Int)*2 ^ (1:Int).toNat % 4294967296) (aD m.ws (1+t))) d e f 4) },⟨[],-1,((1+t:Nat):Int),J,J,0⟩):=by
 have hf:=qW hn (b:=(t:Int)) (by omega) (by omega)
 rw[Int.toNat_natCast] at hf
 obtain⟨ws,pn,cs⟩:=m
 simp only at h
 rw[kw (i:=⟨16,2,1,0,0,1,0,0⟩) (a:=1+t) (by simp only[h];rfl) (by decide) (by decide) (by simp only[h];exact hf)]
 simp only[h]
 generalize 1+t=g
 show _=_
 kernel_rfl
theorem Gq {ys:List Int}(h:m.cs t=gc a b c d e f 4)(hw:m.ws=x :: ys):bC (gQ n) m t late=({ m with ws:=c :: ys,cs:=bp m.cs t (gc a b c x (nF x 1) (x / 2 ^ (1:Int).toNat) 8) },⟨[1],-1,0,G,J,0⟩):=by
 obtain⟨ws,pn,cs⟩:=m
 simp only at h hw
 subst hw
 rw[kw (i:=⟨18,4,0,3,0,0,0,0⟩) (a:=0) (by simp only[h];rfl) (by decide) (by decide) (by simp only[h];rfl)]
 simp only[h]
 kernel_rfl
theorem Gp (hn:n<=64)(h:m.cs t=gc a b c d e f 8)(h0:0<=f)(h1:f<=n):bC (gQ n) m t late =
 if aD m.ws (1+f.toNat)=e then ({ m with cs:=bp m.cs t (gc a b c (aD m.ws (1+f.toNat)) e f 8) },⟨[],-1,((1+f.toNat:Nat):Int),J,G,0⟩)
 else ({ m with cs:=bp m.cs t (gc a b c (aD m.ws (1+f.toNat)) e f 10) },⟨[2],1,((1+f.toNat:Nat):Int),J,J,0⟩):=by
 have hf:=qW hn h0 h1
 obtain⟨ws,pn,cs⟩:=m
 simp only at h
 rw[kw (i:=⟨21,4,6,5,0,1,1,-1⟩) (a:=1+f.toNat) (by simp only[h];rfl) (by decide) (by decide) (by simp only[h];exact hf)]
 simp only[h]
 generalize 1+f.toNat=g
 have e9:∀ (A B C:Mc×Ot),(if (decide (aD ws g=e) != decide ((1:Int)=1))=G then B else if late=J\/(-1:Int)<0 then A else C)=if aD ws g=e then A else B:=fun A B C=>by
  by_cases e:aD ws g=e <;> simp[e]
 refine Eq.trans ?_ (e9 _ _ (iD (gQ n) ⟨ws,pn,cs⟩ t (gc a b c (aD ws g) e f (-1)) ⟨[],0,g,J,J,0⟩))
 kernel_rfl
theorem DW (hn:n<=64)(h:m.cs t=gc t b c d e f 14)(ht:t<n):bC (gQ n) m t late=({ m with ws:=m.ws.set (1+t) c,cs:=bp m.cs t (gc t b c d e f 16) },⟨[4],2,((1+t:Nat):Int),G,J,0⟩):=by
 have hf:=qW hn (b:=(t:Int)) (by omega) (by omega)
 rw[Int.toNat_natCast] at hf
 obtain⟨ws,pn,cs⟩:=m
 simp only at h
 rw[kw (i:=⟨17,0,1,3,0,1,0,0⟩) (a:=1+t) (by simp only[h];rfl) (by decide) (by decide) (by simp only[h];exact hf)]
 simp only[h]
 generalize 1+t=g
 show _=_
 kernel_rfl
end
def pg (F:Nat->Int)(x:Int):Int:=2*x+F x.toNat
def mG (F:Nat->Int)(p:Nat)(v:Int)(l:List En):List Int:=(if (ay l).ow=-1 then 2*(p:Int)+v else pg F (ay l).ow) :: (ay l).q.map (pg F)
theorem ol (a:Int)(l:List Int)(j:Nat):aD (a :: l) (j+1)=aD l j:=by simp[aD]
theorem CF {f:Int->Int}{l:List Int}{j:Nat}{x:Int}(h:l[j]?=K x):aD (l.map f) j=f x:=by simp[aD,h]
def G8 (F:Nat->Int)(t:Nat)(act la:Int)(x:zE):Prop:=
 (act=0/\(la=0\/la=10)/\∃ a b c d e f pc,x=gc a b c d e f pc)\/(act=1/\la=1/\∃ b c d e f,x=gc t b c d e f 1)\/(act=1/\la=1/\∃ d e f,x=gc t (F t) (2*t+F t) d e f 4)\/(act=1/\la=2)\/
 (act=2/\la=5/\∃ c d e f,x=gc t (F t) c d e f 10)\/(act=3/\la=8/\∃ d e f,x=gc t (F t) (1-F t) d e f 14)
structure wO (n:Nat)(F:Nat->Int)(p:Nat)(v:Int)(r:Rn):Prop where
 bad:r.bad=J
 tr:dD n r.l
 now:∀ y∈r.l,y.now=0
 fl:∀ i,F i=0\/F i=1
 pn:p<=n
 v01:v=0\/v=1
 pre:(ay r.l).ow=-1->F p≠v
 ws:r.m.ws=aD (mG F p v r.l) (ay r.l).q.length :: DY F n
 qs:∀ j t:Nat,(ay r.l).q[j]?=K (t:Int)->r.act t=1/\∃ c d,r.m.cs t=gc t (F t) c d (aD (mG F p v r.l) j % 2) (aD (mG F p v r.l) j / 2) 8
 th:∀ t:Nat,t<n->G8 F t (r.act t) (aF r.l t) (r.m.cs t)
section
variable {n:Nat}{F:Nat->Int}{p:Nat}{v:Int}{r:Rn}{t:Nat}
theorem jf (h:wO n F p v r)(hl:aF r.l t≠2){j t':Nat}(hq:(ay r.l).q[j]?=K (t':Int)):t'≠t:=fun e=>by
 subst e
 exact hl (((iW _ h.tr).1 t').1 (List.mem_of_getElem? hq))
theorem tC {l l':List En}(h1:(ay l').q=(ay l).q)(h2:(ay l').ow=(ay l).ow):mG F p v l'=mG F p v l:=by unfold mG;rw[h1,h2]
theorem De (h:wO n F p v r)(ht:t<n)(ha:r.act t=0):wO n F p v (bA { m:=(bn (gQ n) r.m t J).1,act:=bp r.act t 1,l:=r.l++[⟨1,t,0⟩],bad:=r.bad } t (bn (gQ n) r.m t J).2):=by
 obtain⟨_,hla,a,b,c,d,e,f,pc,hc⟩:r.act t=0/\(aF r.l t=0\/aF r.l t=10)/\∃ a b c d e f pc,r.m.cs t=gc a b c d e f pc:=by
  rcases h.th t ht with h1 | h1 | h1 | h1 | h1 | h1
  ·exact h1
  all_goals (exfalso;have:=h1.1;omega)
 rw[wE hc,df]
 have hown:dk (aF r.l t)=J:=by unfold dk;simp;omega
 have e1:(ay (r.l++[⟨1,(t:Int),0⟩])).q=(ay r.l).q:=kW h.tr (by simp) (by show aF r.l t≠2;omega)
 have o1:(ay (r.l++[⟨1,(t:Int),0⟩])).ow=(ay r.l).ow:=oi h.tr (by simp) rfl hown
 have e2:=tC (F:=F) (p:=p) (v:=v) e1 o1
 refine⟨h.bad,eI h.tr h.now rfl ⟨by simp,by simpa using ht,.inl ⟨rfl,?_⟩⟩,eX h.now,h.fl,h.pn,h.v01,fun e=>h.pre (o1 ▸ e),?_,fun j t' hq=>?_,fun t' ht'=>?_⟩
 ·rw[mE]
  rcases hla with e | e
  ·exact .inl e
  ·exact .inr (.inr (.inr e))
 ·show r.m.ws=_
  rw[e1,e2];exact h.ws
 ·rw[e1] at hq
  have hne:=jf h (t:=t) (by omega) hq
  obtain⟨q1,d',q2⟩:=h.qs j t' hq
  simp only
  rw[ax hne,ax hne,e2]
  exact⟨q1,d',q2⟩
 ·simp only
  by_cases e:t'=t
  ·subst e
   rw[aK,aK,dx]
   exact .inr (.inl ⟨rfl,rfl,_,_,_,_,_,rfl⟩)
  ·rw[ax e,ax e,bQ _ _ _ _ e]
   exact h.th t' ht'
theorem wF (h:wO n F p v r)(ht:t<n)(ha:r.act t=2):∃ d e f,(bn (gQ n) r.m t G)=({ r.m with cs:=bp r.m.cs t (gc t (F t) (1-F t) d e f 14) },⟨[],-1,-1,J,J,0⟩):=by
 obtain⟨_,hla,c,d,e,f,hc⟩:r.act t=2/\aF r.l t=5/\∃ c d e f,r.m.cs t=gc t (F t) c d e f 10:=by
  rcases h.th t ht with h1 | h1 | h1 | h1 | h1 | h1
  case inr.inr.inr.inr.inl=>exact h1
  all_goals (exfalso;have:=h1.1;omega)
 refine⟨d,e,f,?_⟩
 rcases h.fl t with h0 | h0
 ·rw[uT hc h0,show 1-F t=1 by omega]
 ·rw[uS hc h0,show 1-F t=0 by omega]
theorem AG (h:wO n F p v r)(ht:t<n)(ha:r.act t=2):wO n F p v (bA { m:=(bn (gQ n) r.m t G).1,act:=bp r.act t 3,l:=r.l++[⟨8,t,0⟩],bad:=r.bad } t (bn (gQ n) r.m t G).2):=by
 have hla:aF r.l t=5:=by
  rcases h.th t ht with h1 | h1 | h1 | h1 | h1 | h1
  case inr.inr.inr.inr.inl=>exact h1.2.1
  all_goals (exfalso;have:=h1.1;omega)
 obtain⟨d,e,f,hb⟩:=wF h ht ha
 rw[hb,df]
 have hown:dk (aF r.l t)=G:=by unfold dk;simp;omega
 have o0:(ay r.l).ow=t:=DN h.tr hown
 have o1:(ay (r.l++[⟨8,(t:Int),0⟩])).ow=(ay r.l).ow:=(wi rfl).trans o0.symm
 have e1:(ay (r.l++[⟨8,(t:Int),0⟩])).q=(ay r.l).q:=kW h.tr (by simp) (by show aF r.l t≠2;omega)
 have e2:=tC (F:=F) (p:=p) (v:=v) e1 o1
 refine⟨h.bad,eI h.tr h.now rfl ⟨by simp,by simpa using ht,?_⟩,eX h.now,h.fl,h.pn,h.v01,fun e=>h.pre (o1 ▸ e),?_,fun j t' hq=>?_,fun t' ht'=>?_⟩
 ·rw[mE]
  exact .inr (.inr (.inr (.inr (.inr (.inr (.inl ⟨rfl,hla⟩))))))
 ·show r.m.ws=_
  rw[e1,e2];exact h.ws
 ·rw[e1] at hq
  have hne:=jf h (t:=t) (by omega) hq
  obtain⟨q1,b',q2⟩:=h.qs j t' hq
  simp only
  rw[ax hne,ax hne,e2]
  exact⟨q1,b',q2⟩
 ·simp only
  by_cases e:t'=t
  ·subst e
   rw[aK,aK,dx]
   exact .inr (.inr (.inr (.inr (.inr ⟨rfl,rfl,_,_,_,rfl⟩))))
  ·rw[ax e,ax e,bQ _ _ _ _ e]
   exact h.th t' ht'
theorem F5 (hn:n<=64)(h:wO n F p v r)(ht:t<n)(ha:r.act t=1)(hla:aF r.l t=1){b c d e f:Int}(hc:r.m.cs t=gc t b c d e f 1)(late:Bool):
 wO n F p v (bA { r with m:=(bC (gQ n) r.m t late).1 } t (bC (gQ n) r.m t late).2):=by
 have hv:aD r.m.ws (1+t)=F t:=by rw[h.ws,vO _ (by omega)]
 rw[Gr hn hc ht,df,hv,GT (by omega) (by omega) (h.fl t)]
 refine⟨h.bad,h.tr,h.now,h.fl,h.pn,h.v01,h.pre,h.ws,fun j t' hq=>?_,fun t' ht'=>?_⟩
 ·have hne:=jf h (t:=t) (by omega) hq
  simp only
  rw[ax hne]
  exact h.qs j t' hq
 ·simp only
  by_cases e:t'=t
  ·subst e
   rw[aK]
   exact .inr (.inr (.inl ⟨ha,hla,_,_,_,rfl⟩))
  ·rw[ax e]
   exact h.th t' ht'
theorem F1 (hf:∀ i,F i=0\/F i=1)(x:Int):pg F x / 2=x/\pg F x % 2=F x.toNat:=by
 have:=hf x.toNat
 unfold pg
 omega
theorem F4 (hn:n<=64)(h:wO n F p v r)(ht:t<n)(ha:r.act t=1)(hla:aF r.l t=1){d e f:Int}(hc:r.m.cs t=gc t (F t) (2*t+F t) d e f 4)(late:Bool):
 wO n F p v (bA { r with m:=(bC (gQ n) r.m t late).1 } t (bC (gQ n) r.m t late).2):=by
 have hq0:(ay r.l).q.length<(mG F p v r.l).length:=by unfold mG;simp
 have hx0:0<=aD (mG F p v r.l) (ay r.l).q.length:=by
  obtain⟨m1,m2,m3⟩:=iW _ h.tr
  obtain⟨o1,o2,o3,_⟩:=eP _ h.tr
  rw[kb hq0]
  have:∀ x∈mG F p v r.l,0<=x:=by
   intro x hx
   unfold mG at hx
   rcases List.mem_cons.1 hx with hx | hx
   ·have:=h.v01
    have:=h.fl (ay r.l).ow.toNat
    unfold pg at hx
    split at hx <;> omega
   ·obtain⟨y,hy,rfl⟩:=List.mem_map.1 hx
    have:=m3 y hy
    have:=h.fl y.toNat
    unfold pg;omega
  exact this _ (List.getElem_mem hq0)
 rw[Gq hc h.ws,p8,Gd hx0]
 have hown:dk (aF r.l t)=J:=by unfold dk;simp;omega
 have o1:(ay (r.l++[⟨iX 1,(t:Int),0⟩])).ow=(ay r.l).ow:=oi h.tr (by simp) rfl hown
 have e1:(ay (r.l++[⟨iX 1,(t:Int),0⟩])).q=(ay r.l).q++[(t:Int)]:=FS h.tr rfl (by show aF r.l t≠2;omega)
 have e2:mG F p v (r.l++[⟨iX 1,(t:Int),0⟩])=mG F p v r.l++[pg F t]:=by unfold mG;rw[o1,e1];simp
 have e3:∀ j,j<=(ay r.l).q.length->aD (mG F p v r.l++[pg F t]) j=aD (mG F p v r.l) j:=fun j hj=>by
  have:j<(mG F p v r.l).length:=by omega
  unfold aD
  simp[List.getD_eq_getElem?_getD,List.getElem?_append,this]
 refine⟨h.bad,eI h.tr h.now rfl ⟨by simp,by simpa using ht,?_⟩,eX h.now,h.fl,h.pn,h.v01,fun e=>h.pre (o1 ▸ e),?_,fun j t' hq=>?_,fun t' ht'=>?_⟩
 ·rw[mE]
  exact .inr (.inl ⟨.inl rfl,hla⟩)
 ·show _ :: _=_ :: _
  rw[e1,e2,List.length_append,List.length_singleton]
  congr 1
  have hl:(mG F p v r.l).length=(ay r.l).q.length+1:=by unfold mG;simp
  unfold aD
  rw[List.getD_eq_getElem?_getD,List.getElem?_append_right (by omega),hl,Nat.sub_self]
  rfl
 ·rw[e1,List.getElem?_append] at hq
  simp only
  split at hq
  ·rename_i hlt
   have hne:=jf h (t:=t) (by omega) hq
   obtain⟨q1,b',q2⟩:=h.qs j t' hq
   rw[ax hne,e2,e3 j (by omega)]
   exact⟨q1,b',q2⟩
  ·have hj:j-(ay r.l).q.length=0:=by
    have:=(List.getElem?_eq_some_iff.1 hq).1
    simp at this;omega
   rw[hj] at hq
   simp at hq
   have e:t'=t:=by omega
   subst e
   have hjj:j=(ay r.l).q.length:=by omega
   subst hjj
   rw[aK,e2,e3 _ (M _)]
   exact⟨ha,_,_,rfl⟩
 ·simp only
  by_cases e:t'=t
  ·subst e
   rw[aK,dx]
   exact .inr (.inr (.inr (.inl ⟨ha,rfl⟩)))
  ·rw[ax e,bQ _ _ _ _ e]
   exact h.th t' ht'
theorem wD (h:wO n F p v r){j:Nat}(hj:j<(ay r.l).q.length):
 (0<=aD (mG F p v r.l) j / 2/\aD (mG F p v r.l) j / 2<=n)/\(aD r.m.ws (1+(aD (mG F p v r.l) j / 2).toNat)=aD (mG F p v r.l) j % 2↔¬ ((ay r.l).ow=-1/\j=0)):=by
 obtain⟨m1,m2,m3⟩:=iW _ h.tr
 obtain⟨o1,o2,o3,_⟩:=eP _ h.tr
 have key1:∀ x:Int,0<=x->x<n->aD (mG F p v r.l) j=pg F x->¬ ((ay r.l).ow=-1/\j=0)->(0<=aD (mG F p v r.l) j / 2/\aD (mG F p v r.l) j / 2<=n)/\(aD r.m.ws (1+(aD (mG F p v r.l) j / 2).toNat)=aD (mG F p v r.l) j % 2↔¬ ((ay r.l).ow=-1/\j=0)):=fun x x0 x1 hx hno=>by
  obtain⟨k1,k2⟩:=F1 h.fl x
  rw[hx,k1,k2,h.ws,vO _ (by omega)]
  exact⟨⟨x0,by omega⟩,⟨fun _=>hno,fun _=>rfl⟩⟩
 match j,hj with
 | 0,hj=>
  by_cases hw:(ay r.l).ow=-1
  ·have e:aD (mG F p v r.l) 0=2*(p:Int)+v:=by unfold mG;rw[if_pos hw];rfl
   have hp:=h.pre hw
   have hv:=h.v01
   have hpn:=h.pn
   rw[e,show (2*(p:Int)+v) / 2=p by omega,show (2*(p:Int)+v) % 2=v by omega,h.ws,Int.toNat_natCast,vO _ hpn]
   exact⟨⟨by omega,by omega⟩,⟨fun e=>absurd e hp,fun hno=>absurd ⟨hw,rfl⟩ hno⟩⟩
  ·have hk:=(o1 (ay r.l).ow).2 ⟨rfl,by omega⟩
   have hlt:=(iR _ h.tr _ (fun e=>by rw[e] at hk;simp[dk] at hk))
   exact key1 _ hlt.1 hlt.2 (by unfold mG;rw[if_neg hw];rfl) (fun hh=>hw hh.1)
 | j+1,hj=>
  have hx:=List.getElem?_eq_getElem (l:=(ay r.l).q) (i:=j) (by omega)
  have hb:=m3 _ (List.getElem_mem (l:=(ay r.l).q) (n:=j) (by omega))
  exact key1 _ hb.1 hb.2 (by unfold mG;rw[ol];exact CF hx) (fun hh=>by omega)
theorem EW (h:wO n F p v r){j:Nat}(hj:(ay r.l).q[j]?=K (t:Int)):∀ j' t':Nat,(ay r.l).q[j']?=K (t':Int)->j'≠j->t'≠t:=fun j' t' hq hjj e=>by
 obtain⟨m1,m2,m3⟩:=iW _ h.tr
 subst e
 have hlt':=(List.getElem?_eq_some_iff.1 hq).1
 have hjl:=(List.getElem?_eq_some_iff.1 hj).1
 rw[List.getElem?_eq_getElem hlt'] at hq
 rw[List.getElem?_eq_getElem hjl] at hj
 exact hjj ((List.getElem_inj m2).1 ((Option.some.inj hq).trans (Option.some.inj hj).symm))
theorem F3 (hn:n<=64)(h:wO n F p v r)(ht:t<n)(ha:r.act t=1)(hla:aF r.l t=2)(late:Bool):
 wO n F p v (bA { r with m:=(bC (gQ n) r.m t late).1 } t (bC (gQ n) r.m t late).2):=by
 obtain⟨m1,m2,m3⟩:=iW _ h.tr
 obtain⟨j,hj⟩:=List.getElem?_of_mem ((m1 t).2 hla)
 obtain⟨_,c,d,hc⟩:=h.qs j t hj
 have hjl:j<(ay r.l).q.length:=(List.getElem?_eq_some_iff.1 hj).1
 have hown:dk (aF r.l t)=J:=by rw[hla];rfl
 have hne:=EW h hj
 obtain⟨⟨b0,b1⟩,hsee⟩:=wD h hjl
 rw[Gp hn hc b0 b1]
 by_cases hz:(ay r.l).ow=-1/\j=0
 ·rw[if_neg (fun e=>hsee.1 e hz),tM (by exact ha)]
  obtain⟨o0,rfl⟩:=hz
  obtain⟨rest,hq0⟩:∃ rest,(ay r.l).q=(t:Int) :: rest:=by
   cases hqq:(ay r.l).q with
   | nil=>rw[hqq] at hj;simp at hj
   | cons y rest=>rw[hqq] at hj;simp at hj;subst hj;exact⟨rest,rfl⟩
  have ht1:dD n (r.l++[⟨3,(t:Int),0⟩]):=eI h.tr h.now rfl ⟨by simp,by simpa using ht,by
   rw[mE,hq0,o0]
   exact .inr (.inr (.inl ⟨rfl,hla,rfl,rfl⟩))⟩
  have hl1:aF (r.l++[⟨3,(t:Int),0⟩]) t=3:=dx _ _ _
  have o1:(ay (r.l++[⟨3,(t:Int),0⟩]++[⟨5,(t:Int),0⟩])).ow=t:=wi rfl
  have e1:(ay (r.l++[⟨3,(t:Int),0⟩]++[⟨5,(t:Int),0⟩])).q=rest:=by
   rw[kW ht1 (by simp) (by show aF (r.l++[⟨3,(t:Int),0⟩]) t≠2;omega),Eu h.tr (by simp) hq0]
  have e2:mG F p v r.l=(2*(p:Int)+v) :: mG F p v (r.l++[⟨3,(t:Int),0⟩]++[⟨5,(t:Int),0⟩]):=by
   unfold mG
   rw[o0,if_pos rfl,o1,if_neg (by omega),e1,hq0]
   simp
  refine⟨h.bad,eI ht1 (eX h.now) rfl ⟨by simp,by simpa using ht,?_⟩,eX (eX h.now),h.fl,h.pn,h.v01,fun e=>absurd (o1.symm.trans e) (by omega),?_,fun j t' hq=>?_,fun t' ht'=>?_⟩
  ·rw[mE]
   exact .inr (.inr (.inr (.inr (.inl ⟨rfl,hl1⟩))))
  ·show r.m.ws=_
   rw[h.ws,e2,e1,hq0,List.length_cons,ol]
  ·rw[e1] at hq
   have hq2:(ay r.l).q[j+1]?=K (t':Int):=by rw[hq0];simpa using hq
   have hnt:=hne (j+1) t' hq2 (by omega)
   obtain⟨q1,b',q2⟩:=h.qs (j+1) t' hq2
   simp only
   rw[ax hnt,ax hnt]
   rw[e2,ol] at q2
   exact⟨q1,b',q2⟩
  ·simp only
   by_cases e':t'=t
   ·subst e'
    rw[aK,aK,dx]
    exact .inr (.inr (.inr (.inr (.inl ⟨rfl,rfl,_,_,_,_,rfl⟩))))
   ·rw[ax e',ax e',bQ _ _ _ _ e',bQ _ _ _ _ e']
    exact h.th t' ht'
 ·rw[if_pos (hsee.2 hz),df]
  refine⟨h.bad,h.tr,h.now,h.fl,h.pn,h.v01,h.pre,h.ws,fun j' t' hq=>?_,fun t' ht'=>?_⟩
  ·simp only
   by_cases e':t'=t
   ·have hjj:j'=j:=by
     rcases Nat.decEq j' j with hh | hh
     ·exact absurd e' (hne j' t' hq hh)
     ·exact hh
    subst hjj
    subst e'
    rw[aK]
    exact⟨ha,_,_,rfl⟩
   ·rw[ax e']
    exact h.qs j' t' hq
  ·simp only
   by_cases e':t'=t
   ·subst e'
    exact .inr (.inr (.inr (.inl ⟨ha,hla⟩)))
   ·rw[ax e']
    exact h.th t' ht'
theorem EV (hn:n<=64)(h:wO n F p v r)(ht:t<n)(ha:r.act t=3)(hla:aF r.l t=8){d e f:Int}(hc:r.m.cs t=gc t (F t) (1-F t) d e f 14)(late:Bool):
 wO n (bp F t (1-F t)) t (F t) (bA { r with m:=(bC (gQ n) r.m t late).1 } t (bC (gQ n) r.m t late).2):=by
 rw[DW hn hc ht,pZ (by exact ha)]
 have hown:dk (aF r.l t)=G:=by unfold dk;simp;omega
 have ht1:dD n (r.l++[⟨9,(t:Int),0⟩]):=eI h.tr h.now rfl ⟨by simp,by simpa using ht,by rw[mE];exact .inr (.inr (.inr (.inr (.inr (.inr (.inr (.inl ⟨rfl,hla⟩)))))))⟩
 have hl1:aF (r.l++[⟨9,(t:Int),0⟩]) t=9:=dx _ _ _
 have e0:(ay r.l).ow=t:=DN h.tr hown
 have o1:(ay (r.l++[⟨9,(t:Int),0⟩])).ow=-1:=CC h.tr rfl hown
 have o2:(ay (r.l++[⟨9,(t:Int),0⟩]++[⟨10,(t:Int),0⟩])).ow=-1:=by rw[oi ht1 (by simp) rfl (by show dk (aF (r.l++[⟨9,(t:Int),0⟩]) t)=J;rw[hl1];rfl),o1]
 have e1:(ay (r.l++[⟨9,(t:Int),0⟩]++[⟨10,(t:Int),0⟩])).q=(ay r.l).q:=by
  rw[kW ht1 (by simp) (by show aF (r.l++[⟨9,(t:Int),0⟩]) t≠2;omega),kW h.tr (by simp) (by show aF r.l t≠2;omega)]
 obtain⟨m1,m2,m3⟩:=iW _ h.tr
 have hnq:(t:Int) ∉ (ay r.l).q:=fun hm=>by
  have:=(m1 t).1 hm
  omega
 have e2:mG (bp F t (1-F t)) t (F t) (r.l++[⟨9,(t:Int),0⟩]++[⟨10,(t:Int),0⟩])=mG F p v r.l:=by
  unfold mG
  rw[o2,if_pos rfl,e0,if_neg (by omega),e1]
  congr 1
  refine List.map_congr_left fun x hx=>?_
  have hb:=m3 x hx
  unfold pg
  rw[ax (by intro e;exact hnq (by rw[<-e,Int.toNat_of_nonneg hb.1];exact hx))]
 have hf:=h.fl t
 refine⟨h.bad,eI ht1 (eX h.now) rfl ⟨by simp,by simpa using ht,?_⟩,eX (eX h.now),fun i=>?_,by omega,h.fl t,fun _=>?_,?_,fun j t' hq=>?_,fun t' ht'=>?_⟩
 ·rw[mE]
  exact .inr (.inr (.inr (.inr (.inr (.inr (.inr (.inr ⟨rfl,hl1⟩)))))))
 ·by_cases e:i=t
  ·subst e;rw[aK];omega
  ·rw[ax e];exact h.fl i
 ·rw[aK];omega
 ·show r.m.ws.set _ _=_
  rw[h.ws,wG,e1,e2]
 ·rw[e1] at hq
  have hne:=jf h (t:=t) (by omega) hq
  obtain⟨q1,b',q2⟩:=h.qs j t' hq
  simp only
  rw[ax hne,ax hne,ax hne,e2]
  exact⟨q1,b',q2⟩
 ·simp only
  by_cases e:t'=t
  ·subst e
   rw[aK,aK,dx]
   exact .inl ⟨rfl,.inr rfl,_,_,_,_,_,_,_,rfl⟩
  ·rw[ax e,ax e,bQ _ _ _ _ e,bQ _ _ _ _ e]
   unfold G8
   rw[ax e]
   exact h.th t' ht'
def GF (n:Nat)(r:Rn):Prop:=∃ F p v,wO n F p v r
theorem F6 (hn:n<=64)(o:ki)(h:GF n r):GF n (dN (gQ n) r o):=by
 refine An (I:=GF n) ?_ ?_ ?_ r o h
 ·rintro r t ⟨F,p,v,h⟩ ht _ ha;exact⟨F,p,v,De h ht ha⟩
 ·rintro r t ⟨F,p,v,h⟩ ht _ ha;exact⟨F,p,v,AG h ht ha⟩
 ·rintro r t late ⟨F,p,v,h⟩ ht _ ha
  rcases h.th t ht with h1 | h1 | h1 | h1 | h1 | h1
  ·exfalso;have:=h1.1;omega
  ·obtain⟨h2,h3,b,c,d,e,f,hc⟩:=h1
   exact⟨F,p,v,F5 hn h ht h2 h3 hc late⟩
  ·obtain⟨h2,h3,d,e,f,hc⟩:=h1
   exact⟨F,p,v,F4 hn h ht h2 h3 hc late⟩
  ·exact⟨F,p,v,F3 hn h ht h1.1 h1.2 late⟩
  ·exfalso;have:=h1.1;omega
  ·obtain⟨h2,h3,d,e,f,hc⟩:=h1
   exact⟨_,_,_,EV hn h ht h2 h3 hc late⟩
theorem EX (r7:List Int)(h7:∀ t,aD r7 t=0):wO n (fun i=>if i=n then 1 else 0) n 0 (jM (gQ n) ((2*(n:Int)) :: DY (fun i=>if i=n then 1 else 0) n) r7):=by
 refine⟨rfl,pk _,fun y hy=>by simp[jM] at hy,fun i=>?_,M _,.inl rfl,fun _=>by simp,?_,fun j t hq=>by simp[jM,ay,GG] at hq,fun t ht=>.inl ⟨rfl,.inl rfl,0,0,0,0,0,0,0,?_⟩⟩
 ·by_cases e:i=n <;> simp[e]
 ·show (2*(n:Int)) :: _=(2*(n:Int)+0) :: _
  rw[Int.add_zero]
 ·show (⟨[0,0,0,0,0,0,0,aD r7 t],0⟩:zE)=_
  rw[h7];rfl
theorem Bs (h:wO n F p v r):Fj n r:=fun t ht ha=>by
 rcases h.th t ht with h1 | h1 | h1 | h1 | h1 | h1
 ·rcases h1.2.1 with e | e <;> rw[e] <;> exact⟨by decide,rfl⟩
 all_goals (exfalso;have:=h1.1;omega)
def lr (act la pc:Int):Nat:=if act=1 then (if la=2 then 3 else if pc=4 then 4 else 5) else if act=2 then 2 else if act=3 then 1 else 0
def uc (r:Rn)(t:Nat):Nat:=lr (r.act t) (aF r.l t) (r.m.cs t).pc
theorem xV (hn:n<=64)(h:wO n F p v r)(ht:t<n):BD uc rE r (bc (gQ n) r t) t:=by
 rcases h.th t ht with h1 | h1 | h1 | h1 | h1 | h1
 ·rw[gM h1.1]
  exact⟨fun he=>absurd h1.1 he.1,fun _ _=>rfl,fun _=>⟨rfl,fun _ _ h=>h⟩,fun e=>by omega,fun e=>by omega,fun e=>by omega⟩
 ·obtain⟨ha,hla,b,c,d,e,f,hc⟩:=h1
  rw[jk h.bad ht (.inl ha),Gr hn hc ht,df]
  refine⟨fun _=>?_,fun t' hne=>?_,fun he=>absurd ⟨by omega,fun e=>by omega⟩ he,fun _=>.inl ha,fun e=>by omega,fun e=>by omega⟩
  ·unfold uc
   simp only
   rw[aK,hla,ha,hc]
   exact(by decide:lr 1 1 4<lr 1 1 1)
  ·unfold uc
   simp only
   rw[ax hne]
 ·obtain⟨ha,hla,d,e,f,hc⟩:=h1
  rw[jk h.bad ht (.inl ha),Gq hc h.ws,p8]
  refine⟨fun _=>?_,fun t' hne=>?_,fun he=>absurd ⟨by omega,fun e=>by omega⟩ he,fun _=>.inl ha,fun e=>by omega,fun e=>by omega⟩
  ·unfold uc
   simp only
   rw[aK,dx,hla,ha,hc]
   exact(by decide:lr 1 2 8<lr 1 1 4)
  ·unfold uc
   simp only
   rw[ax hne,bQ _ _ _ _ hne]
 ·obtain⟨ha,hla⟩:=h1
  obtain⟨m1,m2,m3⟩:=iW _ h.tr
  obtain⟨j,hj⟩:=List.getElem?_of_mem ((m1 t).2 hla)
  obtain⟨_,c,d,hc⟩:=h.qs j t hj
  have hjl:j<(ay r.l).q.length:=(List.getElem?_eq_some_iff.1 hj).1
  obtain⟨⟨b0,b1⟩,hsee⟩:=wD h hjl
  rw[jk h.bad ht (.inl ha),Gp hn hc b0 b1]
  by_cases hz:(ay r.l).ow=-1/\j=0
  ·rw[if_neg (fun e=>hsee.1 e hz),tM (by exact ha)]
   refine⟨fun _=>?_,fun t' hne=>?_,fun he=>?_,fun _=>.inr (aK _ _ _),fun e=>by omega,fun e=>by omega⟩
   ·unfold uc
    simp only
    rw[aK,aK,dx,ha,hla,hc]
    exact(by decide:lr 2 5 10<lr 1 2 8)
   ·unfold uc
    simp only
    rw[ax hne,ax hne,bQ _ _ _ _ hne,bQ _ _ _ _ hne]
   ·exfalso
    refine he ⟨by omega,fun _=>⟨?_,hz.1⟩⟩
    rw[List.head?_eq_getElem?,<-hz.2];exact hj
  ·rw[if_pos (hsee.2 hz),df]
   refine⟨fun he=>?_,fun t' hne=>?_,fun _=>⟨?_,fun _ _ h=>h⟩,fun _=>.inl ha,fun e=>by omega,fun e=>by omega⟩
   ·exfalso
    obtain⟨h1,h2⟩:=he.2 hla
    rw[List.head?_eq_getElem?] at h1
    refine hz ⟨h2,?_⟩
    have hlt:0<(ay r.l).q.length:=by omega
    rw[List.getElem?_eq_getElem hlt] at h1
    rw[List.getElem?_eq_getElem hjl] at hj
    exact(List.getElem_inj m2).1 ((Option.some.inj hj).trans (Option.some.inj h1).symm)
   ·unfold uc
    simp only
    rw[ax hne]
   ·unfold uc
    simp only
    rw[aK,ha,hla,hc]
    rfl
 ·obtain⟨ha,hla,c,d,e,f,hc⟩:=h1
  obtain⟨d',e',f',hb⟩:=wF h ht ha
  rw[rS h.bad ht ha,hb,df]
  refine⟨fun _=>?_,fun t' hne=>?_,fun he=>absurd ⟨by omega,fun e=>by omega⟩ he,fun e=>by omega,fun _=>.inr (aK _ _ _),fun e=>by omega⟩
  ·unfold uc
   simp only
   rw[aK,aK,dx,ha,hla,hc]
   exact(by decide:lr 3 8 14<lr 2 5 10)
  ·unfold uc
   simp only
   rw[ax hne,ax hne,bQ _ _ _ _ hne]
 ·obtain⟨ha,hla,d,e,f,hc⟩:=h1
  rw[jk h.bad ht (.inr ha),DW hn hc ht,pZ (by exact ha)]
  refine⟨fun _=>?_,fun t' hne=>?_,fun he=>absurd ⟨by omega,fun e=>by omega⟩ he,fun e=>by omega,fun e=>by omega,fun _=>.inl (aK _ _ _)⟩
  ·unfold uc
   simp only
   rw[aK,aK,dx,ha,hla,hc]
   exact(by decide:lr 0 10 16<lr 3 8 14)
  ·unfold uc
   simp only
   rw[ax hne,ax hne,bQ _ _ _ _ hne,bQ _ _ _ _ hne]
theorem yc (h:wO n F p v r)(ht:t<n)(ha:r.act t=0):(dN (gQ n) r ⟨1,t,J⟩).act t=1/\∀ t',t'≠t->uc (dN (gQ n) r ⟨1,t,J⟩) t'=uc r t':=by
 obtain⟨a,b,c,d,e,f,pc,hc⟩:∃ a b c d e f pc,r.m.cs t=gc a b c d e f pc:=by
  rcases h.th t ht with h1 | h1 | h1 | h1 | h1 | h1
  ·exact h1.2.2
  all_goals (exfalso;have:=h1.1;omega)
 rw[wX h.bad ht ha,wE hc,df]
 refine⟨aK _ _ _,fun t' hne=>?_⟩
 unfold uc
 simp only
 rw[ax hne,ax hne,bQ _ _ _ _ hne]
def G1 (n:Nat)(hn:n<=64):jC (gQ n) where
 I:=GF n
 W:=uc
 c:=5
 En:=rE
 few r t:=by
  unfold uc lr
  repeat' split
  all_goals omega
 zero r t h:=by
  unfold uc lr
  rw[h];simp
 range r t:=by
  rintro⟨F,p,v,h⟩ ht
  rcases h.th t ht with h1 | h1 | h1 | h1 | h1 | h1 <;> have:=h1.1 <;> omega
 keep r o h:=F6 hn o h
 turned r t:=by
  rintro⟨F,p,v,h⟩ ht
  exact xV hn h ht
 called r t:=by
  rintro⟨F,p,v,h⟩ ht ha
  obtain⟨e1,e2⟩:=yc h ht ha
  exact⟨.inl e1,e2⟩
 idle r t _ _ he:=he.1
 some_ r:=by
  rintro⟨F,p,v,h⟩ hi
  exact yh h.tr (Bs h) hi
theorem AI (hn:n<=64)(h:GF n r)(ht:t<n)(hi:kj n r):
 let r1:=bt (gQ n) t 3 (dN (gQ n) r ⟨1,t,J⟩)
 let r2:=bt (gQ n) t 1 (dN (gQ n) r1 ⟨2,t,J⟩)
 r1.act t=2/\r2.act t=0/\GF n r2:=
 qw (G1 n hn) 2
  (fun r t h ht ha=>by
   show 2<uc r t
   unfold uc lr
   rw[if_pos ha]
   repeat' split
   all_goals omega)
  (fun r t h ht ha=>by
   show uc r t<=2
   unfold uc lr
   rw[ha];simp)
  (fun r t h ht ha=>by
   show 0<uc r t
   unfold uc lr
   rw[ha];simp)
  (fun r t h ht hal ha=>by
   obtain⟨F,p,v,h⟩:=h
   exact oP h.tr (Bs h) hal ha) r h t ht hi
end
def eD (r:Rn):Nat->Bool
 | 0=>J
 | j+1=>eD r j || (r.act j != 0)
theorem nA {r r':Rn}:∀ {j:Nat},(∀ t,t<j->r'.act t=r.act t)->eD r' j=eD r j
 | 0,_=>rfl
 | j+1,h=>by
  unfold eD
  rw[nA (fun t ht=>h t (by omega)),h j (by omega)]
theorem iC {r:Rn}:∀ {n:Nat},eD r n=J↔kj n r
 | 0=>⟨fun _ t ht=>by omega,fun _=>rfl⟩
 | n+1=>by
  unfold eD
  rw[Bool.or_eq_false_iff,iC]
  constructor
  ·rintro⟨h1,h2⟩ t ht
   by_cases e:t=n
   ·subst e;simpa using h2
   ·exact h1 t (by omega)
  ·intro h
   exact⟨fun t ht=>h t (by omega),by simpa using h n (by omega)⟩
def dm (k:Lk)(r:Rn)(j:Nat):Rn:=(List.range j).foldl (bc k) r
theorem pJ (k:Lk)(r:Rn):dm k r 0=r:=rfl
theorem lK (k:Lk)(r:Rn)(j:Nat):dm k r (j+1)=bc k (dm k r j) j:=by
 unfold dm
 rw[List.range_succ,List.foldl_append];rfl
theorem vw (k:Lk)(r:Rn)(j:Nat):eD (dm k r (j+1)) (j+1)=(eD (dm k r j) j || ((dm k r (j+1)).act j != 0)):=by
 show (eD (dm k r (j+1)) j || _)=_
 rw[nA (fun t ht=>?_)]
 rw[lK]
 exact jG (by simp only;omega)
def fO (k:Lk):Nat->Rn->Bool×Rn
 | 0,r=>(J,r)
 | f+1,r=>if eD (dm k r k.n) k.n=J then (G,dm k r k.n) else fO k f (dm k r k.n)
theorem hG (k:Lk)(f:Nat)(r:Rn):fO k (f+1) r=if eD (dm k r k.n) k.n=J then (G,dm k r k.n) else fO k f (dm k r k.n):=rfl
theorem pV (k:Lk)(r:Rn):fO k 0 r=(J,r):=rfl
end
section
open Go.ChangeShapes Go.WideShapes Go.ChangeAt Go.RowKit
theorem vX:(Tryz.prog.info? 123).map (fun i=>(i.zero,i.size,i.bytes))=K (K (.agg #[Q N 0,Q N 0,Q N 0,Q N 0,Q N 0,Q N 0,Q Z 0,Q N 0]),8,64):=by kernel_rfl
theorem xa {l:List aU}{k:Nat}(h:k<l.length):l.take (k+1)=l.take k++[l[k]]:=by simp
theorem Cl {w x y w':World}{o:Obj}{lo un:Int}{k:Nat}{l:List aU}{v v':Value}{i:aU}{R O:Nat}{rs:Array Value}(hb:Below w.heap.size w x)(hO:Bk x O 34 #[v,Q N lo,Q N un])(hR:Bk x R 34 rs)(hne:R≠O)(hwO:w.heap.size<=O)
 (hv:x.ownsRow w.heap.size 123 8 v k (bu l)) (hy:Below x.heap.size x y) (hw:w'.ownsRow w.heap.size 123 8 v' (k+1) (bu l++jJ i)) (hg:(y.alloc o).grownBy w' v.ownBlock):
 Below w.heap.size w (w'.setCell ⟨O,0,U⟩ v')/\Bk (w'.setCell ⟨O,0,U⟩ v') O 34 #[v',Q N lo,Q N un]/\Bk (w'.setCell ⟨O,0,U⟩ v') R 34 rs/\(w'.setCell ⟨O,0,U⟩ v').ownsRow w.heap.size 123 8 v' (k+1) (bu (l++[i])):=by
 have hA:ag x (y.alloc o) (fun _=>False):=(af hy).alloc o
 have hB:ag (y.alloc o) w' (fun b=>K b=v.ownBlock):=.aT hg (by rintro i e;exact .inl e.symm)
 have hC:ag x w' (fun b=>K b=v.ownBlock):=(hA.wide (by simp)).aJ hB (by rintro i e;exact .inl e)
 have un_:∀ {g:Nat} {cs:Array Value},Bk x g 34 cs->Bk w' g 34 cs:=fun hk=>hk.within hC fun e=>by
  obtain⟨cs,hcs⟩:=aY hv e.symm
  exact Bk.av hcs hk (by decide) rfl
 have hO2:=un_ hO
 have hR2:=un_ hR
 have hb2:Below w.heap.size w w':=by
  refine hb.trans ⟨hC.os,hC.tape,hC.output,hC.size,fun i hi=>hC.block i (Nat.lt_of_lt_of_le hi hb.size) fun e=>?_⟩
  have:=(World.ownsRow.lt hv i e.symm).1
  omega
 refine⟨hb2.setCell hwO _,hO2.put 0 v',hR2.off hne _,?_⟩
 rw[jS]
 refine ar hw ((ag.refl w' (fun b=>b=O)).put O 0 v' (.inl rfl)) fun b e e2=>?_
 obtain⟨cs,hcs⟩:=aY hw e
 exact Bk.av hcs hO2 (by decide) e2
theorem FY (c:gp)(v:Value)(w:World)(hv:Pv w v c)(hl:c.l.length<=1000):
 Calls Tryz.prog 32 #[v] w fun e w'=>∃ sl,e=.returned (.agg #[sl,Q N c.lo,Q N c.un])/\w'.ownsRow w.heap.size 123 8 sl c.l.length (bu c.l)/\Below w.heap.size w w':=by
 obtain⟨a,ca,rfl,hc1,hc2,_,ha⟩:=hv
 obtain⟨l,lo,un⟩:=c
 simp only at hl hc1 ha ⊢
 have q0:=((Bk.made w 24 #[E a l.length ca,Q N lo,Q N un]).alloc (D #[E U 0 0,Q N 0,Q N 0] 34))
 have q1:=Bk.made (w.alloc (D #[E a l.length ca,Q N lo,Q N un] 24)) 34 #[E U 0 0,Q N 0,Q N 0]
 rw[World.size_alloc] at q1
 have b0:Below w.heap.size w ((w.alloc (D #[E a l.length ca,Q N lo,Q N un] 24)).alloc (D #[E U 0 0,Q N 0,Q N 0] 34)):=((Below.refl _ _).alloc (M _) _).alloc (by simp) _
 go_enter Tryz.func32,Tryz.ntmps32
 go_upto_region 1 with fail
 generalize (w.alloc (D #[E a l.length ca,Q N lo,Q N un] 24)).alloc (D #[E U 0 0,Q N 0,Q N 0] 34)=x at *
 obtain⟨x0,x1,x2⟩:=q0.iS
 go_upto_region 2 with fail
 have O0:=Bk.made x 34 #[E U 0 0,Q N lo,Q N un]
 have hxw:w.heap.size+1<x.heap.size:=q1.lt
 replace q0:=q0.alloc (D #[E U 0 0,Q N lo,Q N un] 34)
 replace q1:=q1.alloc (D #[E U 0 0,Q N lo,Q N un] 34)
 replace b0:=b0.alloc (o:=D #[E U 0 0,Q N lo,Q N un] 34) b0.size
 generalize x.heap.size=O at *
 generalize x.alloc (D #[E U 0 0,Q N lo,Q N un] 34)=x at *
 have z0:x.cell? ⟨w.heap.size,0,U⟩=K (E a l.length ca):=q0.cell 0
 clear x0 x1 x2 q0
 go_wp2
 go_loopw [14] (fun i wr=>∃ (k:Nat) (v:Value),i=Q N k/\k<=l.length/\Below w.heap.size w wr/\Bk wr O 34 #[v,Q N lo,Q N un]/\Bk wr (w.heap.size+1) 34 #[E U 0 0,Q N 0,Q N 0]/\wr.ownsRow w.heap.size 123 8 v k (bu (l.take k))) (fun i _=>l.length-(intOf i).toNat)
 case atStart=>exact⟨0,E U 0 0,rfl,Nat.zero_le _,b0,O0,q1,World.ownsRow_nil _ _ _ _⟩
 case round=>
  obtain⟨k,v,rfl,hk,hb,hO,hR,hv⟩:=hrel
  clear z0 O0 q1 b0
  by_cases hlt:k<l.length
  ·have hki:(k:Int)<l.length:=by omega
   obtain⟨g,off,rfl,hgl,e0,e1,e2,e3,e4,e5,e6,e7⟩:=(ha.below hb).at_ (List.getElem?_eq_getElem hlt)
   have HT:=L (xa hlt)
   generalize l[k]=i at *
   have HF:=L (fun W=>GP i W)
   obtain⟨op,d,s,t,u,a',k',pl⟩:=i
   simp only at e0 e1 e2 e3 e4 e5 e6 e7
   unfold iv at HF
   simp only at HF
   obtain⟨a2,cap2,rfl,hcap2,hmax2,_⟩:=aX hv
   go_upto_region 5 with fail
   have m2:=Ib.made wr op d s t u a' k' pl
   replace hb:=hb.alloc (o:=D #[Q N op,Q N d,Q N s,Q N t,Q N u,Q N a',Q Z k',Q N pl] 117) hb.size
   replace hO:=hO.alloc (D #[Q N op,Q N d,Q N s,Q N t,Q N u,Q N a',Q Z k',Q N pl] 117)
   replace hR:=hR.alloc (D #[Q N op,Q N d,Q N s,Q N t,Q N u,Q N a',Q Z k',Q N pl] 117)
   replace hv:=World.ownsRow.alloc hv (D #[Q N op,Q N d,Q N s,Q N t,Q N u,Q N a',Q Z k',Q N pl] 117)
   clear e0 e1 e2 e3 e4 e5 e6 e7
   generalize wr.heap.size=q at *
   generalize wr.alloc (D #[Q N op,Q N d,Q N s,Q N t,Q N u,Q N a',Q Z k',Q N pl] 117)=x at *
   obtain⟨e0,e1,e2,e3,e4,e5,e6,e7⟩:=m2.cells
   simp only at e0 e1 e2 e3 e4 e5 e6 e7
   have v0:x.cell? ⟨O,0,U⟩=K (E a2 k cap2):=hO.cell 0
   have HV0:Hid (∀ y,Below x.heap.size x y->y.cell? ⟨O,0,U⟩=K (E a2 k cap2)):=L fun y hy=>(hy.cell (p:=⟨O,0,U⟩) hO.lt).trans v0
   have HV1:Hid (∀ y,Below x.heap.size x y->∀ o,(y.alloc o).cell? ⟨O,0,U⟩=K (E a2 k cap2)):=L fun y hy o=>(Bk.alloc ((hy.block _ hO.lt).trans hO) o).cell 0
   have HOW:Hid (∀ y,Below x.heap.size x y->(y.alloc (D #[Q N op,Q N d,Q N s,Q N t,Q N u,Q N a',Q Z k',Q N pl] 123)).ownsRow w.heap.size 123 8 (E a2 k cap2) k (bu (l.take k))):=L fun y hy=>World.ownsRow.alloc (ar hv (af hy) (by simp)) _
   have HNW:Hid (∀ y:World,∀ (j:Nat) (uu:Value),[Value.int .i64 op,Q N d,Q N s,Q N t,Q N u,Q N a',Q Z k',Q N pl][j]?=K uu->(y.alloc (D #[Q N op,Q N d,Q N s,Q N t,Q N u,Q N a',Q Z k',Q N pl] 123)).cell? ((⟨y.heap.size,0,U⟩:Addr).add j)=K uu):=L fun y=>fB (Bk.made y 123 #[Q N op,Q N d,Q N s,Q N t,Q N u,Q N a',Q Z k',Q N pl])
   have HBS:Hid (∀ y,Below x.heap.size x y->w.heap.size<=(y.alloc (D #[Q N op,Q N d,Q N s,Q N t,Q N u,Q N a',Q Z k',Q N pl] 123)).heap.size):=L fun y hy=>by rw[World.size_alloc];have:=hb.size;have:=hy.size;omega
   have HEND:Hid (∀ y,Below x.heap.size x y->∀ (w':World) (v':Value),w'.ownsRow w.heap.size 123 8 v' (k+1) (bu (l.take k)++jJ ⟨op,d,s,t,u,a',k',pl⟩)->(y.alloc (D #[Q N op,Q N d,Q N s,Q N t,Q N u,Q N a',Q Z k',Q N pl] 123)).grownBy w' (Value.slice a2 k cap2).ownBlock->
    Below w.heap.size w (w'.setCell ⟨O,0,U⟩ v')/\Bk (w'.setCell ⟨O,0,U⟩ v') O 34 #[v',Q N lo,Q N un]/\Bk (w'.setCell ⟨O,0,U⟩ v') (w.heap.size+1) 34 #[E U 0 0,Q N 0,Q N 0]/\(w'.setCell ⟨O,0,U⟩ v').ownsRow w.heap.size 123 8 v' (k+1) (bu (l.take (k+1)))):=
    L fun y hy w' v' h1 h2=>by rw[HT.out];exact Cl hb hO hR (by omega) (by omega) hv hy h1 h2
   have HKO:Hid (∀ y,Below x.heap.size x y->∀ (w':World),(y.alloc (D #[Q N op,Q N d,Q N s,Q N t,Q N u,Q N a',Q Z k',Q N pl] 123)).grownBy w' (Value.slice a2 k cap2).ownBlock->Bk w' O 34 #[E a2 k cap2,Q N lo,Q N un]):=L fun y hy w' hg=>
    Bk.grown (Bk.alloc ((hy.block _ hO.lt).trans hO) _) hg fun e=>by
     obtain⟨cs,hcs⟩:=aY hv e.symm
     exact Bk.av hcs hO (by decide) rfl
   clear hO hR hv hb m2 ha HT
   go_region_law (first
    | (have hy9:=hy;refine kv rfl (.tmp 19) (.tmp 22) 32 rfl _ 64 Tryz.underlying32 vX rfl (by omega) (by omega) (HOW.out y hy) (by simp[Act.eval]) (jJ ⟨op,d,s,t,u,a',k',pl⟩) rfl (ot _) y.heap.size (by simp[Act.eval]) (HNW.out y) (by omega) (HBS.out y hy) ?_;intro v' w' hown hgr hloc;have hko:=HKO.out y hy w' hgr;have ck0:w'.cell? ⟨O,0,U⟩=K (E a2 k cap2):=hko.cell 0;have cf0:=hko.free 0;obtain⟨a3,cap3,rfl,_,_,_⟩:=aX hown)
    | (go_simp;go_at_call 66;refine(HF.out _).mono ?_;rintro e y ⟨rfl,hy0⟩;have hy:Below x.heap.size x y:=ez hy0;have hyv:=HV0.out y hy;have hyo:=HV1.out y hy))
   all_goals (
    have HS:=L (HEND.out y hy w' _ hown hgr)
    clear HOW HNW HBS HEND HKO HV0 HV1 HF hgr hown hloc
    go_wp2
    obtain⟨s1,s2,s3,s4⟩:=HS.out
    go_roundw
    case rel=>exact⟨k+1,_,by go_num,by omega,s1,s2,s3,s4⟩
    case measure=>
     show l.length-((k:Int)+1).toNat<l.length-(k:Int).toNat
     omega)
  ·obtain rfl:k=l.length:=by omega
   have hki:¬ (l.length:Int)<l.length:=by omega
   rw[List.take_length] at hv
   obtain⟨a2,cap2,rfl,hcap2,hmax2,_⟩:=aX hv
   obtain⟨y0,y1,y2⟩:=hO.iS
   obtain⟨z0,z1,z2⟩:=hR.iS
   have zf:=hR.free
   clear ha
   go_wp2
   have h9:=eu hR (E a2 l.length cap2) (Q N lo) (Q N un)
   have b9:=bP hb (by show w.heap.size<=w.heap.size+1;omega) (E a2 l.length cap2) (Q N lo) (Q N un)
   have o9:(dF wr (w.heap.size+1) (E a2 l.length cap2) (Q N lo) (Q N un)).ownsRow w.heap.size 123 8 (E a2 l.length cap2) l.length (bu l):=ar hv ((((ag.refl wr (fun b=>b=w.heap.size+1)).put (w.heap.size+1) 0 (E a2 l.length cap2) (.inl rfl)).put (w.heap.size+1) 1 (Q N lo) (.inl rfl)).put (w.heap.size+1) 2 (Q N un) (.inl rfl)) (fun b e e2=>by
    obtain⟨cs,hcs⟩:=aY hv e
    exact Bk.av hcs hR (by decide) e2)
   generalize hv9:(((wr.setCell ⟨w.heap.size+1,0,U⟩ (E a2 l.length cap2)).setCell ⟨w.heap.size+1,1,U⟩ (Q N lo)).setCell ⟨w.heap.size+1,2,U⟩ (Q N un))=v9
   replace hv9:dF wr (w.heap.size+1) (E a2 l.length cap2) (Q N lo) (Q N un)=v9:=hv9
   rw[hv9] at h9 b9 o9
   obtain⟨q0,q1,q2⟩:=h9.iS
   refine bodyPost_ret (v:=.agg #[E a2 l.length cap2,Q N lo,Q N un]) (by simp[results,Tryz.results32,go_sem,q0,q1,q2]) rfl ⟨E a2 l.length cap2,rfl,o9,b9⟩
theorem rC {w:World}{base:Nat}{t:TypeId}{sl:Value}{c:gp}(h:w.ownsRow base t 8 sl c.l.length (bu c.l)):Pv w (.agg #[sl,Q N c.lo,Q N c.un]) c:=by
 obtain⟨a,cap,rfl,h1,h2,_⟩:=aX h
 exact⟨a,cap,rfl,h1,h2,wh h,vW h⟩
theorem Cc (i j:aU)(w:World):(binOp .neq 123 (iv i) (iv j)).run Tryz.prog w=.ok (.bool (!dg i j)) w:=by
 unfold iv
 have hu:=Tryz.underlying123
 go_simp
 unfold dg
 repeat' split
 all_goals simp[*]
theorem lB (w:World)(t:TypeId)(xs ys:Array Value):Below w.heap.size w ((w.alloc (.cells xs t)).alloc (.cells ys t))/\Bk ((w.alloc (.cells xs t)).alloc (.cells ys t)) w.heap.size t xs/\Bk ((w.alloc (.cells xs t)).alloc (.cells ys t)) (w.heap.size+1) t ys:=by
 have h:=Bk.made (w.alloc (.cells xs t)) t ys
 rw[World.size_alloc] at h
 exact⟨((Below.refl _ _).alloc (M _) _).alloc (by simp) _,(Bk.made w t xs).alloc _,h⟩
theorem FM (c d:gp)(v u:Value)(w:World)(hv:Pv w v c)(hu:Pv w u d)(hl:c.l.length<=100000):
 Calls Tryz.prog 30 #[v,u] w fun e w'=>e=.returned (.bool (jL c d))/\Below w.heap.size w w':=by
 obtain⟨a,ca,rfl,_,_,_,ha⟩:=hv
 obtain⟨b,cb,rfl,_,_,_,hb⟩:=hu
 have HE:Hid (jL c d=(decide (c.lo=d.lo) && (decide (c.un=d.un) && gA c.l d.l))):=L rfl
 obtain⟨bb,k1,k2⟩:=lB w 34 #[E a c.l.length ca,Q N c.lo,Q N c.un] #[E b d.l.length cb,Q N d.lo,Q N d.un]
 replace ha:=ha.below bb
 replace hb:=hb.below bb
 generalize jL c d=r at *
 obtain⟨l,lo,un⟩:=c
 obtain⟨m,lo2,un2⟩:=d
 simp only at HE bb k1 k2 ha hb hl ⊢
 go_enter Tryz.func30,Tryz.ntmps30
 go_upto_region 1 with fail
 generalize (w.alloc (D #[E a l.length ca,Q N lo,Q N un] 34)).alloc (D #[E b m.length cb,Q N lo2,Q N un2] 34)=x at *
 obtain⟨x0,x1,x2⟩:=k1.iS
 obtain⟨y0,y1,y2⟩:=k2.iS
 by_cases hlm:l.length=m.length
 case neg=>
  have hne:((l.length:Int) != m.length)=G:=by simp;omega
  have HS:=L (xh hlm)
  clear hlm
  go_wp2
  go_ret
  exact⟨by rw[HE.out,HS.out];simp,bb⟩
 case pos=>
  have hne:((l.length:Int) != m.length)=J:=by simp;omega
  by_cases h1:lo=lo2
  case neg=>
   have e1:(lo != lo2)=G:=by simpa using h1
   have H1:=L h1
   clear h1
   go_wp2
   go_ret
   exact⟨by rw[HE.out];simp[H1.out],bb⟩
  case pos=>
   by_cases h2:un=un2
   case neg=>
    have e1:(lo != lo2)=J:=by simpa using h1
    have e2:(un != un2)=G:=by simpa using h2
    have H2:=L h2
    clear h2 h1
    go_wp2
    go_ret
    exact⟨by rw[HE.out];simp[H2.out],bb⟩
   case pos=>
    have HS:Hid (r=gA (l.drop 0) (m.drop 0)):=L (by rw[HE.out];simp[h1,h2])
    have e1:(lo != lo2)=J:=by simpa using h1
    have e2:(un != un2)=J:=by simpa using h2
    clear HE h1 h2
    go_wp2
    go_loopw [4,30] (fun q i wr=>∃ k:Nat,q=.bool J/\k<=l.length/\i=Q N k/\Below x.heap.size x wr/\Hid (r=gA (l.drop k) (m.drop k))) (fun _ i _=>l.length-(intOf i).toNat)
    case atStart=>exact⟨0,rfl,Nat.zero_le _,rfl,Below.refl _ _,HS⟩
    case round=>
     obtain⟨k,rfl,hk,rfl,hbw,HR⟩:=hrel
     have z0:wr.cell? ⟨w.heap.size,0,U⟩=K (E a l.length ca):=(hbw.cell (p:=⟨w.heap.size,0,U⟩) k1.lt).trans x0
     have z1:wr.cell? ⟨w.heap.size+1,0,U⟩=K (E b m.length cb):=(hbw.cell (p:=⟨w.heap.size+1,0,U⟩) k2.lt).trans y0
     by_cases hlt:k<l.length
     ·have hki:(k:Int)<l.length:=by omega
      have hkj:(k:Int)<m.length:=by omega
      have HD:=L (uh l m k hlt (by omega))
      obtain⟨ba,oa,rfl,_,a0,a1,a2,a3,a4,a5,a6,a7⟩:=(ha.below hbw).at_ (List.getElem?_eq_getElem hlt)
      obtain⟨bb2,ob,rfl,_,b0,b1,b2,b3,b4,b5,b6,b7⟩:=(hb.below hbw).at_ (List.getElem?_eq_getElem (show k<m.length by omega))
      have hq:=Cc l[k] m[k]
      generalize l[k]=i at *
      generalize m[k]=j at *
      have HE:Hid (r=(dg i j && gA (l.drop (k+1)) (m.drop (k+1)))):=L (by rw[HR.out,HD.out])
      clear HR HD ha hb x0 x1 x2 y0 y1 y2
      obtain⟨i0,i1,i2,i3,i4,i5,i6,i7⟩:=i
      obtain⟨j0,j1,j2,j3,j4,j5,j6,j7⟩:=j
      simp only at a0 a1 a2 a3 a4 a5 a6 a7 b0 b1 b2 b3 b4 b5 b6 b7
      unfold iv at hq
      simp only at hq
      generalize dg ⟨i0,i1,i2,i3,i4,i5,i6,i7⟩ ⟨j0,j1,j2,j3,j4,j5,j6,j7⟩=t at *
      have hend:=bb.trans (hbw.mono bb.size)
      cases t with
      | true=>
       have HE2:Hid (r=gA (l.drop (k+1)) (m.drop (k+1))):=L (by rw[HE.out];simp)
       clear HE
       go_wp2
       go_quiet (fail)
       go_wp2
       go_roundw
       case rel=>exact⟨k+1,rfl,by omega,by go_num,Below.trans hbw ⟨rfl,rfl,rfl,M _,fun _ _=>rfl⟩,HE2⟩
       case measure=>
        show l.length-((k:Int)+1).toNat<l.length-(k:Int).toNat
        omega
      | false=>
       have HE2:Hid (r=J):=L (by rw[HE.out];simp)
       clear HE
       go_wp2
       go_quiet (fail)
       go_wp2
       go_ret
       exact⟨by rw[HE2.out];rfl,Below.trans hend ⟨rfl,rfl,rfl,M _,fun _ _=>rfl⟩⟩
     ·have hki:¬ (k:Int)<l.length:=by omega
      have HE2:Hid (r=G):=L (by rw[HR.out,List.drop_of_length_le (by omega),List.drop_of_length_le (by omega)];rfl)
      go_wp2
      go_ret
      exact⟨by rw[HE2.out];rfl,bb.trans (hbw.mono bb.size)⟩
end
section
open Go.Joins Go.ChangeShapes Go.WideShapes Go.ChangeAt Go.RowKit Go.Deep
theorem GS:ownKnob Tryz.prog.godebug=U:=by kernel_rfl
theorem Au:laidOutB Tryz.prog=G:=by kernel_rfl
theorem Gh: "*errors.errorString" = "*"++ "errors.errorString":=by decide
theorem Bx (u:TypeId)(h:Tryz.prog.typeName? 3 u=K "*errors.errorString"):u=309:=
 typeName_ptr_named (nm:= "errors.errorString") (by rw[<-Gh];kernel_rfl) (by kernel_rfl) (by decide) u (by rw[<-Gh];exact h)
theorem zq {W:World}(hL:laidMet Tryz.prog [("math/bits.deBruijn32tab",Rows.laid_math_bits_deBruijn32tab),("math/bits.deBruijn64tab",Rows.laid_math_bits_deBruijn64tab),("internal/strconv.uint64pow10",Rows.laid_internal_strconv_uint64pow10),("unicode/utf8.acceptRanges",Rows.laid_unicode_utf8_acceptRanges),("strconv.ErrRange",Rows.laid_strconv_ErrRange),("strconv.ErrSyntax",Rows.laid_strconv_ErrSyntax),("unicode/utf8.first",Rows.laid_unicode_utf8_first)] W)(hsh:W.ShapedOpen Tryz.prog):Lb W:=by
 have h2:=hL.tail.tail
 have h4:=h2.tail.tail
 have tab:Lib.TabIs Tryz.prog W "internal/strconv.uint64pow10" .u64 Lib.pow10Tab:=
  Lib.tabIs_of_head (g:=5) (by kernel_rfl) (by kernel_rfl) Tryz.underlying313 Tryz.underlying289 (by kernel_rfl) (by kernel_rfl) h2
 obtain⟨a1,_,hv1,_⟩:=laid_sentinel h4 (g:=2) (by kernel_rfl) (by kernel_rfl) Tryz.underlying272 (Bx) Tryz.underlying309 Tryz.underlying311 rfl rfl Tryz.underlying9 (by kernel_rfl) (by kernel_rfl)
 obtain⟨a2,_,hv2,_⟩:=laid_sentinel h4.tail (g:=1) (by kernel_rfl) (by kernel_rfl) Tryz.underlying272 (Bx) Tryz.underlying309 Tryz.underlying311 rfl rfl Tryz.underlying9 (by kernel_rfl) (by kernel_rfl)
 obtain⟨m,hm⟩:=Tryz.laysM147.s1_3 W hsh
 have c0:W.cell? ⟨0,0,U⟩=K (.int .i64 m):=hm
 have c1:=tab.cell (g:=5) (by kernel_rfl) 0 (by decide)
 have c2:=World.var?_cell (g:=1) (by kernel_rfl) hv2 0
 have c3:=World.var?_cell (g:=2) (by kernel_rfl) hv1 0
 exact⟨tab,⟨_,_,hv2⟩,⟨_,_,hv1⟩,⟨m,c0⟩,World.block_lt_of_cell? W _ c0,World.block_lt_of_cell? W _ c1,World.block_lt_of_cell? W _ c2,World.block_lt_of_cell? W _ c3⟩
theorem fM {H:Type}{enc:TypeId×Value->H}{a:Assume}{C:Checked}{os:Os}{f:FuncId}{fn:Func}{s:ChangeSpec}{conds:List PathCond}{apart fresh handsOn again:Bool}{X:World->Array Value->Prop}
 (hX:∀ (w w':World) (args:Array Value),w.heap=w'.heap->X w args->X w' args)
 (own:ownKnob C.prog.godebug=U) (started:os.Started) (noInit:C.prog.inits.idxOf? f=U) (hfn:C.prog.funcs[f]?=K fn)
 (witness:∃ (w:World) (tape:Tape) (i:Input),w.os=os/\(w.forCall tape i).Shaped C.prog/\i.vars=[]/\Input.okWide C.prog (w.forCall tape i) .any w.heap.size f i/\
  ((s.pre enc C.prog fn conds apart (w.forCall tape i).memory i.args/\X (w.forCall tape i).memory i.args)/\sizedMet enc C.prog fn (OpenSpec.ofChange s) apart (w.forCall tape i).memory i.args)/\a.holds C.prog (lone (Frame.enter C.prog f i.args .normal) [] (w.forCall tape i)))
 (walk:∀ (W:World) (base:Nat) (args:Array Value) (ds gs:List (DataW H)) (before:List MemPlace),
  (∀ (j:Nat) t v,fn.params[j]?=K t->args[j]?=K v->Value.okWide C.prog W .any base t v)->
  DataW.Whole enc C.prog fn.params.toList s.vars apart W args.toList ds gs before->X W args->W.ShapedOpen C.prog->
  Calls C.prog f args W fun e W'=>∃ v,e=.returned v/\s.post enc C.prog fn apart fresh handsOn again W args v W'):
 ReturnsInHanded a C os f .any (fun w args=>(s.pre enc C.prog fn conds apart w args/\X w args)/\sizedMet enc C.prog fn (OpenSpec.ofChange s) apart w args) (s.post enc C.prog fn apart fresh handsOn again):=by
 refine returnsInHanded_of_calls own started noInit witness fun w tape i _ hsh _ hok hpre _=>?_
 obtain⟨_,_,_,fn',hfn',_,_,_,_,hval⟩:=hok
 obtain rfl:fn'=fn:=Option.some.inj (hfn'.symm.trans hfn)
 obtain⟨⟨⟨ds,gs,before,hw,_⟩,hx⟩,_⟩:=hpre
 refine(walk (w.forCall tape i) w.heap.size i.args ds gs before hval (DataW.Whole.of_heap (by rfl) hw) (hX _ _ _ (by rfl) hx) hsh).mono fun e W' ⟨v,he,hp⟩=>?_
 subst he
 exact ChangeSpec.post_blind hp
end
section
open Go.ChangeShapes Go.WideShapes Go.ChangeAt Go.RowKit
def GU (xs:List Int)(pc:Int):List Value:=xs.map (Value.int .u32)++[Q N pc]
def cv (xs:List Int)(pc:Int):Value:=.agg (GU xs pc).toArray
end
