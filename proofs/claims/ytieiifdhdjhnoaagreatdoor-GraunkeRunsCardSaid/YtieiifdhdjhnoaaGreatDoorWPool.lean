import Derived.Test.YtieiifdhdjhnoaaGreatDoorWRing
import Derived.Test.YtieiifdhdjhnoaaGreatDoorWCell
import Derived.Maps.RangeWalk
set_option maxHeartbeats 1000000
set_option maxRecDepth 100000
open Go.Value renaming int->I,pointer->T
open Go.IntKind renaming i64->Q
open Option renaming none->O,some->Z
open Bool renaming false->V
open Go.Lib renaming hid->R
namespace Go.Proofs.YtieiifdhdjhnoaaGreatDoor
open Go.ChangeShapes Go.WideShapes Go.ChangeAt Go.RowKit
def wR {α:Type}(f:Nat->α)(t:Nat)(v:α):Nat->α:=fun i=>if i=t then v else f i
theorem bj {α:Type}(f:Nat->α)(t:Nat)(v:α):wR f t v t=v:=by simp[wR]
theorem aT {α:Type}{f:Nat->α}{t i:Nat}{v:α}(h:i≠t):wR f t v i=f i:=by simp[wR,h]
structure PM where
 g:Nat
 b:Nat
 ps:Nat->Nat
 ogs:Nat->Option Nat
def PM.Has (M:PM)(n i:Nat):Prop:=i=M.b\/∃ j,j<n/\(i=M.ps j\/M.ogs j=Z i)
def jE (ps:Nat->Nat)(n k:Nat):Array Value:=((List.range n).map (fun i=>if i<k then Value.pointer (Z ⟨ps i,0,O⟩) else T O)).toArray
theorem qJ (ps:Nat->Nat)(n k i:Nat)(h:i<n):(jE ps n k)[i]?=Z (if i<k then Value.pointer (Z ⟨ps i,0,O⟩) else T O):=by simp[jE,h]
theorem sy (ps:Nat->Nat)(n:Nat):madeCells #[T O] n=jE ps n 0:=by
 apply Array.ext
 ·simp[madeCells,jE]
 ·intro i h1 h2;simp[madeCells,jE,Nat.mod_one]
theorem uT (ps:Nat->Nat)(n k q:Nat):(jE ps n k).setIfInBounds k (T (Z ⟨q,0,O⟩))=jE (wR ps k q) n (k+1):=by
 unfold jE
 rw[List.setIfInBounds_toArray]
 congr 1
 apply List.ext_getElem?
 intro i
 simp only[List.getElem?_set,List.length_map,List.length_range,List.getElem?_map]
 by_cases hi:i<n
 ·rw[List.getElem?_range hi]
  by_cases e:k=i
  ·subst e;simp[hi,bj]
  ·have h1:(i<k+1)↔i<k:=by omega
   have h2:wR ps k q i=ps i:=aT (fun h=>e h.symm)
   simp[e,h1,h2]
 ·rw[List.getElem?_eq_none (by simpa using hi)]
  simp;omega
structure Pl (w:World)(p n each:Nat)(M:PM)(fr:Nat->List Int)(os:Int->Bool)(c:Nat):Prop where
 ptr:Bk w p 172 #[I Q each,.slice (Z ⟨M.g,0,O⟩) n n,.map (Z M.b)]
 row:Bk w M.g 173 (jE M.ps n n)
 rings:∀ i,i<n->RWord.Rg w (M.ps i) (M.ogs i) each (fr i)
 set:gE w M.b os c
 psne:∀ i j,i<n->j<n->i≠j->M.ps i≠M.ps j
 ogne:∀ i j g,i<n->j<n->i≠j->M.ogs i=Z g->M.ogs j≠Z g
 few:n<=64
 one:1<=n
 eight:each<=8
theorem pV {w:World}{p:Nat}{og:Option Nat}{r:Nat}{vs:List Int}(h:RWord.Rg w p og r vs):∃ cs,Bk w p 253 cs:=by
 obtain⟨n,f,cs,h⟩:=h;exact⟨_,h.hd⟩
theorem ly {w:World}{p g:Nat}{og:Option Nat}{r:Nat}{vs:List Int}(h:RWord.Rg w p og r vs)(e:og=Z g):∃ cs,Bk w g 70 cs:=by
 obtain⟨n,f,cs,h⟩:=h;exact⟨_,h.row g e⟩
section
variable {w w':World}{p n each c:Nat}{M:PM}{fr:Nat->List Int}{os:Int->Bool}
theorem Pl.c0 (h:Pl w p n each M fr os c):w.cell? ⟨p,0,O⟩=Z (I Q each):=by rw[h.ptr.cell];rfl
theorem Pl.c1 (h:Pl w p n each M fr os c):w.cell? ⟨p,1,O⟩=Z (.slice (Z ⟨M.g,0,O⟩) n n):=by rw[h.ptr.cell];rfl
theorem Pl.c2 (h:Pl w p n each M fr os c):w.cell? ⟨p,2,O⟩=Z (.map (Z M.b)):=by rw[h.ptr.cell];rfl
theorem Pl.at_ (h:Pl w p n each M fr os c){i:Nat}(hi:i<n):w.cell? ⟨M.g,i,O⟩=Z (T (Z ⟨M.ps i,0,O⟩)):=by rw[h.row.cell,qJ _ _ _ _ hi,if_pos hi]
theorem Pl.drewN (h:Pl w p n each M fr os c)(m:Nat):Pl (w.drewN m) p n each M fr os c:=⟨h.ptr,h.row,fun i hi=>(h.rings i hi).dg m,h.set,h.psne,h.ogne,h.few,h.one,h.eight⟩
theorem Pl.lt (h:Pl w p n each M fr os c){i:Nat}(k:M.Has n i):i<w.heap.size:=by
 rcases k with rfl | ⟨j,hj,rfl | e⟩
 ·exact h.set.lt
 ·exact(h.rings j hj).BP
 ·exact(h.rings j hj).wY e
theorem Pl.BP (h:Pl w p n each M fr os c):p<w.heap.size:=h.ptr.lt
theorem Pl.wY (h:Pl w p n each M fr os c):M.g<w.heap.size:=h.row.lt
theorem Pl.dz {q:Nat}{t:TypeId}{cs:Array Value}(h:Pl w p n each M fr os c)(k:Bk w q t cs)(h1:t≠253)(h2:t≠70):¬ M.Has n q:=by
 rintro(e | ⟨j,hj,e | e⟩)
 ·exact h.set.fx k e.symm
 ·obtain⟨cs',hb⟩:=pV (h.rings j hj)
  exact Bk.aj k hb h1 e
 ·obtain⟨cs',hb⟩:=ly (h.rings j hj) e
  exact Bk.aj k hb h2 rfl
theorem Pl.kept {S:Nat->Prop}(h:Pl w p n each M fr os c)(k:ab w w' S)(h1:¬ S p)(h2:¬ S M.g)(h3:∀ i,M.Has n i->¬ S i):Pl w' p n each M fr os c:=
 ⟨h.ptr.within k h1,h.row.within k h2,fun i hi=>(h.rings i hi).kept k (h3 _ (.inr ⟨i,hi,.inl rfl⟩)) (fun _ e=>h3 _ (.inr ⟨i,hi,.inr e⟩)),h.set.within k (h3 _ (.inl rfl)),h.psne,h.ogne,h.few,h.one,h.eight⟩
theorem Pl.grown (h:Pl w p n each M fr os c)(k:w.grownBy w' O):Pl w' p n each M fr os c:=h.kept (S:=fun _=>False) (.az k (by simp)) (by simp) (by simp) (by simp)
theorem Pl.ring (h:Pl w p n each M fr os c){t:Nat}(ht:t<n){og:Option Nat}{vs:List Int}(hr:RWord.Rg w' (M.ps t) og each vs)(k:nR w (M.ps t) (M.ogs t) w' og):
 Pl w' p n each { M with ogs:=wR M.ogs t og } (wR fr t vs) os c:=by
 obtain⟨k1,k2⟩:=k
 have hin:∀ i,(i=M.ps t\/Z i=M.ogs t)->M.Has n i:=fun i e=>.inr ⟨t,ht,e.imp id Eq.symm⟩
 have hp:¬ (p=M.ps t\/Z p=M.ogs t):=fun e=>h.dz h.ptr (by decide) (by decide) (hin _ e)
 have hg:¬ (M.g=M.ps t\/Z M.g=M.ogs t):=fun e=>h.dz h.row (by decide) (by decide) (hin _ e)
 have hb:¬ (M.b=M.ps t\/Z M.b=M.ogs t):=by
  rintro(e | e)
  ·obtain⟨cs,hc⟩:=pV (h.rings t ht);exact h.set.fx hc e
  ·obtain⟨cs,hc⟩:=ly (h.rings t ht) e.symm;exact h.set.fx hc rfl
 refine⟨h.ptr.within k2 hp,h.row.within k2 hg,fun i hi=>?_,h.set.within k2 hb,h.psne,fun i j g hi hj hne=>?_,h.few,h.one,h.eight⟩
 ·by_cases e:i=t
  ·subst e;simp only[bj];exact hr
  ·simp only[aT e]
   refine(h.rings i hi).kept k2 ?_ (fun g eg=>?_)
   ·rintro(e' | e')
    ·exact h.psne i t hi ht e e'
    ·obtain⟨cs,hc⟩:=pV (h.rings i hi)
     obtain⟨cs',hc'⟩:=ly (h.rings t ht) e'.symm
     exact Bk.aj hc hc' (by decide) rfl
   ·rintro(e' | e')
    ·obtain⟨cs,hc⟩:=ly (h.rings i hi) eg
     obtain⟨cs',hc'⟩:=pV (h.rings t ht)
     exact Bk.aj hc hc' (by decide) e'
    ·exact h.ogne i t g hi ht e eg e'.symm
 ·intro e1 e2
  by_cases ei:i=t
  ·subst ei
   simp only[bj,aT (fun e=>hne e.symm)] at e1 e2
   rcases k1 with e | ⟨g',e,hg'⟩
   ·rw[e] at e1;exact h.ogne i j g hi hj hne e1 e2
   ·rw[e] at e1;injection e1 with e1;subst e1
    have:=(h.rings j hj).wY e2;omega
  ·simp only[aT ei] at e1
   by_cases ej:j=t
   ·subst ej
    simp only[bj] at e2
    rcases k1 with e | ⟨g',e,hg'⟩
    ·rw[e] at e2;exact h.ogne i j g hi hj hne e1 e2
    ·rw[e] at e2;injection e2 with e2;subst e2
     have:=(h.rings i hi).wY e1;omega
   ·simp only[aT ej] at e2
    exact h.ogne i j g hi hj hne e1 e2
theorem Pl.outs (h:Pl w p n each M fr os c){os':Int->Bool}{c':Nat}(ho:gE w' M.b os' c')(k:fD w w' M.b):Pl w' p n each M fr os' c':=by
 have k':ab w w' (fun i=>i=M.b):=.az k (by simp)
 refine⟨h.ptr.within k' (fun e=>h.set.fx h.ptr e.symm),h.row.within k' (fun e=>h.set.fx h.row e.symm),fun i hi=>?_,ho,h.psne,h.ogne,h.few,h.one,h.eight⟩
 refine(h.rings i hi).kept k' (fun e=>?_) (fun g eg e=>?_)
 ·obtain⟨cs,hc⟩:=pV (h.rings i hi);exact h.set.fx hc e.symm
 ·obtain⟨cs,hc⟩:=ly (h.rings i hi) eg;exact h.set.fx hc e.symm
def eu (w:World)(n:Nat)(M:PM)(w':World)(M':PM):Prop:=M'.g=M.g/\ab w w' (M.Has n)/\∀ i,M'.Has n i->M.Has n i\/w.heap.size<=i
theorem eu.refl (w:World)(n:Nat)(M:PM):eu w n M w M:=⟨rfl,ab.refl _ _,fun _ h=>.inl h⟩
theorem eu.dg {M':PM}(h:eu w n M w' M')(m:Nat):eu w n M (w'.drewN m) M':=⟨h.1,h.2.1.dg m,h.2.2⟩
theorem eu.bp {w'':World}{M' M'':PM}(h:eu w n M w' M')(k:eu w' n M' w'' M''):eu w n M w'' M'':=
 ⟨k.1.trans h.1,h.2.1.bp k.2.1 h.2.2,fun i hi=>by
  rcases k.2.2 i hi with e | e
  ·exact h.2.2 i e
  ·exact .inr (Nat.le_trans h.2.1.size e)⟩
theorem eu.ring {t:Nat}(ht:t<n){og:Option Nat}(k:nR w (M.ps t) (M.ogs t) w' og):eu w n M w' { M with ogs:=wR M.ogs t og }:=by
 refine⟨rfl,k.2.wide (fun i e _=>.inr ⟨t,ht,e.imp id Eq.symm⟩),fun i hi=>?_⟩
 rcases hi with e | ⟨j,hj,e | e⟩
 ·exact .inl (.inl e)
 ·exact .inl (.inr ⟨j,hj,.inl e⟩)
 ·by_cases ej:j=t
  ·subst ej
   simp only[bj] at e
   rcases k.1 with e' | ⟨g',e',hg⟩
   ·rw[e'] at e;exact .inl (.inr ⟨j,hj,.inr e⟩)
   ·rw[e'] at e;injection e with e;subst e;exact .inr hg
  ·simp only[aT ej] at e
   exact .inl (.inr ⟨j,hj,.inr e⟩)
theorem eu.outs (k:fD w w' M.b):eu w n M w' M:=⟨rfl,.az k (fun i e=>.inl (.inl (by injection e with e;exact e.symm))),fun _ h=>.inl h⟩
theorem m7 (h:Pl w p n each M fr os c)(t:Nat)(ht:t<n):
 Calls Tryz.prog 120 #[T (Z ⟨p,0,O⟩),I Q t] w fun e w'=>e=.returned (.bool true)/\w=w':=by
 have h0:=h.c1
 have hf:=h.few
 go_enter Tryz.func120,Tryz.ntmps120
 go_wp2
 go_ret
 exact⟨rfl,rfl⟩
theorem E9 (h:Pl w p n each M fr os c)(x:Int)(h0:0<=x)(h1:x<4294967296):
 Calls Tryz.prog 123 #[T (Z ⟨p,0,O⟩),I .u32 x] w fun e w'=>e=.returned (.bool (os x))/\w=w':=by
 have c2:=h.c2
 have hl:=h.set.look h0 h1
 go_enter Tryz.func123,Tryz.ntmps123
 go_wp2
 go_ret
 exact⟨rfl,rfl⟩
theorem Et (h:Pl w p n each M fr os c)(t:Nat)(ht:t<n):
 Calls Tryz.prog 93 #[T (Z ⟨p,0,O⟩),I Q t] w fun e w'=>e=.returned (I Q ((each-(fr t).length:Nat):Int))/\∃ m,w'=w.drewN m:=by
 have c1:=h.c1
 have c2:=h.at_ ht
 have hf:=h.few
 go_enter Tryz.func93,Tryz.ntmps93
 go_wp2_with fail
 refine(m7 h t ht).mono ?_
 rintro e w' ⟨rfl,rfl⟩
 go_wp2_with fail
 refine(RWord.Au (h.rings t ht)).mono ?_
 rintro e w' ⟨rfl,m,rfl⟩
 go_wp2
 go_ret
 exact⟨rfl,_,rfl⟩
theorem sA (h:Pl w p n each M fr os c)(t:Nat)(ht:t<n)(he:fr t=[]):
 Calls Tryz.prog 81 #[T (Z ⟨p,0,O⟩),I Q t] w fun e w'=>e=.returned (.tuple #[I .u32 0,I Q 0])/\w=w':=by
 have c1:=h.c1
 have c2:=h.at_ ht
 have hf:=h.few
 have hr:=h.rings t ht
 rw[he] at hr
 go_enter Tryz.func81,Tryz.ntmps81
 go_wp2_with fail
 refine(m7 h t ht).mono ?_
 rintro e w' ⟨rfl,rfl⟩
 go_wp2_with fail
 refine(RWord.Aj hr).mono ?_
 rintro e w' ⟨rfl,rfl⟩
 go_wp2
 go_ret2
 exact⟨rfl,rfl⟩
def EY (w:World)(p n each:Nat)(M:PM)(fr:Nat->List Int)(os:Int->Bool)(c t:Nat)(x:Int)(vs:List Int)(e:Ending)(w':World):Prop:=
 ∃ M',e=.returned (.tuple #[I .u32 x,I Q 0])/\Pl w' p n each M' (wR fr t vs) (lA os x true) (c+1)/\eu w n M w' M'
theorem CP (h:Pl w p n each M fr os c)(hc:c<1000000)(t:Nat)(ht:t<n){x:Int}{vs:List Int}(he:fr t=x :: vs)(h0:0<=x)(h1:x<4294967296)(hx:os x=V):
 Calls Tryz.prog 81 #[T (Z ⟨p,0,O⟩),I Q t] w (EY w p n each M fr os c t x vs):=by
 have c1:=h.c1
 have c2:=h.at_ ht
 have hf:=h.few
 have hr:=h.rings t ht
 rw[he] at hr
 go_enter Tryz.func81,Tryz.ntmps81
 go_wp2_with fail
 refine(m7 h t ht).mono ?_
 rintro e w' ⟨rfl,rfl⟩
 go_wp2_with fail
 refine(RWord.Ai hr).mono ?_
 rintro e w2 ⟨rfl,hr2,hw2⟩
 have hmv:nR w (M.ps t) (M.ogs t) w2 (M.ogs t):=⟨.inl rfl,hw2⟩
 have hp2:=h.ring ht hr2 hmv
 have hs2:=eu.ring (n:=n) ht hmv
 clear c1 c2 hr
 have d2:=hp2.c2
 obtain⟨w3,hup,ho,hg⟩:=hp2.set.add hc h0 h1 hx
 simp only at d2 hup ho hg
 have HP:=R hp2
 have HS:=R hs2
 clear hp2 hs2
 go_wp2
 go_ret2
 exact⟨_,rfl,HP.out.outs ho hg,HS.out.bp (eu.outs hg)⟩
end
section
variable {w w':World}{p n each c:Nat}{M:PM}{fr:Nat->List Int}{os:Int->Bool}
def nC (n each:Nat)(x:Int):Prop:=x % 4096<1\/((n*each:Nat):Int)<x % 4096
theorem uV (h:Pl w p n each M fr os c)(x:Int)(h0:0<=x)(h1:x<4294967296)(hx:nC n each x):
 Calls Tryz.prog 122 #[T (Z ⟨p,0,O⟩),I .u32 x] w fun e w'=>e=.returned (.tuple #[I Q 0,.bool V])/\∃ m,w'=w.drewN m:=by
 have c0:=h.c0
 have c1:=h.c1
 have hf:=h.few
 have he:=h.eight
 rcases hx with hx | hx
 ·have t1:decide (x % 4096<1)=true:=decide_eq_true hx
  go_enter Tryz.func122,Tryz.ntmps122
  go_wp2_with fail
  refine(nB x h0 h1 _).mono ?_
  rintro e w' ⟨rfl,rfl⟩
  go_wp2
  go_quiet (fail)
  go_wp2
  go_ret2
  exact⟨rfl,_,rfl⟩
 ·have hb:n*each<=64*8:=Nat.mul_le_mul hf he
  have e1:((n*each:Nat):Int)=(n:Int)*(each:Int):=by simp
  have t1:decide (x % 4096<1)=V:=by simp;omega
  have t2:decide (((n:Int)*(each:Int))<x % 4096)=true:=by rw[<-e1];exact decide_eq_true hx
  have t3:wrap64 ((n:Int)*(each:Int))=(n:Int)*(each:Int):=IntWalk.wrap64_in _ (by omega)
  clear hx hb e1
  go_enter Tryz.func122,Tryz.ntmps122
  go_wp2_with fail
  refine(nB x h0 h1 _).mono ?_
  rintro e w' ⟨rfl,rfl⟩
  go_wp2
  go_quiet (fail)
  go_wp2
  go_ret2
  exact⟨rfl,_,rfl⟩
theorem ua (h:Pl w p n each M fr os c)(x:Int)(h0:0<=x)(h1:x<4294967296){t i:Nat}(hi:i<each)(ht:t<n)(hx:x % 4096=((t*each+i+1:Nat):Int)):
 Calls Tryz.prog 122 #[T (Z ⟨p,0,O⟩),I .u32 x] w fun e w'=>e=.returned (.tuple #[I Q t,.bool true])/\∃ m,w'=w.drewN m:=by
 have c0:=h.c0
 have c1:=h.c1
 have hf:=h.few
 have he:=h.eight
 have hb:n*each<=64*8:=Nat.mul_le_mul hf he
 have hle:t*each+i+1<=n*each:=by
  have:(t+1)*each<=n*each:=Nat.mul_le_mul_right _ ht
  rw[Nat.add_mul,Nat.one_mul] at this
  omega
 have e1:((n*each:Nat):Int)=(n:Int)*(each:Int):=by simp
 have t1:decide (x % 4096<1)=V:=by simp;omega
 have t2:decide (((n:Int)*(each:Int))<x % 4096)=V:=by rw[<-e1];simp;omega
 have t3:wrap64 ((n:Int)*(each:Int))=(n:Int)*(each:Int):=IntWalk.wrap64_in _ (by omega)
 have hz:¬ (each:Int)=0:=by omega
 have hq:(x % 4096-1).tdiv (each:Int)=(t:Int):=by
  rw[hx,show ((t*each+i+1:Nat):Int)-1=((t*each+i:Nat):Int) by omega,<-Int.ofNat_tdiv,Nat.mul_comm,Nat.mul_add_div (by omega),Nat.div_eq_of_lt hi,Nat.add_zero]
 have HX:=R hx
 have HLE:=R hle
 clear hb e1 hx hle
 go_enter Tryz.func122,Tryz.ntmps122
 go_wp2_with fail
 refine(nB x h0 h1 _).mono ?_
 rintro e w' ⟨rfl,rfl⟩
 go_wp2
 go_quiet (fail)
 go_wp2
 go_ret2
 exact⟨rfl,_,rfl⟩
theorem AN:
 Calls Tryz.prog 82 #[T (Z ⟨p,0,O⟩),I .u32 0] w fun e w'=>e=.returned (I Q 0)/\w=w':=by
 go_enter Tryz.func82,Tryz.ntmps82
 go_wp2
 go_ret
 exact⟨rfl,rfl⟩
theorem ue (n each:Nat)(x:Int)(h:¬ nC n each x):∃ t i,t<n/\i<each/\x % 4096=((t*each+i+1:Nat):Int):=by
 unfold nC at h
 have h1:1<=x % 4096:=by omega
 have h2:x % 4096<=((n*each:Nat):Int):=by omega
 obtain⟨k,hk⟩:=Int.eq_ofNat_of_zero_le (show 0<=x % 4096-1 by omega)
 have hlt:k<n*each:=by omega
 have he:0<each:=Nat.pos_of_ne_zero (fun e=>by subst e;simp at hlt)
 refine⟨k / each,k % each,?_,Nat.mod_lt _ he,?_⟩
 ·exact(Nat.div_lt_iff_lt_mul he).2 hlt
 ·rw[Nat.mul_comm,Nat.div_add_mod];omega
theorem xG (h:Pl w p n each M fr os c)(x:Int)(h0:0<=x)(h1:x<4294967296)(hx:os x=V)(hz:x≠0):
 Calls Tryz.prog 82 #[T (Z ⟨p,0,O⟩),I .u32 x] w fun e w'=>e=.returned (I Q 10)/\∃ m,w'=w.drewN m:=by
 have hI:=R hx
 clear hx
 by_cases hn:nC n each x
 ·go_enter Tryz.func82,Tryz.ntmps82
  go_wp2_with fail
  refine(uV h x h0 h1 hn).mono ?_
  rintro e w' ⟨rfl,m,rfl⟩
  go_wp2
  go_ret
  exact⟨rfl,_,rfl⟩
 ·obtain⟨t,i,ht,hi,hx⟩:=ue n each x hn
  have hO:=ua h x h0 h1 hi ht hx
  clear hx hn
  go_enter Tryz.func82,Tryz.ntmps82
  go_wp2_with fail
  refine hO.mono ?_
  clear hO
  rintro e w' ⟨rfl,m,rfl⟩
  go_wp2_with fail
  refine(E9 (h.drewN m) x h0 h1).mono ?_
  rintro e w' ⟨rfl,rfl⟩
  rw[hI.out]
  go_wp2
  go_ret
  exact⟨rfl,_,rfl⟩
def FY (x:Int):Int:=(x / 4096+1) % 262144*4096+x % 4096
def E0 (w:World)(p n each:Nat)(M:PM)(fr:Nat->List Int)(os:Int->Bool)(c t:Nat)(x:Int)(e:Ending)(w':World):Prop:=
 ∃ M',e=.returned (I Q 0)/\Pl w' p n each M' (wR fr t (fr t++[FY x])) (lA os x V) (c-1)/\eu w n M w' M'
theorem qi {w w':World}{S:Nat->Prop}(h:ab w.drew w' S):ab w w' S:=⟨h.os,h.tape,h.output,h.size,h.block⟩
theorem mr {w w':World}{p:Nat}{og og':Option Nat}(h:nR w.drew p og w' og'):nR w p og w' og':=⟨h.1,qi h.2⟩
theorem CQ (h:Pl w p n each M fr os c)(x:Int)(h0:0<=x)(h1:x<4294967296)(hx:os x=true){t i:Nat}(hi:i<each)(ht:t<n)(hn:x % 4096=((t*each+i+1:Nat):Int))(hl:(fr t).length<each):
 Calls Tryz.prog 82 #[T (Z ⟨p,0,O⟩),I .u32 x] w (E0 w p n each M fr os c t x):=by
 have hz:x≠0:=by omega
 have hO:=ua h x h0 h1 hi ht hn
 have HX:=R hx
 have HN:=R hn
 clear hx hn
 go_enter Tryz.func82,Tryz.ntmps82
 go_wp2_with fail
 refine hO.mono ?_
 clear hO
 rintro e w' ⟨rfl,m,rfl⟩
 have hs1:eu w n M (w.drewN m) M:=(eu.refl w n M).dg m
 have h:=h.drewN m
 generalize w.drewN m=w1 at h hs1 ⊢
 go_wp2_with fail
 refine(E9 h x h0 h1).mono ?_
 rintro e w' ⟨rfl,rfl⟩
 rw[HX.out]
 have c2:=h.c2
 go_wp2_with (first | (at_delete;refine rQ rfl _ _ rfl rfl h.set h0 h1 rfl HX.out ?_;intro w2 ho2 hg2) | go_in)
 have hp2:=h.outs ho2 hg2
 have hs2:=hs1.bp (eu.outs hg2)
 clear hs1 h ho2 hg2 c2
 have d1:=hp2.c1
 have d2:=hp2.at_ ht
 have hf:=hp2.few
 have hr:RWord.Rg w2.drew (M.ps t) (M.ogs t) each (fr t):=(hp2.rings t ht).dg 1
 have HP:=R hp2
 have HS:=R hs2
 clear hp2 hs2
 go_frame
 go_region_held3 (fun w'=>w'.cell? ⟨p,1,O⟩=Z (Value.slice (Z ⟨M.g,0,O⟩) n n)/\w'.cell? ⟨M.g,t,O⟩=Z (Value.pointer (Z ⟨M.ps t,0,O⟩))) (first | (exact⟨f1,f2⟩) | go_keep)
  (first
   | (go_at_call 124;refine(EH x h0 h1 _).mono ?_;rintro e w' ⟨rfl,rfl⟩)
   | (go_at_call 118;refine(RWord.y9 hr hl _).mono ?_;rintro e w4 ⟨og,rfl,hr4,hmv4⟩;have hp4:=HP.out.ring ht hr4 (mr hmv4);have f1:=hp4.c1;have f2:=hp4.at_ ht))
 have hs4:=HS.out.bp (eu.ring ht (mr hmv4))
 go_wp2
 go_ret
 exact⟨_,rfl,hp4,hs4⟩
end
def eT (t each k:Nat):List Int:=(List.range k).map (fun i=>((t*each+1+i:Nat):Int))
theorem yh (t each:Nat):eT t each 0=[]:=rfl
theorem qx (t each k:Nat):eT t each k++[((t*each+1+k:Nat):Int)]=eT t each (k+1):=by simp[eT,List.range_succ]
theorem sQ (t each k:Nat):(eT t each k).length=k:=by simp[eT]
theorem vx {each:Nat}(h:each<=8):RWord.held (each:Int)=each:=by unfold RWord.held;rw[if_neg (by omega),if_neg (by omega),Int.toNat_natCast]
def wC (w:World)(t each:Nat)(e:Ending)(w':World):Prop:=
 ∃ q og,e=.returned (T (Z ⟨q,0,O⟩))/\RWord.Rg w' q og each (eT t each each)/\fE w w' q og
theorem Dq (t each:Nat)(ht:t<64)(he:each<=8)(w:World):Calls Tryz.prog 77 #[I Q t,I Q each] w (wC w t each):=by
 have hb:t*each<=64*8:=Nat.mul_le_mul (by omega) he
 have e1:((t*each:Nat):Int)=(t:Int)*(each:Int):=by simp
 generalize hm:t*each=m at hb e1
 clear hm
 have t3:wrap64 ((t:Int)*(each:Int))=(m:Int):=by rw[<-e1];exact IntWalk.wrap64_in _ (by omega)
 go_enter Tryz.func77,Tryz.ntmps77
 go_wp2_with fail
 refine(RWord.AS each w).mono ?_
 rintro e w1 ⟨rfl,hr,hg⟩
 rw[vx he] at hr
 have hF:fE w w1 w.heap.size O:=⟨hg,Nat.le_refl _,fun _ e=>by cases e⟩
 generalize w.heap.size=q at hr hF ⊢
 go_wp2
 go_loopw [12] (fun i wr=>∃ k:Nat,∃ og,k<=each/\i=I Q k/\RWord.Rg wr q og each (eT t each k)/\fE w wr q og) (fun i _=>each-(intOf i).toNat)
 case atStart=>exact⟨0,O,Nat.zero_le _,rfl,by rw[yh];exact hr,hF⟩
 case round=>
  obtain⟨k,og,hk,rfl,hr,hF⟩:=hrel
  by_cases hlt:k<each
  ·go_wp2_with fail
   refine(xT _ 0 (by omega) (by omega) (by omega) (by omega) _).mono ?_
   rintro e w2 ⟨rfl,rfl⟩
   go_wp2_with fail
   refine(RWord.y9 hr (by rw[sQ];exact hlt) _).mono ?_
   rintro e w2 ⟨og2,rfl,hr2,hmv⟩
   have hr3:RWord.Rg w2 q og2 each (eT t each (k+1)):=by
    rw[<-qx,show ((t*each+1+k:Nat):Int)=(t:Int)*(each:Int)+1+(k:Int) by simp]
    exact hr2
   go_wp2
   go_roundw
   case rel=>exact⟨k+1,og2,by omega,by go_num,hr3,hF.Ew hmv⟩
   case measure=>simp[intOf];omega
  ·obtain rfl:k=each:=by omega
   go_wp2
   go_ret
   exact⟨q,og,rfl,hr,hF⟩
structure rO (w:World)(p n each k:Nat)(M:PM)(wr:World):Prop where
 ptr:Bk wr p 172 #[I Q each,.slice (Z ⟨M.g,0,O⟩) n n,.map (Z M.b)]
 row:Bk wr M.g 173 (jE M.ps n k)
 rings:∀ i,i<k->RWord.Rg wr (M.ps i) (M.ogs i) each (eT i each each)
 set:gE wr M.b (fun _=>V) 0
 psne:∀ i j,i<k->j<k->i≠j->M.ps i≠M.ps j
 ogne:∀ i j g,i<k->j<k->i≠j->M.ogs i=Z g->M.ogs j≠Z g
 gr:w.grownBy wr O
 new:∀ i,M.Has k i->w.heap.size<=i
 newp:w.heap.size<=p
 newg:w.heap.size<=M.g
theorem rO.step {w wr w2:World}{p n each k q:Nat}{M:PM}{og:Option Nat}(h:rO w p n each k M wr)(hr:RWord.Rg w2 q og each (eT k each each))(hF:fE wr w2 q og):
 rO w p n each (k+1) { M with ps:=wR M.ps k q,ogs:=wR M.ogs k og } (w2.setCell ⟨M.g,k,O⟩ (T (Z ⟨q,0,O⟩))):=by
 have hw:ab wr w2 (fun _=>False):=.az hF.1 (by simp)
 have hrow:=(h.row.within hw (by simp))
 have hptr:=(h.ptr.within hw (by simp))
 have hset:=(h.set.within hw (by simp))
 have hk:ab w2 (w2.setCell ⟨M.g,k,O⟩ (T (Z ⟨q,0,O⟩))) (fun i=>i=M.g):=(ab.refl w2 _).put M.g _ _ (.inl rfl)
 have hkeep:∀ {a:Nat} {o:Option Nat} {vs:List Int},RWord.Rg w2 a o each vs->RWord.Rg (w2.setCell ⟨M.g,k,O⟩ (T (Z ⟨q,0,O⟩))) a o each vs:=by
  intro a o vs hr
  refine hr.kept hk (fun e=>?_) (fun g' e e'=>?_)
  ·obtain⟨cs,hc⟩:=pV hr;exact Bk.aj hc hrow (by decide) e
  ·obtain⟨cs,hc⟩:=ly hr e;exact Bk.aj hc hrow (by decide) e'
 have hold:∀ i,i<k->M.ps i<wr.heap.size:=fun i hi=>(h.rings i hi).BP
 have holg:∀ i,i<k->∀ g,M.ogs i=Z g->g<wr.heap.size:=fun i hi g e=>(h.rings i hi).wY e
 refine⟨hptr.within hk (Bk.aj hptr hrow (by decide)),?_,fun i hi=>?_,hset.within hk (hset.fx hrow),?_,?_,?_,?_,h.newp,h.newg⟩
 ·have:=hrow.put k (T (Z ⟨q,0,O⟩))
  rw[uT] at this
  exact this
 ·by_cases e:i=k
  ·subst e;simp only[bj];exact hkeep hr
  ·simp only[aT e]
   exact hkeep ((h.rings i (by omega)).kept hw (by simp) (by simp))
 ·intro i j hi hj hne
  have hq:=hF.2.1
  by_cases ei:i=k
  ·subst ei
   simp only[bj,aT (fun e=>hne e.symm)]
   have:=hold j (by omega);omega
  ·simp only[aT ei]
   by_cases ej:j=k
   ·subst ej;simp only[bj];have:=hold i (by omega);omega
   ·simp only[aT ej];exact h.psne i j (by omega) (by omega) hne
 ·intro i j g hi hj hne
  by_cases ei:i=k
  ·subst ei
   simp only[bj,aT (fun e=>hne e.symm)]
   intro e1 e2
   have:=hF.2.2 g e1;have:=holg j (by omega) g e2;omega
  ·simp only[aT ei]
   by_cases ej:j=k
   ·subst ej;simp only[bj];intro e1 e2
    have:=hF.2.2 g e2;have:=holg i (by omega) g e1;omega
   ·simp only[aT ej];exact h.ogne i j g (by omega) (by omega) hne
 ·exact aU (aU h.gr hF.1 (.inl rfl)) (cY _ _ _ _) (.inr fun x e=>by injection e with e;have:=h.newg;omega)
 ·have hs:=h.gr.size
  rintro i (e | ⟨j,hj,e | e⟩)
  ·exact h.new i (.inl e)
  ·by_cases ej:j=k
   ·subst ej;simp only[bj] at e;have:=hF.2.1;omega
   ·simp only[aT ej] at e;exact h.new i (.inr ⟨j,by omega,.inl e⟩)
  ·by_cases ej:j=k
   ·subst ej;simp only[bj] at e;have:=hF.2.2 i e;omega
   ·simp only[aT ej] at e;exact h.new i (.inr ⟨j,by omega,.inr e⟩)
def DD (w:World)(n each:Nat)(e:Ending)(w':World):Prop:=
 ∃ p M,e=.returned (.tuple #[T (Z ⟨p,0,O⟩),I Q 0])/\Pl w' p n each M (fun t=>eT t each each) (fun _=>V) 0/\w.grownBy w' O/\(∀ i,M.Has n i->w.heap.size<=i)/\w.heap.size<=p/\w.heap.size<=M.g
theorem CO:(Tryz.prog.info? 173).map (fun i=>(i.zero,i.size,i.bytes))=Z (Z (T O),1,8):=by kernel_rfl
theorem vf (w:World)(n each:Nat):
 rO w (w.heap.size+2) n each 0 ⟨w.heap.size,w.heap.size+1,fun _=>0,fun _=>O⟩
  (((w.alloc (.cells (madeCells #[T O] n) 173)).alloc (.map #[] 0)).alloc (.cells #[I Q each,.slice (Z ⟨w.heap.size,0,O⟩) n n,.map (Z (w.heap.size+1))] 172)):=by
 have h1:=Bk.made w 173 (madeCells #[T O] n)
 have g1:=bi w (.cells (madeCells #[T O] n) 173) O
 have s1:(w.alloc (.cells (madeCells #[T O] n) 173)).heap.size=w.heap.size+1:=by simp
 generalize w.alloc (.cells (madeCells #[T O] n) 173)=w1 at h1 g1 s1 ⊢
 have h2:=gE.made w1
 have g2:=bi w1 (.map #[] 0) O
 have s2:(w1.alloc (.map #[] 0)).heap.size=w1.heap.size+1:=by simp
 have h1':=h1.alloc (.map #[] 0)
 rw[s1] at h2
 generalize w1.alloc (.map #[] 0)=w2 at h2 g2 s2 h1' ⊢
 have h3:=Bk.made w2 172 #[I Q each,.slice (Z ⟨w.heap.size,0,O⟩) n n,.map (Z (w.heap.size+1))]
 rw[show w2.heap.size=w.heap.size+2 by omega] at h3
 rw[sy (fun _=>0)] at h1'
 refine⟨h3,h1'.alloc _,fun i hi=>by omega,h2.within (S:=fun _=>False) (.az (bi _ _ O) (by simp)) (by simp),fun i j hi=>by omega,fun i j g hi=>by omega,?_,?_,by omega,Nat.le_refl _⟩
 ·exact aU (aU g1 g2 (.inl rfl)) (bi _ _ O) (.inl rfl)
 ·rintro i (e | ⟨j,hj,_⟩)
  ·simp only at e;omega
  ·omega
theorem sP {w w':World}{p:Nat}{og:Option Nat}(h:fE w.drew w' p og):fE w w' p og:=⟨⟨h.1.os,h.1.tape,h.1.output,h.1.size,h.1.block⟩,h.2⟩
theorem Eu (n each:Nat)(h1:1<=n)(hn:n<=64)(he:each<=8)(w:World):Calls Tryz.prog 42 #[I Q n,I Q each] w (DD w n each):=by
 obtain⟨i0,hi0,hz0,hz1,hz2⟩:=info_parts CO
 have hmk:=fun W:World=>run_make (P:=Tryz.prog) W 169 173 i0 _ Tryz.underlying169 hi0 hz0 .i64 .i64 n n (by omega) (by omega) (by rw[hz2];omega) (by omega)
 rw[hz1] at hmk
 clear hi0 hz0 hz1 hz2
 have hmm:=@run_makeMap Tryz.prog
 have hst:=vf w n each
 rw[show w.heap.size+2=w.heap.size+1+1 from rfl] at hst
 have HST:=R hst
 clear hst
 go_enter Tryz.func42,Tryz.ntmps42
 go_wp2
 clear hmk hmm
 go_loopw [29] (fun i wr=>∃ (k:Nat) (ps:Nat->Nat) (ogs:Nat->Option Nat),k<=n/\i=I Q k/\rO w (w.heap.size+1+1) n each k ⟨w.heap.size,w.heap.size+1,ps,ogs⟩ wr) (fun i _=>n-(intOf i).toNat)
 case atStart=>
  exact⟨0,fun _=>0,fun _=>O,Nat.zero_le _,rfl,HST.out⟩
 case round=>
  clear HST
  obtain⟨k,ps,ogs,hk,rfl,hN⟩:=hrel
  have hpg:w.heap.size+1+1≠w.heap.size:=by omega
  generalize w.heap.size+1+1=p at *
  by_cases hlt:k<n
  ·have d1:wr.cell? ⟨p,1,O⟩=Z (.slice (Z ⟨w.heap.size,0,O⟩) n n):=by rw[hN.ptr.cell];rfl
   have HN:=R hN
   clear hN
   have k1:∀ (W:World) (u:Value) (i j:Nat),(W.setCell ⟨w.heap.size,i,O⟩ u).cell? ⟨p,j,O⟩=W.cell? ⟨p,j,O⟩:=fun W u i j=>bY hpg
   go_wp2
   go_region_held3 (fun w'=>w'.cell? ⟨p,1,O⟩=Z (Value.slice (Z ⟨w.heap.size,0,O⟩) n n)) (first | (exact f1) | go_keep)
    (first | (go_at_call 77;refine(Dq k each (by omega) he _).mono ?_;rintro e w2 ⟨q,og,rfl,hr2,hF2⟩;have hF:=sP hF2;have hw2:=hF.1;have hrow:=HN.out.row.grown hw2 (by simp);have f1:=(HN.out.ptr.grown hw2 (by simp)).cell 1;have f2:=hrow.cell k;rw[qJ _ _ _ _ hlt] at f2;have f3:=hrow.free k;simp only[List.getElem?_toArray,List.getElem?_cons_zero,List.getElem?_cons_succ] at f1;simp only at f2 f3))
   have hs:=HN.out.step hr2 hF
   have HS:=R hs
   clear hs hr2 hF hw2 hrow f1 f2 f3 k1 d1
   go_wp2
   go_roundw
   case rel=>exact⟨k+1,_,_,by omega,by go_num,HS.out⟩
   case measure=>simp[intOf];omega
  ·obtain rfl:k=n:=by omega
   go_wp2
   go_ret2
   exact⟨p,_,rfl,⟨hN.ptr,hN.row,hN.rings,hN.set,hN.psne,hN.ogne,hn,h1,he⟩,hN.gr,hN.new,hN.newp,hN.newg⟩
def kt (gen:List Int)(q:Nat):Int:=aF gen q*4096+((q:Int)+1)
def Cl (N:Nat)(gen out:List Int)(h:Int):Bool:=decide (1<=h % 4096/\h % 4096<=(N:Int)/\aF out (h % 4096-1).toNat=1/\kt gen (h % 4096-1).toNat=h)
def gU (xs:List Int):Nat->Int
 | 0=>0
 | k+1=>gU xs k+aF xs k
structure jx (n each:Nat)(free:Nat->List Nat)(gen out:List Int)(fr:Nat->List Int)(os:Int->Bool)(c:Nat):Prop where
 few:n<=64
 eight:each<=8
 lenG:gen.length=n*each
 lenO:out.length=n*each
 gens:∀ q,0<=aF gen q/\aF gen q<262144
 outs:∀ q,aF out q=0\/aF out q=1
 frs:∀ t,t<n->fr t=(free t).map (kt gen)
 oss:∀ h,0<=h->h<4294967296->os h=Cl (n*each) gen out h
 cnt:(c:Int)=gU out (n*each)
 own:∀ t,t<n->∀ q,q∈free t->t*each<=q/\q<t*each+each/\aF out q=0
 dup:∀ t,t<n->(free t).Nodup
theorem ky {xs:List Int}{q:Nat}(hq:q<xs.length)(v:Int):∀ k,k<=xs.length->gU (xs.set q v) k=gU xs k+(if q<k then v-aF xs q else 0)
 | 0,_=>by simp[gU]
 | k+1,hk=>by
  unfold gU
  rw[ky hq v k (by omega),dt hq]
  by_cases e:q=k
  ·subst e;simp;omega
  ·rw[if_neg e]
   by_cases h:q<k
   ·rw[if_pos h,if_pos (by omega)];omega
   ·rw[if_neg h,if_neg (by omega)];omega
theorem mT {xs:List Int}(h:∀ q,aF xs q=0\/aF xs q=1):∀ k,0<=gU xs k/\gU xs k<=(k:Int)
 | 0=>by simp[gU]
 | k+1=>by
  have h1:=mT h k
  have h2:=h k
  unfold gU
  omega
theorem ml {xs:List Int}(h:∀ q,aF xs q=0\/aF xs q=1){q:Nat}(hq:aF xs q=1):∀ k,q<k->1<=gU xs k
 | 0,hk=>by omega
 | k+1,hk=>by
  unfold gU
  by_cases e:q=k
  ·subst e;have:=(mT h q).1;omega
  ·have:=ml h hq k (by omega);have:=h k;omega
theorem iQ:∀ (k a:Nat) (l:List Nat),l.Nodup->(∀ q,q∈l->a<=q/\q<a+k)->l.length<=k
 | 0,a,l,_,h=>by
  cases l with
  | nil=>simp
  | cons q r=>have:=h q (by simp);omega
 | k+1,a,l,hd,h=>by
  have h1:=iQ k a (l.erase (a+k)) (hd.erase _) (fun q hq=>by
   have hm:=(hd.mem_erase_iff.1 hq)
   have:=h q hm.2
   have:=hm.1
   omega)
  have h2:=List.length_erase_le (a:=a+k) (l:=l)
  by_cases hm:a+k∈l
  ·have:=List.length_erase_of_mem hm;omega
  ·rw[List.erase_of_not_mem hm] at h1;omega
section
variable {n each c:Nat}{free:Nat->List Nat}{gen out:List Int}{fr:Nat->List Int}{os:Int->Bool}
theorem jx.le (h:jx n each free gen out fr os c):n*each<=512:=Nat.mul_le_mul h.few h.eight
theorem jx.Gi (_h:jx n each free gen out fr os c){t q:Nat}(ht:t<n)(hq:q<t*each+each):q<n*each:=by
 have:(t+1)*each<=n*each:=Nat.mul_le_mul_right _ ht
 rw[Nat.add_mul,Nat.one_mul] at this
 omega
theorem iT {gen:List Int}(hg:∀ q,0<=aF gen q/\aF gen q<262144){q:Nat}(hq:q<512):0<kt gen q/\kt gen q<4294967296/\kt gen q % 4096=(q:Int)+1/\kt gen q / 4096=aF gen q:=by
 have:=hg q
 unfold kt
 omega
theorem up {N:Nat}{gen out:List Int}(hg:∀ q,0<=aF gen q/\aF gen q<262144){q:Nat}(hq:q<N)(hN:N<=512):Cl N gen out (kt gen q)=decide (aF out q=1):=by
 obtain⟨f1,f2,f3,f4⟩:=iT hg (q:=q) (by omega)
 unfold Cl
 rw[f3,show ((q:Int)+1-1).toNat=q by omega,Bool.eq_iff_iff]
 simp
 omega
theorem Di {N:Nat}{gen out:List Int}{h:Int}(hh:Cl N gen out h=true):∃ q:Nat,q<N/\h % 4096=(q:Int)+1/\aF out q=1/\kt gen q=h:=by
 unfold Cl at hh
 obtain⟨h1,h2,h3,h4⟩:=of_decide_eq_true hh
 exact⟨(h % 4096-1).toNat,by omega,by omega,h3,h4⟩
theorem jx.take (h:jx n each free gen out fr os c){t q:Nat}{rest:List Nat}(ht:t<n)(e:free t=q :: rest):
 q<n*each/\aF out q=0/\fr t=kt gen q :: rest.map (kt gen)/\os (kt gen q)=V/\jx n each (wR free t rest) gen (out.set q 1) (wR fr t (rest.map (kt gen))) (lA os (kt gen q) true) (c+1):=by
 have hN:=h.le
 obtain⟨o1,o2,o3⟩:=h.own t ht q (by rw[e];simp)
 have hq:=h.Gi ht o2
 obtain⟨f1,f2,f3,f4⟩:=iT h.gens (q:=q) (by omega)
 have hfr:fr t=kt gen q :: rest.map (kt gen):=by rw[h.frs t ht,e];rfl
 have hos:os (kt gen q)=V:=by rw[h.oss _ (by omega) f2,up h.gens hq hN,o3];rfl
 have hlO:=h.lenO
 refine⟨hq,o3,hfr,hos,h.few,h.eight,h.lenG,by simpa using hlO,h.gens,fun q'=>?_,fun s hs=>?_,fun x x0 x1=>?_,?_,fun s hs q' hm=>?_,fun s hs=>?_⟩
 ·rw[dt (by omega)]
  split
  ·exact .inr rfl
  ·exact h.outs q'
 ·by_cases es:s=t
  ·subst es;rw[bj,bj]
  ·rw[aT es,aT es];exact h.frs s hs
 ·by_cases ex:x=kt gen q
  ·subst ex
   rw[iM,up h.gens hq hN,dt (by omega),if_pos rfl]
   rfl
  ·rw[gX ex,h.oss x x0 x1]
   unfold Cl
   rw[Bool.eq_iff_iff]
   simp only[decide_eq_true_eq]
   constructor
   ·rintro⟨a1,a2,a3,a4⟩
    refine⟨a1,a2,?_,a4⟩
    rw[dt (by omega)]
    split
    ·rfl
    ·exact a3
   ·rintro⟨a1,a2,a3,a4⟩
    refine⟨a1,a2,?_,a4⟩
    rw[dt (by omega),if_neg (fun e'=>ex (by rw[<-a4,e']))] at a3
    exact a3
 ·rw[ky (by omega) 1 _ (by omega),if_pos (by omega),o3,<-h.cnt]
  omega
 ·by_cases es:s=t
  ·subst es
   rw[bj] at hm
   obtain⟨b1,b2,b3⟩:=h.own s hs q' (by rw[e];simp[hm])
   refine⟨b1,b2,?_⟩
   have hd:=h.dup s hs
   rw[e] at hd
   rw[dt (by omega),if_neg (fun e'=>by subst e';exact(List.nodup_cons.1 hd).1 hm)]
   exact b3
  ·rw[aT es] at hm
   obtain⟨b1,b2,b3⟩:=h.own s hs q' hm
   refine⟨b1,b2,?_⟩
   have hne:q≠q':=by
    rintro rfl
    rcases Nat.lt_or_gt_of_ne es with hlt | hlt
    ·have:=Nat.mul_le_mul_right each (show s+1<=t from hlt)
     rw[Nat.add_mul,Nat.one_mul] at this;omega
    ·have:=Nat.mul_le_mul_right each (show t+1<=s from hlt)
     rw[Nat.add_mul,Nat.one_mul] at this;omega
   rw[dt (by omega),if_neg hne]
   exact b3
 ·by_cases es:s=t
  ·subst es
   have hd:=h.dup s hs
   rw[e] at hd
   rw[bj]
   exact(List.nodup_cons.1 hd).2
  ·rw[aT es];exact h.dup s hs
theorem jx.back (h:jx n each free gen out fr os c){x:Int}(x0:0<=x)(x1:x<4294967296)(hx:os x=true):
 ∃ t i,t<n/\i<each/\x % 4096=((t*each+i+1:Nat):Int)/\(fr t).length<each/\1<=c/\
  jx n each (wR free t (free t++[t*each+i])) (gen.set (t*each+i) ((x / 4096+1) % 262144)) (out.set (t*each+i) 0) (wR fr t (fr t++[FY x])) (lA os x V) (c-1):=by
 have hN:=h.le
 have hO:=hx
 rw[h.oss x x0 x1] at hO
 obtain⟨q,hq,e1,e2,e3⟩:=Di hO
 obtain⟨t,i,ht,hi,he⟩:=ue n each x (by unfold nC;omega)
 have hqi:q=t*each+i:=by omega
 subst hqi
 have hlG:=h.lenG
 have hlO:=h.lenO
 have hnot:t*each+i ∉ free t:=fun hm=>by have:=(h.own t ht _ hm).2.2;omega
 have hlen:(fr t).length<each:=by
  rw[h.frs t ht,List.length_map]
  have h1:=iQ each (t*each) ((t*each+i) :: free t) (List.nodup_cons.2 ⟨hnot,h.dup t ht⟩) (fun q' hm=>by
   rcases List.mem_cons.1 hm with rfl | hm
   ·omega
   ·have:=h.own t ht q' hm;omega)
  simp at h1
  omega
 have hc:1<=c:=by
  have h1:=ml h.outs e2 (n*each) hq
  have h2:=h.cnt
  omega
 obtain⟨f1,f2,f3,f4⟩:=iT h.gens (q:=t*each+i) (by omega)
 rw[e3] at f4
 have hgr:=h.gens (t*each+i)
 have hg':∀ q',0<=aF (gen.set (t*each+i) ((x / 4096+1) % 262144)) q'/\aF (gen.set (t*each+i) ((x / 4096+1) % 262144)) q'<262144:=fun q'=>by
  rw[dt (by omega)]
  split
  ·omega
  ·exact h.gens q'
 have hkeep:∀ q',q'≠t*each+i->kt (gen.set (t*each+i) ((x / 4096+1) % 262144)) q'=kt gen q':=fun q' hne=>by
  unfold kt;rw[dt (by omega),if_neg (fun e=>hne e.symm)]
 have hnew:kt (gen.set (t*each+i) ((x / 4096+1) % 262144)) (t*each+i)=FY x:=by
  unfold kt FY;rw[dt (by omega),if_pos rfl,e1]
 refine⟨t,i,ht,hi,he,hlen,hc,h.few,h.eight,by simpa using hlG,by simpa using hlO,hg',fun q'=>?_,fun s hs=>?_,fun y y0 y1=>?_,?_,fun s hs q' hm=>?_,fun s hs=>?_⟩
 ·rw[dt (by omega)]
  split
  ·exact .inl rfl
  ·exact h.outs q'
 ·by_cases es:s=t
  ·subst es
   rw[bj,bj,h.frs s hs,List.map_append,List.map_cons,List.map_nil,hnew]
   congr 1
   exact List.map_congr_left fun q' hm=>(hkeep q' (fun e=>hnot (e ▸ hm))).symm
  ·rw[aT es,aT es,h.frs s hs]
   refine List.map_congr_left fun q' hm=>(hkeep q' (fun e=>?_)).symm
   have:=(h.own s hs q' hm).2.2
   rw[e] at this
   omega
 ·by_cases ey:y=x
  ·subst ey
   rw[iM]
   symm
   unfold Cl
   rw[e1,show (((t*each+i:Nat):Int)+1-1).toNat=t*each+i by omega,dt (v:=0) (xs:=out) (by omega),if_pos rfl]
   simp
  ·rw[gX ey,h.oss y y0 y1]
   unfold Cl
   rw[Bool.eq_iff_iff]
   simp only[decide_eq_true_eq]
   constructor
   ·rintro⟨a1,a2,a3,a4⟩
    have hne:(y % 4096-1).toNat≠t*each+i:=fun e=>ey (by rw[<-a4,e,e3])
    refine⟨a1,a2,?_,?_⟩
    ·rw[dt (by omega),if_neg (fun e=>hne e.symm)];exact a3
    ·rw[hkeep _ hne];exact a4
   ·rintro⟨a1,a2,a3,a4⟩
    have hne:(y % 4096-1).toNat≠t*each+i:=fun e=>by
     rw[e,dt (by omega),if_pos rfl] at a3;omega
    refine⟨a1,a2,?_,?_⟩
    ·rw[dt (by omega),if_neg (fun e=>hne e.symm)] at a3;exact a3
    ·rw[hkeep _ hne] at a4;exact a4
 ·rw[ky (by omega) 0 _ (by omega),if_pos (by omega),e2,<-h.cnt]
  omega
 ·have hcase:q'≠t*each+i->aF (out.set (t*each+i) 0) q'=aF out q':=fun hne=>by rw[dt (by omega),if_neg (fun e=>hne e.symm)]
  by_cases es:s=t
  ·subst es
   rw[bj] at hm
   rcases List.mem_append.1 hm with hm | hm
   ·obtain⟨b1,b2,b3⟩:=h.own s hs q' hm
    refine⟨b1,b2,?_⟩
    rw[hcase (fun e=>hnot (e ▸ hm))];exact b3
   ·simp at hm
    subst hm
    refine⟨by omega,by omega,?_⟩
    rw[dt (by omega),if_pos rfl]
  ·rw[aT es] at hm
   obtain⟨b1,b2,b3⟩:=h.own s hs q' hm
   refine⟨b1,b2,?_⟩
   rw[hcase (fun e=>by rw[e] at b3;omega)];exact b3
 ·by_cases es:s=t
  ·subst es
   rw[bj]
   refine List.nodup_append.2 ⟨h.dup s hs,by simp,fun a ha b hb=>?_⟩
   simp at hb
   subst hb
   exact fun e=>hnot (e ▸ ha)
  ·rw[aT es];exact h.dup s hs
def ke (each:Nat):Nat->List Nat:=fun t=>(List.range each).map fun i=>t*each+i
theorem fP (k q:Nat):aF (List.replicate k 0) q=0:=by
 simp[aF,List.getD_eq_getElem?_getD,List.getElem?_replicate];split <;> rfl
theorem kZ (N:Nat):∀ k,gU (List.replicate N 0) k=0
 | 0=>rfl
 | k+1=>by unfold gU;rw[kZ N k,fP];rfl
theorem qF (n each:Nat)(hn:n<=64)(he:each<=8):jx n each (ke each) (List.replicate (n*each) 0) (List.replicate (n*each) 0) (fun t=>eT t each each) (fun _=>V) 0:=by
 refine⟨hn,he,by simp,by simp,fun q=>by rw[fP];omega,fun q=>.inl (fP _ _),fun t ht=>?_,fun h h0 h1=>?_,by rw[kZ];rfl,fun t ht q hq=>?_,fun t ht=>?_⟩
 ·unfold eT ke
  rw[List.map_map]
  refine List.map_congr_left fun i hi=>?_
  simp only[Function.comp,kt,fP]
  omega
 ·unfold Cl
  simp[fP]
 ·unfold ke at hq
  simp only[List.mem_map,List.mem_range] at hq
  obtain⟨i,hi,rfl⟩:=hq
  exact⟨by omega,by omega,fP _ _⟩
 ·unfold ke
  exact List.Pairwise.map _ (fun a b hab e=>hab (by omega)) List.nodup_range
end
