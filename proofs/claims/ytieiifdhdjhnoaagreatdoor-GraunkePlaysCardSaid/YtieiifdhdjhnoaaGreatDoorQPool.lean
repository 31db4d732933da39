import Derived.Test.YtieiifdhdjhnoaaGreatDoorQRing
import Derived.Test.YtieiifdhdjhnoaaGreatDoorQMem
import Derived.Laws.BitsAllLaws
import Derived.Maps.RangeWalk
set_option maxRecDepth 100000
open Option renaming none->I,some->Q
namespace Go.Proofs.YtieiifdhdjhnoaaGreatDoor
open Go.ChangeShapes Go.WideShapes Go.ChangeAt Go.RowKit
def Fm {α:Type}(f:Nat->α)(t:Nat)(v:α):Nat->α:=fun i=>if i=t then v else f i
theorem d9 {α:Type}(f:Nat->α)(t:Nat)(v:α):Fm f t v t=v:=by simp[Fm]
theorem dh {α:Type}{f:Nat->α}{t i:Nat}{v:α}(h:i≠t):Fm f t v i=f i:=by simp[Fm,h]
structure PM where
 g:Nat
 b:Nat
 ps:Nat->Nat
 ogs:Nat->Option Nat
def PM.Has (M:PM)(n i:Nat):Prop:=i=M.b\/∃ j,j<n/\(i=M.ps j\/M.ogs j=Q i)
def BG (ps:Nat->Nat)(n k:Nat):Array Value:=((List.range n).map (fun i=>if i<k then Value.pointer (Q ⟨ps i,0,I⟩) else .pointer I)).toArray
theorem Aj (ps:Nat->Nat)(n k i:Nat)(h:i<n):(BG ps n k)[i]?=Q (if i<k then Value.pointer (Q ⟨ps i,0,I⟩) else .pointer I):=by simp[BG,h]
structure Pl (w:World)(p n each:Nat)(M:PM)(fr:Nat->List Int)(os:Int->Bool)(c:Nat):Prop where
 ptr:Bk w p 172 #[.int .i64 each,.slice (Q ⟨M.g,0,I⟩) n n,.map (Q M.b)]
 row:Bk w M.g 173 (BG M.ps n n)
 rings:∀ i,i<n->RWord.Rg w (M.ps i) (M.ogs i) each (fr i)
 set:iO w M.b os c
 psne:∀ i j,i<n->j<n->i≠j->M.ps i≠M.ps j
 ogne:∀ i j g,i<n->j<n->i≠j->M.ogs i=Q g->M.ogs j≠Q g
 few:n<=64
 one:1<=n
 eight:each<=8
theorem DZ {w:World}{p:Nat}{og:Option Nat}{r:Nat}{vs:List Int}(h:RWord.Rg w p og r vs):∃ cs,Bk w p 253 cs:=by
 obtain⟨n,f,cs,h⟩:=h;exact⟨_,h.hd⟩
theorem BF {w:World}{p g:Nat}{og:Option Nat}{r:Nat}{vs:List Int}(h:RWord.Rg w p og r vs)(e:og=Q g):∃ cs,Bk w g 70 cs:=by
 obtain⟨n,f,cs,h⟩:=h;exact⟨_,h.row g e⟩
section
variable {w w':World}{p n each c:Nat}{M:PM}{fr:Nat->List Int}{os:Int->Bool}
theorem Pl.c0 (h:Pl w p n each M fr os c):w.cell? ⟨p,0,I⟩=Q (.int .i64 each):=by rw[h.ptr.cell];rfl
theorem Pl.c1 (h:Pl w p n each M fr os c):w.cell? ⟨p,1,I⟩=Q (.slice (Q ⟨M.g,0,I⟩) n n):=by rw[h.ptr.cell];rfl
theorem Pl.c2 (h:Pl w p n each M fr os c):w.cell? ⟨p,2,I⟩=Q (.map (Q M.b)):=by rw[h.ptr.cell];rfl
theorem Pl.at_ (h:Pl w p n each M fr os c){i:Nat}(hi:i<n):w.cell? ⟨M.g,i,I⟩=Q (.pointer (Q ⟨M.ps i,0,I⟩)):=by rw[h.row.cell,Aj _ _ _ _ hi,if_pos hi]
theorem Pl.drewN (h:Pl w p n each M fr os c)(m:Nat):Pl (w.drewN m) p n each M fr os c:=⟨h.ptr,h.row,fun i hi=>(h.rings i hi).kr m,h.set,h.psne,h.ogne,h.few,h.one,h.eight⟩
theorem Pl.lt (h:Pl w p n each M fr os c){i:Nat}(k:M.Has n i):i<w.heap.size:=by
 rcases k with rfl | ⟨j,hj,rfl | e⟩
 ·exact h.set.lt
 ·exact(h.rings j hj).Gk
 ·exact(h.rings j hj).Gs e
theorem Pl.Gk (h:Pl w p n each M fr os c):p<w.heap.size:=h.ptr.lt
theorem Pl.Gs (h:Pl w p n each M fr os c):M.g<w.heap.size:=h.row.lt
theorem Pl.fX {q:Nat}{t:TypeId}{cs:Array Value}(h:Pl w p n each M fr os c)(k:Bk w q t cs)(h1:t≠253)(h2:t≠70):¬ M.Has n q:=by
 rintro(e | ⟨j,hj,e | e⟩)
 ·exact h.set.gX k e.symm
 ·obtain⟨cs',hb⟩:=DZ (h.rings j hj)
  exact Bk.av k hb h1 e
 ·obtain⟨cs',hb⟩:=BF (h.rings j hj) e
  exact Bk.av k hb h2 rfl
theorem Pl.kept {S:Nat->Prop}(h:Pl w p n each M fr os c)(k:ag w w' S)(h1:¬ S p)(h2:¬ S M.g)(h3:∀ i,M.Has n i->¬ S i):Pl w' p n each M fr os c:=
 ⟨h.ptr.within k h1,h.row.within k h2,fun i hi=>(h.rings i hi).kept k (h3 _ (.inr ⟨i,hi,.inl rfl⟩)) (fun _ e=>h3 _ (.inr ⟨i,hi,.inr e⟩)),h.set.within k (h3 _ (.inl rfl)),h.psne,h.ogne,h.few,h.one,h.eight⟩
theorem Pl.grown (h:Pl w p n each M fr os c)(k:w.grownBy w' I):Pl w' p n each M fr os c:=h.kept (S:=fun _=>False) (.aT k (by simp)) (by simp) (by simp) (by simp)
theorem Pl.outs (h:Pl w p n each M fr os c){os':Int->Bool}{c':Nat}(ho:iO w' M.b os' c')(k:zC w w' M.b):Pl w' p n each M fr os' c':=by
 have k':ag w w' (fun i=>i=M.b):=.aT k (by simp)
 refine⟨h.ptr.within k' (fun e=>h.set.gX h.ptr e.symm),h.row.within k' (fun e=>h.set.gX h.row e.symm),fun i hi=>?_,ho,h.psne,h.ogne,h.few,h.one,h.eight⟩
 refine(h.rings i hi).kept k' (fun e=>?_) (fun g eg e=>?_)
 ·obtain⟨cs,hc⟩:=DZ (h.rings i hi);exact h.set.gX hc e.symm
 ·obtain⟨cs,hc⟩:=BF (h.rings i hi) eg;exact h.set.gX hc e.symm
def i8 (w:World)(n:Nat)(M:PM)(w':World)(M':PM):Prop:=M'.g=M.g/\ag w w' (M.Has n)/\∀ i,M'.Has n i->M.Has n i\/w.heap.size<=i
theorem i8.refl (w:World)(n:Nat)(M:PM):i8 w n M w M:=⟨rfl,ag.refl _ _,fun _ h=>.inl h⟩
theorem i8.kr {M':PM}(h:i8 w n M w' M')(m:Nat):i8 w n M (w'.drewN m) M':=⟨h.1,h.2.1.kr m,h.2.2⟩
theorem i8.aJ {w'':World}{M' M'':PM}(h:i8 w n M w' M')(k:i8 w' n M' w'' M''):i8 w n M w'' M'':=
 ⟨k.1.trans h.1,h.2.1.aJ k.2.1 h.2.2,fun i hi=>by
  rcases k.2.2 i hi with e | e
  ·exact h.2.2 i e
  ·exact .inr (Nat.le_trans h.2.1.size e)⟩
theorem i8.outs (k:zC w w' M.b):i8 w n M w' M:=⟨rfl,.aT k (fun i e=>.inl (.inl (by injection e with e;exact e.symm))),fun _ h=>.inl h⟩
end
def Bv (t each k:Nat):List Int:=(List.range k).map (fun i=>((t*each+1+i:Nat):Int))
def oD (gen:List Int)(q:Nat):Int:=aD gen q*4096+((q:Int)+1)
def GJ (N:Nat)(gen out:List Int)(h:Int):Bool:=decide (1<=h % 4096/\h % 4096<=(N:Int)/\aD out (h % 4096-1).toNat=1/\oD gen (h % 4096-1).toNat=h)
def mB (xs:List Int):Nat->Int
 | 0=>0
 | k+1=>mB xs k+aD xs k
structure rM (n each:Nat)(free:Nat->List Nat)(gen out:List Int)(fr:Nat->List Int)(os:Int->Bool)(c:Nat):Prop where
 few:n<=64
 eight:each<=8
 lenG:gen.length=n*each
 lenO:out.length=n*each
 gens:∀ q,0<=aD gen q/\aD gen q<262144
 outs:∀ q,aD out q=0\/aD out q=1
 frs:∀ t,t<n->fr t=(free t).map (oD gen)
 oss:∀ h,0<=h->h<4294967296->os h=GJ (n*each) gen out h
 cnt:(c:Int)=mB out (n*each)
 own:∀ t,t<n->∀ q,q∈free t->t*each<=q/\q<t*each+each/\aD out q=0
 dup:∀ t,t<n->(free t).Nodup
theorem pr {xs:List Int}{q:Nat}(hq:q<xs.length)(v:Int):∀ k,k<=xs.length->mB (xs.set q v) k=mB xs k+(if q<k then v-aD xs q else 0)
 | 0,_=>by simp[mB]
 | k+1,hk=>by
  unfold mB
  rw[pr hq v k (by omega),iG hq]
  by_cases e:q=k
  ·subst e;simp;omega
  ·rw[if_neg e]
   by_cases h:q<k
   ·rw[if_pos h,if_pos (by omega)];omega
   ·rw[if_neg h,if_neg (by omega)];omega
section
variable {n each c:Nat}{free:Nat->List Nat}{gen out:List Int}{fr:Nat->List Int}{os:Int->Bool}
theorem rM.le (h:rM n each free gen out fr os c):n*each<=512:=Nat.mul_le_mul h.few h.eight
theorem rM.Hk (_h:rM n each free gen out fr os c){t q:Nat}(ht:t<n)(hq:q<t*each+each):q<n*each:=by
 have:(t+1)*each<=n*each:=Nat.mul_le_mul_right _ ht
 rw[Nat.add_mul,Nat.one_mul] at this
 omega
theorem pR {gen:List Int}(hg:∀ q,0<=aD gen q/\aD gen q<262144){q:Nat}(hq:q<512):0<oD gen q/\oD gen q<4294967296/\oD gen q % 4096=(q:Int)+1/\oD gen q / 4096=aD gen q:=by
 have:=hg q
 unfold oD
 omega
theorem wB {N:Nat}{gen out:List Int}(hg:∀ q,0<=aD gen q/\aD gen q<262144){q:Nat}(hq:q<N)(hN:N<=512):GJ N gen out (oD gen q)=decide (aD out q=1):=by
 obtain⟨f1,f2,f3,f4⟩:=pR hg (q:=q) (by omega)
 unfold GJ
 rw[f3,show ((q:Int)+1-1).toNat=q by omega,Bool.eq_iff_iff]
 simp
 omega
theorem rM.take (h:rM n each free gen out fr os c){t q:Nat}{rest:List Nat}(ht:t<n)(e:free t=q :: rest):
 q<n*each/\aD out q=0/\fr t=oD gen q :: rest.map (oD gen)/\os (oD gen q)=false/\rM n each (Fm free t rest) gen (out.set q 1) (Fm fr t (rest.map (oD gen))) (vB os (oD gen q) true) (c+1):=by
 have hN:=h.le
 obtain⟨o1,o2,o3⟩:=h.own t ht q (by rw[e];simp)
 have hq:=h.Hk ht o2
 obtain⟨f1,f2,f3,f4⟩:=pR h.gens (q:=q) (by omega)
 have hfr:fr t=oD gen q :: rest.map (oD gen):=by rw[h.frs t ht,e];rfl
 have hos:os (oD gen q)=false:=by rw[h.oss _ (by omega) f2,wB h.gens hq hN,o3];rfl
 have hlO:=h.lenO
 refine⟨hq,o3,hfr,hos,h.few,h.eight,h.lenG,by simpa using hlO,h.gens,fun q'=>?_,fun s hs=>?_,fun x x0 x1=>?_,?_,fun s hs q' hm=>?_,fun s hs=>?_⟩
 ·rw[iG (by omega)]
  split
  ·exact .inr rfl
  ·exact h.outs q'
 ·by_cases es:s=t
  ·subst es;rw[d9,d9]
  ·rw[dh es,dh es];exact h.frs s hs
 ·by_cases ex:x=oD gen q
  ·subst ex
   rw[pj,wB h.gens hq hN,iG (by omega),if_pos rfl]
   rfl
  ·rw[nd ex,h.oss x x0 x1]
   unfold GJ
   rw[Bool.eq_iff_iff]
   simp only[decide_eq_true_eq]
   constructor
   ·rintro⟨a1,a2,a3,a4⟩
    refine⟨a1,a2,?_,a4⟩
    rw[iG (by omega)]
    split
    ·rfl
    ·exact a3
   ·rintro⟨a1,a2,a3,a4⟩
    refine⟨a1,a2,?_,a4⟩
    rw[iG (by omega),if_neg (fun e'=>ex (by rw[<-a4,e']))] at a3
    exact a3
 ·rw[pr (by omega) 1 _ (by omega),if_pos (by omega),o3,<-h.cnt]
  omega
 ·by_cases es:s=t
  ·subst es
   rw[d9] at hm
   obtain⟨b1,b2,b3⟩:=h.own s hs q' (by rw[e];simp[hm])
   refine⟨b1,b2,?_⟩
   have hd:=h.dup s hs
   rw[e] at hd
   rw[iG (by omega),if_neg (fun e'=>by subst e';exact(List.nodup_cons.1 hd).1 hm)]
   exact b3
  ·rw[dh es] at hm
   obtain⟨b1,b2,b3⟩:=h.own s hs q' hm
   refine⟨b1,b2,?_⟩
   have hne:q≠q':=by
    rintro rfl
    rcases Nat.lt_or_gt_of_ne es with hlt | hlt
    ·have:=Nat.mul_le_mul_right each (show s+1<=t from hlt)
     rw[Nat.add_mul,Nat.one_mul] at this;omega
    ·have:=Nat.mul_le_mul_right each (show t+1<=s from hlt)
     rw[Nat.add_mul,Nat.one_mul] at this;omega
   rw[iG (by omega),if_neg hne]
   exact b3
 ·by_cases es:s=t
  ·subst es
   have hd:=h.dup s hs
   rw[e] at hd
   rw[d9]
   exact(List.nodup_cons.1 hd).2
  ·rw[dh es];exact h.dup s hs
def ll (each:Nat):Nat->List Nat:=fun t=>(List.range each).map fun i=>t*each+i
theorem fW (k q:Nat):aD (List.replicate k 0) q=0:=by
 simp[aD,List.getD_eq_getElem?_getD,List.getElem?_replicate];split <;> rfl
theorem l8 (N:Nat):∀ k,mB (List.replicate N 0) k=0
 | 0=>rfl
 | k+1=>by unfold mB;rw[l8 N k,fW];rfl
theorem zV (n each:Nat)(hn:n<=64)(he:each<=8):rM n each (ll each) (List.replicate (n*each) 0) (List.replicate (n*each) 0) (fun t=>Bv t each each) (fun _=>false) 0:=by
 refine⟨hn,he,by simp,by simp,fun q=>by rw[fW];omega,fun q=>.inl (fW _ _),fun t ht=>?_,fun h h0 h1=>?_,by rw[l8];rfl,fun t ht q hq=>?_,fun t ht=>?_⟩
 ·unfold Bv ll
  rw[List.map_map]
  refine List.map_congr_left fun i hi=>?_
  simp only[Function.comp,oD,fW]
  omega
 ·unfold GJ
  simp[fW]
 ·unfold ll at hq
  simp only[List.mem_map,List.mem_range] at hq
  obtain⟨i,hi,rfl⟩:=hq
  exact⟨by omega,by omega,fW _ _⟩
 ·unfold ll
  exact List.Pairwise.map _ (fun a b hab e=>hab (by omega)) List.nodup_range
end
