import Derived.Test.YtbgaaclplgghcaaGreatDoorWRing
import Derived.Test.YtbgaaclplgghcaaGreatDoorWCell
import Derived.Maps.RangeWalk
set_option maxHeartbeats 1000000
set_option maxRecDepth 100000
open Go.Value renaming int->I,pointer->V
open Go.IntKind renaming i64->Q
open Option renaming none->O,some->Z
namespace Go.Proofs.YtbgaaclplgghcaaGreatDoor
open Go.ChangeShapes Go.WideShapes Go.ChangeAt Go.RowKit
def Br {α:Type}(f:Nat->α)(t:Nat)(v:α):Nat->α:=fun i=>if i=t then v else f i
theorem bP {α:Type}(f:Nat->α)(t:Nat)(v:α):Br f t v t=v:=by simp[Br]
theorem bj {α:Type}{f:Nat->α}{t i:Nat}{v:α}(h:i≠t):Br f t v i=f i:=by simp[Br,h]
structure PM where
 g:Nat
 b:Nat
 ps:Nat->Nat
 ogs:Nat->Option Nat
def PM.Has (M:PM)(n i:Nat):Prop:=i=M.b\/∃ j,j<n/\(i=M.ps j\/M.ogs j=Z i)
def ju (ps:Nat->Nat)(n k:Nat):Array Value:=((List.range n).map (fun i=>if i<k then Value.pointer (Z ⟨ps i,0,O⟩) else V O)).toArray
theorem qn (ps:Nat->Nat)(n k i:Nat)(h:i<n):(ju ps n k)[i]?=Z (if i<k then Value.pointer (Z ⟨ps i,0,O⟩) else V O):=by simp[ju,h]
theorem rW (ps:Nat->Nat)(n:Nat):madeCells #[V O] n=ju ps n 0:=by
 apply Array.ext
 ·simp[madeCells,ju]
 ·intro i h1 h2;simp[madeCells,ju,Nat.mod_one]
theorem uD (ps:Nat->Nat)(n k q:Nat):(ju ps n k).setIfInBounds k (V (Z ⟨q,0,O⟩))=ju (Br ps k q) n (k+1):=by
 unfold ju
 rw[List.setIfInBounds_toArray]
 congr 1
 apply List.ext_getElem?
 intro i
 simp only[List.getElem?_set,List.length_map,List.length_range,List.getElem?_map]
 by_cases hi:i<n
 ·rw[List.getElem?_range hi]
  by_cases e:k=i
  ·subst e;simp[hi,bP]
  ·have h1:(i<k+1)↔i<k:=by omega
   have h2:Br ps k q i=ps i:=bj (fun h=>e h.symm)
   simp[e,h1,h2]
 ·rw[List.getElem?_eq_none (by simpa using hi)]
  simp;omega
structure Pl (w:World)(p n each:Nat)(M:PM)(fr:Nat->List Int)(os:Int->Bool)(c:Nat):Prop where
 ptr:Bk w p 178 #[I Q each,.slice (Z ⟨M.g,0,O⟩) n n,.map (Z M.b)]
 row:Bk w M.g 179 (ju M.ps n n)
 rings:∀ i,i<n->RWord.Rg w (M.ps i) (M.ogs i) each (fr i)
 set:gP w M.b os c
 psne:∀ i j,i<n->j<n->i≠j->M.ps i≠M.ps j
 ogne:∀ i j g,i<n->j<n->i≠j->M.ogs i=Z g->M.ogs j≠Z g
 few:n<=64
 one:1<=n
 eight:each<=8
theorem zy {w:World}{p:Nat}{og:Option Nat}{r:Nat}{vs:List Int}(h:RWord.Rg w p og r vs):∃ cs,Bk w p 278 cs:=by
 obtain⟨n,f,cs,h⟩:=h;exact⟨_,h.hd⟩
theorem tE {w:World}{p g:Nat}{og:Option Nat}{r:Nat}{vs:List Int}(h:RWord.Rg w p og r vs)(e:og=Z g):∃ cs,Bk w g 22 cs:=by
 obtain⟨n,f,cs,h⟩:=h;exact⟨_,h.row g e⟩
section
variable {w w':World}{p n each c:Nat}{M:PM}{fr:Nat->List Int}{os:Int->Bool}
theorem Pl.c0 (h:Pl w p n each M fr os c):w.cell? ⟨p,0,O⟩=Z (I Q each):=by rw[h.ptr.cell];rfl
theorem Pl.c1 (h:Pl w p n each M fr os c):w.cell? ⟨p,1,O⟩=Z (.slice (Z ⟨M.g,0,O⟩) n n):=by rw[h.ptr.cell];rfl
theorem Pl.c2 (h:Pl w p n each M fr os c):w.cell? ⟨p,2,O⟩=Z (.map (Z M.b)):=by rw[h.ptr.cell];rfl
theorem Pl.at_ (h:Pl w p n each M fr os c){i:Nat}(hi:i<n):w.cell? ⟨M.g,i,O⟩=Z (V (Z ⟨M.ps i,0,O⟩)):=by rw[h.row.cell,qn _ _ _ _ hi,if_pos hi]
theorem Pl.drewN (h:Pl w p n each M fr os c)(m:Nat):Pl (w.drewN m) p n each M fr os c:=⟨h.ptr,h.row,fun i hi=>(h.rings i hi).ed m,h.set,h.psne,h.ogne,h.few,h.one,h.eight⟩
theorem Pl.lt (h:Pl w p n each M fr os c){i:Nat}(k:M.Has n i):i<w.heap.size:=by
 rcases k with rfl | ⟨j,hj,rfl | e⟩
 ·exact h.set.lt
 ·exact(h.rings j hj).By
 ·exact(h.rings j hj).BA e
theorem Pl.By (h:Pl w p n each M fr os c):p<w.heap.size:=h.ptr.lt
theorem Pl.BA (h:Pl w p n each M fr os c):M.g<w.heap.size:=h.row.lt
theorem Pl.dF {q:Nat}{t:TypeId}{cs:Array Value}(h:Pl w p n each M fr os c)(k:Bk w q t cs)(h1:t≠278)(h2:t≠22):¬ M.Has n q:=by
 rintro(e | ⟨j,hj,e | e⟩)
 ·exact h.set.fY k e.symm
 ·obtain⟨cs',hb⟩:=zy (h.rings j hj)
  exact Bk.aj k hb h1 e
 ·obtain⟨cs',hb⟩:=tE (h.rings j hj) e
  exact Bk.aj k hb h2 rfl
theorem Pl.kept {S:Nat->Prop}(h:Pl w p n each M fr os c)(k:ab w w' S)(h1:¬ S p)(h2:¬ S M.g)(h3:∀ i,M.Has n i->¬ S i):Pl w' p n each M fr os c:=
 ⟨h.ptr.within k h1,h.row.within k h2,fun i hi=>(h.rings i hi).kept k (h3 _ (.inr ⟨i,hi,.inl rfl⟩)) (fun _ e=>h3 _ (.inr ⟨i,hi,.inr e⟩)),h.set.within k (h3 _ (.inl rfl)),h.psne,h.ogne,h.few,h.one,h.eight⟩
theorem Pl.grown (h:Pl w p n each M fr os c)(k:w.grownBy w' O):Pl w' p n each M fr os c:=h.kept (S:=fun _=>False) (.ay k (by simp)) (by simp) (by simp) (by simp)
theorem Pl.outs (h:Pl w p n each M fr os c){os':Int->Bool}{c':Nat}(ho:gP w' M.b os' c')(k:fD w w' M.b):Pl w' p n each M fr os' c':=by
 have k':ab w w' (fun i=>i=M.b):=.ay k (by simp)
 refine⟨h.ptr.within k' (fun e=>h.set.fY h.ptr e.symm),h.row.within k' (fun e=>h.set.fY h.row e.symm),fun i hi=>?_,ho,h.psne,h.ogne,h.few,h.one,h.eight⟩
 refine(h.rings i hi).kept k' (fun e=>?_) (fun g eg e=>?_)
 ·obtain⟨cs,hc⟩:=zy (h.rings i hi);exact h.set.fY hc e.symm
 ·obtain⟨cs,hc⟩:=tE (h.rings i hi) eg;exact h.set.fY hc e.symm
def gO (w:World)(n:Nat)(M:PM)(w':World)(M':PM):Prop:=M'.g=M.g/\ab w w' (M.Has n)/\∀ i,M'.Has n i->M.Has n i\/w.heap.size<=i
theorem gO.refl (w:World)(n:Nat)(M:PM):gO w n M w M:=⟨rfl,ab.refl _ _,fun _ h=>.inl h⟩
theorem gO.ed {M':PM}(h:gO w n M w' M')(m:Nat):gO w n M (w'.drewN m) M':=⟨h.1,h.2.1.ed m,h.2.2⟩
theorem gO.bx {w'':World}{M' M'':PM}(h:gO w n M w' M')(k:gO w' n M' w'' M''):gO w n M w'' M'':=
 ⟨k.1.trans h.1,h.2.1.bx k.2.1 h.2.2,fun i hi=>by
  rcases k.2.2 i hi with e | e
  ·exact h.2.2 i e
  ·exact .inr (Nat.le_trans h.2.1.size e)⟩
theorem gO.outs (k:fD w w' M.b):gO w n M w' M:=⟨rfl,.ay k (fun i e=>.inl (.inl (by injection e with e;exact e.symm))),fun _ h=>.inl h⟩
theorem xt (h:Pl w p n each M fr os c)(t:Nat)(ht:t<n):
 Calls Tryz.prog 133 #[V (Z ⟨p,0,O⟩),I Q t] w fun e w'=>e=.returned (.bool true)/\w=w':=by
 have h0:=h.c1
 have hf:=h.few
 go_enter Tryz.func133,Tryz.ntmps133
 go_wp2
 go_ret
 exact⟨rfl,rfl⟩
theorem Eb (h:Pl w p n each M fr os c)(t:Nat)(ht:t<n):
 Calls Tryz.prog 99 #[V (Z ⟨p,0,O⟩),I Q t] w fun e w'=>e=.returned (I Q ((each-(fr t).length:Nat):Int))/\∃ m,w'=w.drewN m:=by
 have c1:=h.c1
 have c2:=h.at_ ht
 have hf:=h.few
 go_enter Tryz.func99,Tryz.ntmps99
 go_wp2_with fail
 refine(xt h t ht).mono ?_
 rintro e w' ⟨rfl,rfl⟩
 go_wp2_with fail
 refine(RWord.Af (h.rings t ht)).mono ?_
 rintro e w' ⟨rfl,m,rfl⟩
 go_wp2
 go_ret
 exact⟨rfl,_,rfl⟩
end
def eP (t each k:Nat):List Int:=(List.range k).map (fun i=>((t*each+1+i:Nat):Int))
theorem xM (t each:Nat):eP t each 0=[]:=rfl
theorem p8 (t each k:Nat):eP t each k++[((t*each+1+k:Nat):Int)]=eP t each (k+1):=by simp[eP,List.range_succ]
theorem ss (t each k:Nat):(eP t each k).length=k:=by simp[eP]
theorem uX {each:Nat}(h:each<=8):RWord.held (each:Int)=each:=by unfold RWord.held;rw[if_neg (by omega),if_neg (by omega),Int.toNat_natCast]
def wb (w:World)(t each:Nat)(e:Ending)(w':World):Prop:=
 ∃ q og,e=.returned (V (Z ⟨q,0,O⟩))/\RWord.Rg w' q og each (eP t each each)/\fB w w' q og
theorem C2 (t each:Nat)(ht:t<64)(he:each<=8)(w:World):Calls Tryz.prog 83 #[I Q t,I Q each] w (wb w t each):=by
 have hb:t*each<=64*8:=Nat.mul_le_mul (by omega) he
 have e1:((t*each:Nat):Int)=(t:Int)*(each:Int):=by simp
 generalize hm:t*each=m at hb e1
 clear hm
 have t3:wrap64 ((t:Int)*(each:Int))=(m:Int):=by rw[<-e1];exact IntWalk.wrap64_in _ (by omega)
 go_enter Tryz.func83,Tryz.ntmps83
 go_wp2_with fail
 refine(RWord.Ay each w).mono ?_
 rintro e w1 ⟨rfl,hr,hg⟩
 rw[uX he] at hr
 have hF:fB w w1 w.heap.size O:=⟨hg,Nat.le_refl _,fun _ e=>by cases e⟩
 generalize w.heap.size=q at hr hF ⊢
 go_wp2
 go_loopw [12] (fun i wr=>∃ k:Nat,∃ og,k<=each/\i=I Q k/\RWord.Rg wr q og each (eP t each k)/\fB w wr q og) (fun i _=>each-(intOf i).toNat)
 case atStart=>exact⟨0,O,Nat.zero_le _,rfl,by rw[xM];exact hr,hF⟩
 case round=>
  obtain⟨k,og,hk,rfl,hr,hF⟩:=hrel
  by_cases hlt:k<each
  ·go_wp2_with fail
   refine(xJ _ 0 (by omega) (by omega) (by omega) (by omega) _).mono ?_
   rintro e w2 ⟨rfl,rfl⟩
   go_wp2_with fail
   refine(RWord.Cv hr (by rw[ss];exact hlt) _).mono ?_
   rintro e w2 ⟨og2,rfl,hr2,hmv⟩
   have hr3:RWord.Rg w2 q og2 each (eP t each (k+1)):=by
    rw[<-p8,show ((t*each+1+k:Nat):Int)=(t:Int)*(each:Int)+1+(k:Int) by simp]
    exact hr2
   go_wp2
   go_roundw
   case rel=>exact⟨k+1,og2,by omega,by go_num,hr3,hF.Ef hmv⟩
   case measure=>simp[intOf];omega
  ·obtain rfl:k=each:=by omega
   go_wp2
   go_ret
   exact⟨q,og,rfl,hr,hF⟩
structure rm (w:World)(p n each k:Nat)(M:PM)(wr:World):Prop where
 ptr:Bk wr p 178 #[I Q each,.slice (Z ⟨M.g,0,O⟩) n n,.map (Z M.b)]
 row:Bk wr M.g 179 (ju M.ps n k)
 rings:∀ i,i<k->RWord.Rg wr (M.ps i) (M.ogs i) each (eP i each each)
 set:gP wr M.b (fun _=>false) 0
 psne:∀ i j,i<k->j<k->i≠j->M.ps i≠M.ps j
 ogne:∀ i j g,i<k->j<k->i≠j->M.ogs i=Z g->M.ogs j≠Z g
 gr:w.grownBy wr O
 new:∀ i,M.Has k i->w.heap.size<=i
 newp:w.heap.size<=p
 newg:w.heap.size<=M.g
theorem rm.step {w wr w2:World}{p n each k q:Nat}{M:PM}{og:Option Nat}(h:rm w p n each k M wr)(hr:RWord.Rg w2 q og each (eP k each each))(hF:fB wr w2 q og):
 rm w p n each (k+1) { M with ps:=Br M.ps k q,ogs:=Br M.ogs k og } (w2.setCell ⟨M.g,k,O⟩ (V (Z ⟨q,0,O⟩))):=by
 have hw:ab wr w2 (fun _=>False):=.ay hF.1 (by simp)
 have hrow:=(h.row.within hw (by simp))
 have hptr:=(h.ptr.within hw (by simp))
 have hset:=(h.set.within hw (by simp))
 have hk:ab w2 (w2.setCell ⟨M.g,k,O⟩ (V (Z ⟨q,0,O⟩))) (fun i=>i=M.g):=(ab.refl w2 _).put M.g _ _ (.inl rfl)
 have hkeep:∀ {a:Nat} {o:Option Nat} {vs:List Int},RWord.Rg w2 a o each vs->RWord.Rg (w2.setCell ⟨M.g,k,O⟩ (V (Z ⟨q,0,O⟩))) a o each vs:=by
  intro a o vs hr
  refine hr.kept hk (fun e=>?_) (fun g' e e'=>?_)
  ·obtain⟨cs,hc⟩:=zy hr;exact Bk.aj hc hrow (by decide) e
  ·obtain⟨cs,hc⟩:=tE hr e;exact Bk.aj hc hrow (by decide) e'
 have hold:∀ i,i<k->M.ps i<wr.heap.size:=fun i hi=>(h.rings i hi).By
 have holg:∀ i,i<k->∀ g,M.ogs i=Z g->g<wr.heap.size:=fun i hi g e=>(h.rings i hi).BA e
 refine⟨hptr.within hk (Bk.aj hptr hrow (by decide)),?_,fun i hi=>?_,hset.within hk (hset.fY hrow),?_,?_,?_,?_,h.newp,h.newg⟩
 ·have:=hrow.put k (V (Z ⟨q,0,O⟩))
  rw[uD] at this
  exact this
 ·by_cases e:i=k
  ·subst e;simp only[bP];exact hkeep hr
  ·simp only[bj e]
   exact hkeep ((h.rings i (by omega)).kept hw (by simp) (by simp))
 ·intro i j hi hj hne
  have hq:=hF.2.1
  by_cases ei:i=k
  ·subst ei
   simp only[bP,bj (fun e=>hne e.symm)]
   have:=hold j (by omega);omega
  ·simp only[bj ei]
   by_cases ej:j=k
   ·subst ej;simp only[bP];have:=hold i (by omega);omega
   ·simp only[bj ej];exact h.psne i j (by omega) (by omega) hne
 ·intro i j g hi hj hne
  by_cases ei:i=k
  ·subst ei
   simp only[bP,bj (fun e=>hne e.symm)]
   intro e1 e2
   have:=hF.2.2 g e1;have:=holg j (by omega) g e2;omega
  ·simp only[bj ei]
   by_cases ej:j=k
   ·subst ej;simp only[bP];intro e1 e2
    have:=hF.2.2 g e2;have:=holg i (by omega) g e1;omega
   ·simp only[bj ej];exact h.ogne i j g (by omega) (by omega) hne
 ·exact aQ (aQ h.gr hF.1 (.inl rfl)) (dq _ _ _ _) (.inr fun x e=>by injection e with e;have:=h.newg;omega)
 ·have hs:=h.gr.size
  rintro i (e | ⟨j,hj,e | e⟩)
  ·exact h.new i (.inl e)
  ·by_cases ej:j=k
   ·subst ej;simp only[bP] at e;have:=hF.2.1;omega
   ·simp only[bj ej] at e;exact h.new i (.inr ⟨j,by omega,.inl e⟩)
  ·by_cases ej:j=k
   ·subst ej;simp only[bP] at e;have:=hF.2.2 i e;omega
   ·simp only[bj ej] at e;exact h.new i (.inr ⟨j,by omega,.inr e⟩)
def Di (w:World)(n each:Nat)(e:Ending)(w':World):Prop:=
 ∃ p M,e=.returned (.tuple #[V (Z ⟨p,0,O⟩),I Q 0])/\Pl w' p n each M (fun t=>eP t each each) (fun _=>false) 0/\w.grownBy w' O/\(∀ i,M.Has n i->w.heap.size<=i)/\w.heap.size<=p/\w.heap.size<=M.g
theorem Cw:(Tryz.prog.info? 179).map (fun i=>(i.zero,i.size,i.bytes))=Z (Z (V O),1,8):=by kernel_rfl
theorem uP (w:World)(n each:Nat):
 rm w (w.heap.size+2) n each 0 ⟨w.heap.size,w.heap.size+1,fun _=>0,fun _=>O⟩
  (((w.alloc (.cells (madeCells #[V O] n) 179)).alloc (.map #[] 0)).alloc (.cells #[I Q each,.slice (Z ⟨w.heap.size,0,O⟩) n n,.map (Z (w.heap.size+1))] 178)):=by
 have h1:=Bk.made w 179 (madeCells #[V O] n)
 have g1:=bf w (.cells (madeCells #[V O] n) 179) O
 have s1:(w.alloc (.cells (madeCells #[V O] n) 179)).heap.size=w.heap.size+1:=by simp
 generalize w.alloc (.cells (madeCells #[V O] n) 179)=w1 at h1 g1 s1 ⊢
 have h2:=gP.made w1
 have g2:=bf w1 (.map #[] 0) O
 have s2:(w1.alloc (.map #[] 0)).heap.size=w1.heap.size+1:=by simp
 have h1':=h1.alloc (.map #[] 0)
 rw[s1] at h2
 generalize w1.alloc (.map #[] 0)=w2 at h2 g2 s2 h1' ⊢
 have h3:=Bk.made w2 178 #[I Q each,.slice (Z ⟨w.heap.size,0,O⟩) n n,.map (Z (w.heap.size+1))]
 rw[show w2.heap.size=w.heap.size+2 by omega] at h3
 rw[rW (fun _=>0)] at h1'
 refine⟨h3,h1'.alloc _,fun i hi=>by omega,h2.within (S:=fun _=>False) (.ay (bf _ _ O) (by simp)) (by simp),fun i j hi=>by omega,fun i j g hi=>by omega,?_,?_,by omega,Nat.le_refl _⟩
 ·exact aQ (aQ g1 g2 (.inl rfl)) (bf _ _ O) (.inl rfl)
 ·rintro i (e | ⟨j,hj,_⟩)
  ·simp only at e;omega
  ·omega
theorem sr {w w':World}{p:Nat}{og:Option Nat}(h:fB w.drew w' p og):fB w w' p og:=⟨⟨h.1.os,h.1.tape,h.1.output,h.1.size,h.1.block⟩,h.2⟩
theorem Ec (n each:Nat)(h1:1<=n)(hn:n<=64)(he:each<=8)(w:World):Calls Tryz.prog 46 #[I Q n,I Q each] w (Di w n each):=by
 obtain⟨i0,hi0,hz0,hz1,hz2⟩:=info_parts Cw
 have hmk:=fun W:World=>run_make (P:=Tryz.prog) W 175 179 i0 _ Tryz.underlying175 hi0 hz0 .i64 .i64 n n (by omega) (by omega) (by rw[hz2];omega) (by omega)
 rw[hz1] at hmk
 clear hi0 hz0 hz1 hz2
 have hmm:=@run_makeMap Tryz.prog
 have hst:=uP w n each
 rw[show w.heap.size+2=w.heap.size+1+1 from rfl] at hst
 have HST:=Lib.hid hst
 clear hst
 go_enter Tryz.func46,Tryz.ntmps46
 go_wp2
 clear hmk hmm
 go_loopw [29] (fun i wr=>∃ (k:Nat) (ps:Nat->Nat) (ogs:Nat->Option Nat),k<=n/\i=I Q k/\rm w (w.heap.size+1+1) n each k ⟨w.heap.size,w.heap.size+1,ps,ogs⟩ wr) (fun i _=>n-(intOf i).toNat)
 case atStart=>
  exact⟨0,fun _=>0,fun _=>O,Nat.zero_le _,rfl,HST.out⟩
 case round=>
  clear HST
  obtain⟨k,ps,ogs,hk,rfl,hN⟩:=hrel
  have hpg:w.heap.size+1+1≠w.heap.size:=by omega
  generalize w.heap.size+1+1=p at *
  by_cases hlt:k<n
  ·have d1:wr.cell? ⟨p,1,O⟩=Z (.slice (Z ⟨w.heap.size,0,O⟩) n n):=by rw[hN.ptr.cell];rfl
   have HN:=Lib.hid hN
   clear hN
   have k1:∀ (W:World) (u:Value) (i j:Nat),(W.setCell ⟨w.heap.size,i,O⟩ u).cell? ⟨p,j,O⟩=W.cell? ⟨p,j,O⟩:=fun W u i j=>cj hpg
   go_wp2
   go_region_held3 (fun w'=>w'.cell? ⟨p,1,O⟩=Z (Value.slice (Z ⟨w.heap.size,0,O⟩) n n)) (first | (exact f1) | go_keep)
    (first | (go_at_call 83;refine(C2 k each (by omega) he _).mono ?_;rintro e w2 ⟨q,og,rfl,hr2,hF2⟩;have hF:=sr hF2;have hw2:=hF.1;have hrow:=HN.out.row.grown hw2 (by simp);have f1:=(HN.out.ptr.grown hw2 (by simp)).cell 1;have f2:=hrow.cell k;rw[qn _ _ _ _ hlt] at f2;have f3:=hrow.free k;simp only[List.getElem?_toArray,List.getElem?_cons_zero,List.getElem?_cons_succ] at f1;simp only at f2 f3))
   have hs:=HN.out.step hr2 hF
   have HS:=Lib.hid hs
   clear hs hr2 hF hw2 hrow f1 f2 f3 k1 d1
   go_wp2
   go_roundw
   case rel=>exact⟨k+1,_,_,by omega,by go_num,HS.out⟩
   case measure=>simp[intOf];omega
  ·obtain rfl:k=n:=by omega
   go_wp2
   go_ret2
   exact⟨p,_,rfl,⟨hN.ptr,hN.row,hN.rings,hN.set,hN.psne,hN.ogne,hn,h1,he⟩,hN.gr,hN.new,hN.newp,hN.newg⟩
def lB (gen:List Int)(q:Nat):Int:=aG gen q*4096+((q:Int)+1)
def Fg (N:Nat)(gen out:List Int)(h:Int):Bool:=decide (1<=h % 4096/\h % 4096<=(N:Int)/\aG out (h % 4096-1).toNat=1/\lB gen (h % 4096-1).toNat=h)
def lx (xs:List Int):Nat->Int
 | 0=>0
 | k+1=>lx xs k+aG xs k
structure mt (n each:Nat)(free:Nat->List Nat)(gen out:List Int)(fr:Nat->List Int)(os:Int->Bool)(c:Nat):Prop where
 few:n<=64
 eight:each<=8
 lenG:gen.length=n*each
 lenO:out.length=n*each
 gens:∀ q,0<=aG gen q/\aG gen q<262144
 outs:∀ q,aG out q=0\/aG out q=1
 frs:∀ t,t<n->fr t=(free t).map (lB gen)
 oss:∀ h,0<=h->h<4294967296->os h=Fg (n*each) gen out h
 cnt:(c:Int)=lx out (n*each)
 own:∀ t,t<n->∀ q,q∈free t->t*each<=q/\q<t*each+each/\aG out q=0
 dup:∀ t,t<n->(free t).Nodup
theorem nI {xs:List Int}{q:Nat}(hq:q<xs.length)(v:Int):∀ k,k<=xs.length->lx (xs.set q v) k=lx xs k+(if q<k then v-aG xs q else 0)
 | 0,_=>by simp[lx]
 | k+1,hk=>by
  unfold lx
  rw[nI hq v k (by omega),g8 hq]
  by_cases e:q=k
  ·subst e;simp;omega
  ·rw[if_neg e]
   by_cases h:q<k
   ·rw[if_pos h,if_pos (by omega)];omega
   ·rw[if_neg h,if_neg (by omega)];omega
theorem ky:∀ (k a:Nat) (l:List Nat),l.Nodup->(∀ q,q∈l->a<=q/\q<a+k)->l.length<=k
 | 0,a,l,_,h=>by
  cases l with
  | nil=>simp
  | cons q r=>have:=h q (by simp);omega
 | k+1,a,l,hd,h=>by
  have h1:=ky k a (l.erase (a+k)) (hd.erase _) (fun q hq=>by
   have hm:=(hd.mem_erase_iff.1 hq)
   have:=h q hm.2
   have:=hm.1
   omega)
  have h2:=List.length_erase_le (a:=a+k) (l:=l)
  by_cases hm:a+k∈l
  ·have:=List.length_erase_of_mem hm;omega
  ·rw[List.erase_of_not_mem hm] at h1;omega
section
variable {n each c:Nat}{free:Nat->List Nat}{gen out:List Int}{fr:Nat->List Int}{os:Int->Bool}
theorem mt.le (h:mt n each free gen out fr os c):n*each<=512:=Nat.mul_le_mul h.few h.eight
theorem mt.F7 (_h:mt n each free gen out fr os c){t q:Nat}(ht:t<n)(hq:q<t*each+each):q<n*each:=by
 have:(t+1)*each<=n*each:=Nat.mul_le_mul_right _ ht
 rw[Nat.add_mul,Nat.one_mul] at this
 omega
theorem kD {gen:List Int}(hg:∀ q,0<=aG gen q/\aG gen q<262144){q:Nat}(hq:q<512):0<lB gen q/\lB gen q<4294967296/\lB gen q % 4096=(q:Int)+1/\lB gen q / 4096=aG gen q:=by
 have:=hg q
 unfold lB
 omega
theorem tW {N:Nat}{gen out:List Int}(hg:∀ q,0<=aG gen q/\aG gen q<262144){q:Nat}(hq:q<N)(hN:N<=512):Fg N gen out (lB gen q)=decide (aG out q=1):=by
 obtain⟨f1,f2,f3,f4⟩:=kD hg (q:=q) (by omega)
 unfold Fg
 rw[f3,show ((q:Int)+1-1).toNat=q by omega,Bool.eq_iff_iff]
 simp
 omega
theorem mt.take (h:mt n each free gen out fr os c){t q:Nat}{rest:List Nat}(ht:t<n)(e:free t=q :: rest):
 q<n*each/\aG out q=0/\fr t=lB gen q :: rest.map (lB gen)/\os (lB gen q)=false/\mt n each (Br free t rest) gen (out.set q 1) (Br fr t (rest.map (lB gen))) (sX os (lB gen q) true) (c+1):=by
 have hN:=h.le
 obtain⟨o1,o2,o3⟩:=h.own t ht q (by rw[e];simp)
 have hq:=h.F7 ht o2
 obtain⟨f1,f2,f3,f4⟩:=kD h.gens (q:=q) (by omega)
 have hfr:fr t=lB gen q :: rest.map (lB gen):=by rw[h.frs t ht,e];rfl
 have hos:os (lB gen q)=false:=by rw[h.oss _ (by omega) f2,tW h.gens hq hN,o3];rfl
 have hlO:=h.lenO
 refine⟨hq,o3,hfr,hos,h.few,h.eight,h.lenG,by simpa using hlO,h.gens,fun q'=>?_,fun s hs=>?_,fun x x0 x1=>?_,?_,fun s hs q' hm=>?_,fun s hs=>?_⟩
 ·rw[g8 (by omega)]
  split
  ·exact .inr rfl
  ·exact h.outs q'
 ·by_cases es:s=t
  ·subst es;rw[bP,bP]
  ·rw[bj es,bj es];exact h.frs s hs
 ·by_cases ex:x=lB gen q
  ·subst ex
   rw[nF,tW h.gens hq hN,g8 (by omega),if_pos rfl]
   rfl
  ·rw[l8 ex,h.oss x x0 x1]
   unfold Fg
   rw[Bool.eq_iff_iff]
   simp only[decide_eq_true_eq]
   constructor
   ·rintro⟨a1,a2,a3,a4⟩
    refine⟨a1,a2,?_,a4⟩
    rw[g8 (by omega)]
    split
    ·rfl
    ·exact a3
   ·rintro⟨a1,a2,a3,a4⟩
    refine⟨a1,a2,?_,a4⟩
    rw[g8 (by omega),if_neg (fun e'=>ex (by rw[<-a4,e']))] at a3
    exact a3
 ·rw[nI (by omega) 1 _ (by omega),if_pos (by omega),o3,<-h.cnt]
  omega
 ·by_cases es:s=t
  ·subst es
   rw[bP] at hm
   obtain⟨b1,b2,b3⟩:=h.own s hs q' (by rw[e];simp[hm])
   refine⟨b1,b2,?_⟩
   have hd:=h.dup s hs
   rw[e] at hd
   rw[g8 (by omega),if_neg (fun e'=>by subst e';exact(List.nodup_cons.1 hd).1 hm)]
   exact b3
  ·rw[bj es] at hm
   obtain⟨b1,b2,b3⟩:=h.own s hs q' hm
   refine⟨b1,b2,?_⟩
   have hne:q≠q':=by
    rintro rfl
    rcases Nat.lt_or_gt_of_ne es with hlt | hlt
    ·have:=Nat.mul_le_mul_right each (show s+1<=t from hlt)
     rw[Nat.add_mul,Nat.one_mul] at this;omega
    ·have:=Nat.mul_le_mul_right each (show t+1<=s from hlt)
     rw[Nat.add_mul,Nat.one_mul] at this;omega
   rw[g8 (by omega),if_neg hne]
   exact b3
 ·by_cases es:s=t
  ·subst es
   have hd:=h.dup s hs
   rw[e] at hd
   rw[bP]
   exact(List.nodup_cons.1 hd).2
  ·rw[bj es];exact h.dup s hs
def jX (each:Nat):Nat->List Nat:=fun t=>(List.range each).map fun i=>t*each+i
theorem fM (k q:Nat):aG (List.replicate k 0) q=0:=by
 simp[aG,List.getD_eq_getElem?_getD,List.getElem?_replicate];split <;> rfl
theorem kP (N:Nat):∀ k,lx (List.replicate N 0) k=0
 | 0=>rfl
 | k+1=>by unfold lx;rw[kP N k,fM];rfl
theorem qj (n each:Nat)(hn:n<=64)(he:each<=8):mt n each (jX each) (List.replicate (n*each) 0) (List.replicate (n*each) 0) (fun t=>eP t each each) (fun _=>false) 0:=by
 refine⟨hn,he,by simp,by simp,fun q=>by rw[fM];omega,fun q=>.inl (fM _ _),fun t ht=>?_,fun h h0 h1=>?_,by rw[kP];rfl,fun t ht q hq=>?_,fun t ht=>?_⟩
 ·unfold eP jX
  rw[List.map_map]
  refine List.map_congr_left fun i hi=>?_
  simp only[Function.comp,lB,fM]
  omega
 ·unfold Fg
  simp[fM]
 ·unfold jX at hq
  simp only[List.mem_map,List.mem_range] at hq
  obtain⟨i,hi,rfl⟩:=hq
  exact⟨by omega,by omega,fM _ _⟩
 ·unfold jX
  exact List.Pairwise.map _ (fun a b hab e=>hab (by omega)) List.nodup_range
end
