import Derived.Test.YtieiifdhdjhnoaaDoorPMem
import Derived.Deep.RegionLaw
import Derived.Lib.AtoiAll
import Derived.Lib.IndexMore
import Derived.Laws.BitsAllLaws
import Derived.Test.YtieiifdhdjhnoaaDoorRows
import Derived.Deep.WholeRow
import Derived.Laws.Tables
import Derived.BigRegionIn
import Derived.Deep.RegionHeld3
import Derived.Deep.Cut
import Derived.Deep.QuietTactic
import Derived.BigQuiet
import Derived.ProofKit
import Derived.OpenShut
import Derived.Deep.Fields
import Derived.Deep.Slices
import Derived.ChangeSame
import Derived.Lib.SmallJoins
import Derived.Test.YtieiifdhdjhnoaaDoorTie
import Derived.Test.YtieiifdhdjhnoaaDoorCards
import Derived.Lay
import Derived.Handed
import Derived.PinnedBridge
import Derived.SevenTiedAt
import Derived.Shelf.Vars
import Derived.Lib.LaidTab
import Derived.Stop.LaidErr
import Derived.Deep.Onto
set_option linter.unusedVariables false
set_option maxHeartbeats 1000000
set_option maxRecDepth 100000
open Go.Value renaming int->I,slice->K,pointer->G
open Go.IntKind renaming i64->N,u32->Z
open Option renaming none->V,some->S
open Bool renaming false->T,true->U
open Go.Obj renaming cells->E
open Go.Lib renaming hid->D
open Go.RowKit.Below renaming refl->L
open Nat renaming le_refl->M
namespace Go.Proofs.YtieiifdhdjhnoaaDoor
section
open Go.ChangeShapes Go.WideShapes Go.ChangeAt Go.RowKit
def mT (ops:Array Oper)(st:List Nat)(i:Nat):Nat:=(st.filter fun s=>(aY ops i).contains s).length
def mU (ops:Array Oper)(st:List Nat)(i:Nat):Nat:=st.findIdx fun s=>(aY ops s).contains i
def cT (ops:Array Oper):List Nat->Bool
 | s :: t :: l=>(aY ops t).contains s && (decide (s<ops.size) && cT ops (t :: l))
 | [s]=>decide (s<ops.size)
 | []=>U
def eN (P:Program)(ops:Array Oper)(F:Nat->Value->World->Prop)(Wp:Nat->World->Prop)(Step:Nat->World->World->Prop)(lit:(Nat->Value)->Act)(st:List Nat):List Oper->Nat->Prop
 | [],_=>True
 | o :: l,i=>(match st.contains i with
  | true=>∀ (vs:Nat->Value) W,Wp (st.idxOf i) W->(∀ j∈aY ops i,F j (vs j) W)->bm P ops (fun v W'=>F i v W'/\Wp (st.idxOf i+1) W'/\Step (st.idxOf i) W W') o (lit vs) W
  | false=>∀ (vs:Nat->Value) W k,mT ops st i<=k->k<=mU ops st i->Wp k W->(∀ j∈aY ops i,F j (vs j) W)->bM P ops (F i) o (lit vs) W)/\eN P ops F Wp Step lit st l (i+1)
theorem dW {P:Program}{ops:Array Oper}{F:Nat->Value->World->Prop}{Wp:Nat->World->Prop}{Step:Nat->World->World->Prop}{lit:(Nat->Value)->Act}{st:List Nat}:∀ (l:List Oper) (b i:Nat) (o:Oper),eN P ops F Wp Step lit st l b->l[i]?=S o->
 (st.contains (b+i)=U->∀ (vs:Nat->Value) W,Wp (st.idxOf (b+i)) W->(∀ j∈aY ops (b+i),F j (vs j) W)->bm P ops (fun v W'=>F (b+i) v W'/\Wp (st.idxOf (b+i)+1) W'/\Step (st.idxOf (b+i)) W W') o (lit vs) W)/\
 (st.contains (b+i)=T->∀ (vs:Nat->Value) W k,mT ops st (b+i)<=k->k<=mU ops st (b+i)->Wp k W->(∀ j∈aY ops (b+i),F j (vs j) W)->bM P ops (F (b+i)) o (lit vs) W)
 | [],b,i,o,_,hi=>by simp at hi
 | x :: l,b,0,o,h,hi=>by
  simp only[List.getElem?_cons_zero,Option.some.injEq] at hi
  subst hi
  have h1:=h.1
  simp only[Nat.add_zero]
  constructor
  ·intro e;rw[e] at h1;exact h1
  ·intro e;rw[e] at h1;exact h1
 | x :: l,b,i+1,o,h,hi=>by
  have:=dW l (b+1) i o h.2 (by simpa using hi)
  rw[show b+1+i=b+(i+1) by omega] at this
  exact this
theorem fy {ops:Array Oper}:∀ (st:List Nat),cT ops st=U->∀ (j s t:Nat),st[j]?=S s->st[j+1]?=S t->s∈aY ops t
 | [],_,j,s,t,h,_=>by simp at h
 | [x],_,j,s,t,_,h=>by simp at h
 | x :: y :: l,h,0,s,t,h1,h2=>by
  simp at h1 h2
  subst h1;subst h2
  simp only[cT,Bool.and_eq_true] at h
  simpa using h.1
 | x :: y :: l,h,j+1,s,t,h1,h2=>by
  simp only[cT,Bool.and_eq_true] at h
  exact fy (y :: l) h.2.2 j s t (by simpa using h1) (by simpa using h2)
theorem fx {ops:Array Oper}:∀ (st:List Nat),cT ops st=U->∀ s∈st,s<ops.size
 | [],_,s,h=>by simp at h
 | [x],h,s,hs=>by simp at hs;subst hs;simpa [cT] using h
 | x :: y :: l,h,s,hs=>by
  simp only[cT,Bool.and_eq_true,decide_eq_true_eq] at h
  rcases List.mem_cons.1 hs with rfl | hs
  ·exact h.2.1
  ·exact fx (y :: l) h.2.2 s hs
theorem bW {P:Program}{l:List Oper}{Q:Exit->Act->World->Prop}{id:Nat}{a:Act}{w:World}(st:List Nat)(Wp:Nat->World->Prop)(Step:Nat->World->World->Prop)(lit:(Nat->Value)->Act)(F:Nat->Value->World->Prop)
 (hm:P.follows .mixedOrders=U) (hr:lT l.toArray=U) (hc:cT l.toArray st=U) (hnd:st.Nodup) (hlit:∀ vs,ao l.toArray a (fun _=>U) vs=lit vs)
 (h0:Wp 0 w)
 (hW:∀ k W W',Wp k W->Below W.heap.size W W'->Wp k W')
 (hF:∀ i v W W',F i v W->Below W.heap.size W W'->F i v W')
 (hS:∀ k W W',Wp k W->Step k W W'->∀ i v,F i v W->F i v W')
 (hop:eN P l.toArray F Wp Step lit st l 0)
 (hend:∀ (vs:Nat->Value) W,Wp st.length W->(∀ i,i<l.length->F i (vs i) W)->Q .normal (lit vs) W):(Code.region id l.toArray U).wp P Q a w:=by
 refine dY hm hr (fun d vs W=>∃ k,k<=st.length/\(∀ j s,st[j]?=S s->(d s=U↔j<k))/\(∀ i,d i=U->∀ j∈aY l.toArray i,d j=U)/\Wp k W/\∀ i,d i=U->F i (vs i) W) ?_ ?_ ?_
 ·exact⟨0,Nat.zero_le _,fun j s _=>by simp,(fun i h=>by cases h),hW 0 _ _ h0 (L _ _).drew,(fun i h=>by cases h)⟩
 ·rintro i o ho d vs W ⟨k,hk,hst,hcl,hWk,hFd⟩ hdi hdep
  have ho':l[i]?=S o:=by simpa using ho
  rw[hlit]
  obtain⟨e1,e2⟩:=dW l 0 i o hop ho'
  rw[Nat.zero_add] at e1 e2
  have hFdep:∀ j∈aY l.toArray i,F j (vs j) W:=fun j hj=>hFd j (hdep j hj)
  cases hci:st.contains i with
  | true=>
   have hmem:i∈st:=by simpa using hci
   have hidx:st.idxOf i<st.length:=List.idxOf_lt_length_iff.2 hmem
   have hat:st[st.idxOf i]?=S i:=by rw[List.getElem?_eq_getElem hidx,List.getElem_idxOf hidx]
   have hki:st.idxOf i=k:=by
    have h1:¬ st.idxOf i<k:=fun h=>by
     have:=(hst _ i hat).2 h
     rw[hdi] at this;cases this
    rcases Nat.lt_or_eq_of_le (Nat.le_of_not_lt h1) with h2 | h2
    ·exfalso
     have hp:st.idxOf i-1+1=st.idxOf i:=by omega
     have hpl:st.idxOf i-1<st.length:=by omega
     have hs:=fy st hc (st.idxOf i-1) st[st.idxOf i-1] i (List.getElem?_eq_getElem hpl) (by rw[hp];exact hat)
     have hd:=hdep _ hs
     have:=(hst _ _ (List.getElem?_eq_getElem hpl)).1 hd
     omega
    ·exact h2.symm
   have h3:=e1 hci vs W (by rw[hki];exact hWk) hFdep
   refine eT h3 ?_
   rintro v W' ⟨hv,hW2,hstep⟩
   rw[hki] at hW2 hstep
   refine⟨k+1,by omega,fun j s hs=>?_,fun x hx j hj=>by
    by_cases e:x=i
    ·subst e;have h4:=hdep j hj;by_cases e2:j=x <;> simp[e2,h4]
    ·simp only[if_neg e] at hx;have h4:=hcl x hx j hj;by_cases e2:j=i <;> simp[e2,h4],hW2,fun j hj=>?_⟩
   ·by_cases e:s=i
    ·subst e
     have hj:j=k:=by
      rw[<-hki]
      have hjl:=(List.getElem?_eq_some_iff.1 hs).1
      have hsj:=(List.getElem?_eq_some_iff.1 hs).2
      have:=hnd.idxOf_getElem j hjl
      rw[hsj] at this
      exact this.symm
     simp;omega
    ·simp only[if_neg e]
     rw[hst j s hs]
     constructor
     ·omega
     ·intro h
      by_cases hj:j=k
      ·exfalso
       subst hj
       rw[<-hki,hat] at hs
       injection hs with hs
       exact e hs.symm
      ·omega
   ·by_cases e:j=i
    ·subst e;simp only[if_true];exact hv
    ·simp only[if_neg e] at hj ⊢
     exact hS k W W' hWk hstep j _ (hFd j hj)
  | false=>
   have hnm:i ∉ st:=by simpa using hci
   have hlo:mT l.toArray st i<=k:=by
    unfold mT
    have hsub:∀ (s:List Nat) (b:Nat),(∀ j x,s[j]?=S x->st[b+j]?=S x)->(s.filter fun x=>(aY l.toArray i).contains x).length<=k-b:=by
     intro s
     induction s with
     | nil=>intro b _;simp
     | cons x s ih=>
      intro b hb
      have hx:=hb 0 x (by simp)
      rw[Nat.add_zero] at hx
      have ih2:=ih (b+1) (fun j y hy=>by rw[show b+1+j=b+(j+1) by omega];exact hb (j+1) y (by simpa using hy))
      rw[List.filter_cons]
      split
      ·rename_i hcx
       have hd:=hdep x (by simpa using hcx)
       have:=(hst b x hx).1 hd
       simp only[List.length_cons]
       omega
      ·omega
    have:=hsub st 0 (fun j x h=>by rw[Nat.zero_add];exact h)
    omega
   have hhi:k<=mU l.toArray st i:=by
    unfold mU
    rcases Nat.lt_or_ge (st.findIdx fun s=>(aY l.toArray s).contains i) st.length with h | h
    ·refine Nat.le_of_not_lt fun hlt=>?_
     have hp:=List.findIdx_getElem (w:=h)
     have hd:=(hst _ _ (List.getElem?_eq_getElem h)).2 hlt
     have:=hcl _ hd i (by simpa using hp)
     rw[hdi] at this
     cases this
    ·omega
   exact gy (e2 hci vs W k hlo hhi hWk hFdep) (fun v W' hv hb=>⟨k,hk,fun j s hs=>by
    have hne:s≠i:=fun e=>hnm (e ▸ List.mem_of_getElem? hs)
    simp only[if_neg hne]
    exact hst j s hs,fun x hx j hj=>by
    by_cases e:x=i
    ·subst e;have h4:=hdep j hj;by_cases e2:j=x <;> simp[e2,h4]
    ·simp only[if_neg e] at hx;have h4:=hcl x hx j hj;by_cases e2:j=i <;> simp[e2,h4],hW k W W' hWk hb,fun j hj=>by
    by_cases e:j=i
    ·subst e;simp only[if_true];exact hv
    ·simp only[if_neg e] at hj ⊢
     exact hF j _ W W' (hFd j hj) hb⟩)
 ·rintro d vs W ⟨k,hk,hst,hcl,hWk,hFd⟩ hall
  rw[hlit]
  have hks:k=st.length:=by
   rcases Nat.lt_or_eq_of_le hk with h | h
   ·exfalso
    have h1:=(hst k _ (List.getElem?_eq_getElem h))
    have h2:=hall st[k] (fx st hc _ (List.getElem_mem h))
    have:=h1.1 h2
    omega
   ·exact h
  rw[hks] at hWk
  exact hend vs W hWk (fun i hi=>hFd i (hall i (by simpa using hi)))
structure cF where
 l:List ay
 lo:Int
 un:Int
def cF.zero:cF:=⟨[],0,0⟩
def eb (i:ay):List Value:=[I N i.op,I N i.d,I N i.s,I N i.t,I N i.u,I N i.a,I Z i.k,I N i.pl]
theorem li (i:ay):(eb i).length=8:=rfl
def aK (l:List ay):List Value:=l.flatMap eb
theorem ev (l:List ay)(i:ay):aK (l++[i])=aK l++eb i:=by simp[aK]
theorem g8 (i:ay):∀ u∈eb i,u.oneCell'=U:=by
 intro u hu
 simp only[eb,List.mem_cons,List.not_mem_nil,or_false] at hu
 rcases hu with rfl|rfl|rfl|rfl|rfl|rfl|rfl|rfl <;> rfl
theorem mF:(Tryd.prog.info? 59).map (fun i=>(i.zero,i.size,i.bytes))=S (S (.agg #[I N 0,I N 0,I N 0,I N 0,I N 0,I N 0,I Z 0,I N 0]),8,64):=by kernel_rfl
theorem gb {α:Type}(f:α->List Value)(n:Nat)(hf:∀ x,(f x).length=n):∀ (l:List α) (k j:Nat) (x:α),l[k]?=S x->j<n->(l.flatMap f)[k*n+j]?=(f x)[j]?
 | [],k,j,x,h,_=>by simp at h
 | y :: l,0,j,x,h,hj=>by
  simp at h
  subst h
  simp[List.getElem?_append,hf,hj]
 | y :: l,k+1,j,x,h,hj=>by
  have ih:=gb f n hf l k j x (by simpa using h) hj
  rw[<-ih]
  have e:(k+1)*n+j=n+(k*n+j):=by rw[Nat.add_mul];omega
  rw[e,List.flatMap_cons,List.getElem?_append_right (by rw[hf];omega),hf]
  congr 1
  omega
theorem lc {l:List ay}{k:Nat}{i:ay}(h:l[k]?=S i){j:Nat}(hj:j<8):(aK l)[k*8+j]?=(eb i)[j]?:=gb eb 8 li l k j i h hj
def Pg (w:World)(base:Nat)(v:Value)(c:cF):Prop:=∃ sl,v=.agg #[sl,I N c.lo,I N c.un]/\w.ownsRow base 59 8 sl c.l.length (aK c.l)
theorem mc (i j:ay)(w:World):(binOp .eql 59 (iv i) (iv j)).run Tryd.prog w=.ok (.bool (bw i j)) w:=by
 unfold iv
 have hu:=Tryd.underlying59
 go_simp
 unfold bw
 repeat' split
 all_goals simp[*]
def Ib (w:World)(g:Nat)(i:ay):Prop:=Bk w g 59 #[I N i.op,I N i.d,I N i.s,I N i.t,I N i.u,I N i.a,I Z i.k,I N i.pl]
theorem Ib.cells {w:World}{g:Nat}{i:ay}(h:Ib w g i):
 w.cell? ⟨g,0,V⟩=S (I N i.op)/\w.cell? ⟨g,1,V⟩=S (I N i.d)/\w.cell? ⟨g,2,V⟩=S (I N i.s)/\w.cell? ⟨g,3,V⟩=S (I N i.t)/\
 w.cell? ⟨g,4,V⟩=S (I N i.u)/\w.cell? ⟨g,5,V⟩=S (I N i.a)/\w.cell? ⟨g,6,V⟩=S (I Z i.k)/\w.cell? ⟨g,7,V⟩=S (I N i.pl):=
 ⟨Bk.cell h 0,Bk.cell h 1,Bk.cell h 2,Bk.cell h 3,Bk.cell h 4,Bk.cell h 5,Bk.cell h 6,Bk.cell h 7⟩
theorem Ib.below {w w':World}{g:Nat}{i:ay}(h:Ib w g i)(hb:Below w.heap.size w w'):Ib w' g i:=(hb.block g (Bk.lt h)).trans h
theorem Ib.oG {w:World}{b:Nat}{i:ay}(h:Ib w b i):
 (∀ g:ij w,g.x.cell? ⟨b,0,V⟩=S (I N i.op))/\(∀ g:ij w,g.x.cell? ⟨b,1,V⟩=S (I N i.d))/\(∀ g:ij w,g.x.cell? ⟨b,2,V⟩=S (I N i.s))/\(∀ g:ij w,g.x.cell? ⟨b,3,V⟩=S (I N i.t))/\
 (∀ g:ij w,g.x.cell? ⟨b,4,V⟩=S (I N i.u))/\(∀ g:ij w,g.x.cell? ⟨b,5,V⟩=S (I N i.a))/\(∀ g:ij w,g.x.cell? ⟨b,6,V⟩=S (I Z i.k))/\(∀ g:ij w,g.x.cell? ⟨b,7,V⟩=S (I N i.pl)):=by
 obtain⟨c0,c1,c2,c3,c4,c5,c6,c7⟩:=h.cells
 exact⟨fun g=>g.cell c0,fun g=>g.cell c1,fun g=>g.cell c2,fun g=>g.cell c3,fun g=>g.cell c4,fun g=>g.cell c5,fun g=>g.cell c6,fun g=>g.cell c7⟩
theorem Ib.made (w:World)(op d s t u a k pl:Int):Ib (w.alloc (E #[I N op,I N d,I N s,I N t,I N u,I N a,I Z k,I N pl] 59)) w.heap.size ⟨op,d,s,t,u,a,k,pl⟩:=Bk.made _ _ _
theorem lW {w x:World}{op d s t u a k pl:Int}(h:Below (w.alloc (E #[I N op,I N d,I N s,I N t,I N u,I N a,I Z k,I N pl] 59)).heap.size (w.alloc (E #[I N op,I N d,I N s,I N t,I N u,I N a,I Z k,I N pl] 59)) x):Ib x w.heap.size ⟨op,d,s,t,u,a,k,pl⟩/\Below w.heap.size w x:=
 ⟨(Ib.made w op d s t u a k pl).below h,((L _ _).alloc (M _) _).trans (h.mono (by simp))⟩
def dh (y:World)(g:Nat)(i:ay):World:=((((((((y.setCell ⟨g,0,V⟩ (I N i.op)).setCell ⟨g,1,V⟩ (I N i.d)).setCell ⟨g,2,V⟩ (I N i.s)).setCell ⟨g,3,V⟩ (I N i.t)).setCell ⟨g,4,V⟩ (I N i.u)).setCell ⟨g,5,V⟩ (I N i.a)).setCell ⟨g,6,V⟩ (I Z i.k)).setCell ⟨g,7,V⟩ (I N i.pl))
theorem bp {y:World}{g:Nat}{i j:ay}(h:Ib y g j):Ib (dh y g i) g i:=by
 have h8:=(((((((Bk.put h 0 (I N i.op)).put 1 (I N i.d)).put 2 (I N i.s)).put 3 (I N i.t)).put 4 (I N i.u)).put 5 (I N i.a)).put 6 (I Z i.k)).put 7 (I N i.pl)
 unfold dh Ib
 simpa only[List.setIfInBounds_toArray,List.set_cons_zero,List.set_cons_succ] using h8
theorem gV {y:World}{g b:Nat}{i:ay}{t:TypeId}{cs:Array Value}(h:Bk y b t cs)(hne:b≠g):Bk (dh y g i) b t cs:=
 (((((((h.off hne _).off hne _).off hne _).off hne _).off hne _).off hne _).off hne _).off hne _
theorem aG {B:Nat}{w y:World}{g:Nat}{i:ay}(h:Below B w y)(hg:B<=g):Below B w (dh y g i):=
 (((((((h.setCell hg _).setCell hg _).setCell hg _).setCell hg _).setCell hg _).setCell hg _).setCell hg _).setCell hg _
theorem lC (i:ay)(l:List UInt8)(n:Nat)(h:n<l.length):fD i (l.take (n+1))=aO (fD i (l.take n)) (l.getD n 0).toNat 0:=by
 unfold fD
 rw[List.take_succ_eq_append_getElem h,List.foldl_append]
 simp[h]
theorem lL (f:UInt8->Bool)(l:List UInt8)(n:Nat)(h:n<l.length):(l.take (n+1)).all f=((l.take n).all f && f (l.getD n 0)):=by
 rw[List.take_succ_eq_append_getElem h,List.all_append]
 simp[h]
theorem lS (f:UInt8->Bool)(l:List UInt8)(n:Nat)(h:n<l.length)(hf:f (l.getD n 0)=T):l.all f=T:=by
 rw[Bool.eq_false_iff]
 intro ha
 have:=List.all_eq_true.1 ha (l.getD n 0) (by simp[h])
 rw[hf] at this
 cases this
structure mQ (w:World)(i:ay)(hs:List UInt8)(p:Int)(n:Nat)(x:World):Prop where
 below:Below w.heap.size w x
 box:Ib x w.heap.size i
 left:Ib x (w.heap.size+1) (fD i (hs.take n))
 ok:(hs.take n).all (fun c=>fC i p c.toNat)=U
theorem nI (i:ay)(p:Int)(k0:0<=i.k)(k1:i.k<4294967296)(w:World):
 Calls Tryd.prog 44 #[iv i,I N p] w fun e w'=>e=.returned (.bool (ag i p))/\Below w.heap.size w w':=by
 have hL:=jd i.op
 have h6:=je i.op
 have ER:ag i p=(!(bc i.op).isEmpty && ((bc i.op).all (fun c=>fC i p c.toNat) && gB (fD i (bc i.op)))):=rfl
 have H0:=D (kN i.op)
 generalize bc i.op=hs at hL h6 ER H0
 have HL:=D hL
 have HR:=D ER
 clear hL ER
 obtain⟨op,d,s,t,u,a,k,pl⟩:=i
 simp only at k0 k1 H0
 unfold iv
 go_enter Tryd.func44,Tryd.ntmps44
 go_wp2_with fail
 refine(H0.out _).mono ?_
 rintro e w' ⟨rfl,rfl⟩
 unfold bs
 by_cases he:hs=[]
 ·subst he
  go_wp2
  go_ret
  exact⟨dx HR.out.symm,(L _ _).alloc (M _) _⟩
 have hne:hs.isEmpty=T:=by simpa using he
 go_wp2
 go_loopw [24] (fun v x=>∃ n:Nat,n<=hs.length/\v=I N n/\mQ w ⟨op,d,s,t,u,a,k,pl⟩ hs p n x) (fun v _=>hs.length-(intOf v).toNat)
 case atStart=>
  refine⟨0,Nat.zero_le _,rfl,?_,?_,?_,rfl⟩
  ·exact(((L _ _).alloc (M _) _).alloc (by simp) _)
  ·exact(Bk.made _ _ _).alloc _
  ·have:=Bk.made (w.alloc (E #[I N op,I N d,I N s,I N t,I N u,I N a,I Z k,I N pl] 59)) 59 #[I N 0,I N d,I N s,I N t,I N u,I N a,I Z k,I N pl]
   rw[show (w.alloc (E #[I N op,I N d,I N s,I N t,I N u,I N a,I Z k,I N pl] 59)).heap.size=w.heap.size+1 by simp] at this
   exact this
 case round=>
  obtain⟨n,hn,rfl,R⟩:=hrel
  obtain⟨hb,hI,hZ,hok⟩:=R
  generalize wr=x at *
  have hlt1:w.heap.size<x.heap.size:=Bk.lt hI
  have hlt2:w.heap.size+1<x.heap.size:=Bk.lt hZ
  by_cases hlt:n<hs.length
  ·have hidx:=fV hs n hlt
   have hc:mR ((hs.getD n 0).toNat:Int):=HL.out _ (by simp[hlt])
   generalize hcc:((hs.getD n 0).toNat:Int)=c at hidx hc
   obtain⟨g0,-⟩:=hI.oG
   have HC:=D hcc
   clear hcc
   go_wp2_with fail
   refine bV (by kernel_rfl) (by kernel_rfl) ?_
   repeat (go_big_quiet_step ((go_at_call 52;exact lk (mN _ _ _ hc _))))
   refine wpQuiet_nil ?_
   rintro y ⟨⟨_,hy⟩,rfl⟩
   replace hb:=hb.trans (hy.mono (Nat.le_of_lt hlt1))
   replace hI:=hI.below hy
   replace hZ:=hZ.below hy
   replace hlt1:w.heap.size<y.heap.size:=Bk.lt hI
   replace hlt2:w.heap.size+1<y.heap.size:=Bk.lt hZ
   clear g0 hy x
   obtain⟨g0,g1,g2,g3,g4,g5,g6,g7⟩:=hI.oG
   simp only at g0 g1 g2 g3 g4 g5 g6 g7
   go_wp2_with fail
   refine bV (by kernel_rfl) (by kernel_rfl) ?_
   repeat (go_big_quiet_step ((go_at_call 53;exact hM (oz ⟨op,d,s,t,u,a,k,pl⟩ _ hc k0 k1 _))))
   refine wpQuiet_nil ?_
   rintro x ⟨⟨_,hx⟩,rfl⟩
   replace hb:=hb.trans (hx.mono (Nat.le_of_lt hlt1))
   replace hI:=hI.below hx
   replace hZ:=hZ.below hx
   replace hlt1:w.heap.size<x.heap.size:=Bk.lt hI
   replace hlt2:w.heap.size+1<x.heap.size:=Bk.lt hZ
   clear g0 g1 g2 g3 g4 g5 g6 g7 hx y
   by_cases hlo:au ⟨op,d,s,t,u,a,k,pl⟩ c<bD op c
   ·go_wp2
    go_ret
    refine⟨dx ?_,hb⟩
    rw[HR.out,lS _ _ n hlt (by rw[HC.out];simp[fC];intro h;omega)];simp
   have hlo':decide (au ⟨op,d,s,t,u,a,k,pl⟩ c<bD op c)=T:=by simpa using hlo
   by_cases hhi:br op c p<=au ⟨op,d,s,t,u,a,k,pl⟩ c
   ·go_wp2
    go_ret
    refine⟨dx ?_,hb⟩
    rw[HR.out,lS _ _ n hlt (by rw[HC.out];simp[fC];intro h;omega)];simp
   have hhi':decide (au ⟨op,d,s,t,u,a,k,pl⟩ c>=br op c p)=T:=by simpa using hhi
   generalize hZZ:fD ⟨op,d,s,t,u,a,k,pl⟩ (hs.take n)=z at hZ
   have HZ:=D hZZ
   clear hZZ
   obtain⟨zop,zd,zs,zt,zu,za,zk,zpl⟩:=z
   obtain⟨c0,c1,c2,c3,c4,c5,c6,c7⟩:=hZ.cells
   simp only at c0 c1 c2 c3 c4 c5 c6 c7
   go_wp2_with fail
   go_region_law (first | (go_simp;go_at_call 41;refine(oy ⟨zop,zd,zs,zt,zu,za,zk,zpl⟩ _ 0 hc _).mono ?_;rintro e y ⟨rfl,hy⟩;replace hy:=cq hy;obtain⟨d0,d1,d2,d3,d4,d5,d6,d7⟩:=(hZ.below hy).cells;have hf:=Bk.free (hZ.below hy);generalize hz2:aO ⟨zop,zd,zs,zt,zu,za,zk,zpl⟩ c 0=z2;have HZ2:=D hz2;clear hz2;obtain⟨yop,yd,ys,yt,yu,ya,yk,ypl⟩:=z2;unfold iv))
   all_goals
    generalize hv:((((((((y.setCell ⟨w.heap.size+1,0,V⟩ (I N yop)).setCell ⟨w.heap.size+1,1,V⟩ (I N yd)).setCell ⟨w.heap.size+1,2,V⟩ (I N ys)).setCell ⟨w.heap.size+1,3,V⟩ (I N yt)).setCell ⟨w.heap.size+1,4,V⟩ (I N yu)).setCell ⟨w.heap.size+1,5,V⟩ (I N ya)).setCell ⟨w.heap.size+1,6,V⟩ (I Z yk)).setCell ⟨w.heap.size+1,7,V⟩ (I N ypl))=v
    have hv2:dh y (w.heap.size+1) ⟨yop,yd,ys,yt,yu,ya,yk,ypl⟩=v:=hv
    clear hv
    have hA:=bp (i:=⟨yop,yd,ys,yt,yu,ya,yk,ypl⟩) (hZ.below hy)
    have hB:=gV (i:=⟨yop,yd,ys,yt,yu,ya,yk,ypl⟩) (hI.below hy) (show w.heap.size≠w.heap.size+1 by omega)
    have hC:=aG (i:=⟨yop,yd,ys,yt,yu,ya,yk,ypl⟩) (hb.trans (hy.mono (Nat.le_of_lt hlt1))) (show w.heap.size<=w.heap.size+1 by omega)
    rw[hv2] at hA hB hC
    clear hv2 d0 d1 d2 d3 d4 d5 d6 d7 hf c0 c1 c2 c3 c4 c5 c6 c7 hidx
    have hn1:(n:Int)+1<=6:=by omega
    go_wp2
    go_roundw
    case rel=>
     refine⟨n+1,by omega,by go_num,hC,hB,?_,?_⟩
     ·rw[lC _ _ _ hlt,HZ.out,HC.out,HZ2.out];exact hA
     ·rw[lL _ _ _ hlt,HC.out,hok];simp[fC];omega
    case measure=>simp[intOf];omega
  ·obtain rfl:n=hs.length:=by omega
   generalize hZZ:fD ⟨op,d,s,t,u,a,k,pl⟩ (hs.take hs.length)=z at hZ
   obtain⟨zop,zd,zs,zt,zu,za,zk,zpl⟩:=z
   obtain⟨c0,c1,c2,c3,c4,c5,c6,c7⟩:=hZ.cells
   simp only at c0 c1 c2 c3 c4 c5 c6 c7
   rw[List.take_length] at hZZ hok
   have HZ:=D hZZ
   have HO:=D hok
   clear hZZ hok
   have hq:=mc ⟨zop,zd,zs,zt,zu,za,zk,zpl⟩ ay.zero
   generalize hB:bw ⟨zop,zd,zs,zt,zu,za,zk,zpl⟩ ay.zero=B at hq
   have HB:=D hB
   clear hB
   unfold iv ay.zero at hq
   simp only at hq
   go_wp2
   go_ret
   refine⟨dx ?_,hb⟩
   rw[HR.out,HO.out,HZ.out,nC,HB.out,hne];rfl
end
section
def Nl (s:List UInt8):Prop:=∀ c∈s,c≠10
theorem Nl.app {a b:List UInt8}(ha:Nl a)(hb:Nl b):Nl (a++b):=fun c hc=>by
 rcases List.mem_append.1 hc with h | h
 ·exact ha c h
 ·exact hb c h
def Bf (l:List UInt8):Prop:=∀ c∈l,c≠32
theorem eO:∀ s:List UInt8,Bf s\/∃ t r,Bf t/\s=t++32 :: r
 | []=>.inl (by intro c h;cases h)
 | c :: s=>by
  by_cases h:c=32
  ·exact .inr ⟨[],s,(by intro c h;cases h),(by rw[h];rfl)⟩
  ·rcases eO s with h1 | ⟨t,r,h1,rfl⟩
   ·exact .inl (by intro d hd;rcases List.mem_cons.1 hd with rfl | hd;exact h;exact h1 d hd)
   ·exact .inr ⟨c :: t,r,(by intro d hd;rcases List.mem_cons.1 hd with rfl | hd;exact h;exact h1 d hd),rfl⟩
theorem hE:∀ t:List UInt8,Bf t->Lib.index t [32]=-1
 | [],_=>by simp[Lib.index]
 | c :: t,h=>by
  have h1:=hE t fun d hd=>h d (List.mem_cons_of_mem _ hd)
  have h2:c≠32:=h c List.mem_cons_self
  unfold Lib.index
  rw[if_neg (by simp[List.isPrefixOf];exact fun e=>h2 e.symm),h1]
  rfl
theorem hG:∀ (t r:List UInt8),Bf t->Lib.index (t++32 :: r) [32]=t.length
 | [],r,_=>by simp[Lib.index,List.isPrefixOf]
 | c :: t,r,h=>by
  have h1:=hG t r fun d hd=>h d (List.mem_cons_of_mem _ hd)
  have h2:c≠32:=h c List.mem_cons_self
  show Lib.index (c :: (t++32 :: r)) [32]=_
  unfold Lib.index
  rw[if_neg (by simp[List.isPrefixOf];exact fun e=>h2 e.symm),h1,if_neg (by simp <;> omega)]
  simp
def ax (w0:List UInt8)(ws:List (List UInt8)):List UInt8:=w0++ws.flatMap fun w=>32 :: w
theorem aq:∀ (ws:List (List UInt8)) (w0:List UInt8),Bf w0->(∀ w∈ws,Bf w)->ab (ax w0 ws)=w0 :: ws
 | [],w0,h,_=>by unfold ax;simp;exact aU w0 h
 | w :: ws,w0,h,hs=>by
  have ih:=aq ws w (hs w List.mem_cons_self) fun v hv=>hs v (List.mem_cons_of_mem _ hv)
  unfold ax at *
  simp only[List.flatMap_cons,List.cons_append]
  rw[cp w0 _ h,ih]
theorem fw:∀ (n:Nat),∀ c∈Lib.decDigits n,48<=c.toNat/\c.toNat<=57:=by
 intro n
 induction n using Nat.strongRecOn with
 | _ n ih=>
  intro c hc
  rw[Lib.decDigits] at hc
  by_cases h:n<10
  ·rw[dif_pos h] at hc
   obtain rfl:=List.mem_singleton.1 hc
   rw[UInt8.toNat_ofNat',Nat.mod_eq_of_lt (by omega)]
   omega
  ·rw[dif_neg h] at hc
   rcases List.mem_append.1 hc with hc | hc
   ·exact ih (n / 10) (by omega) c hc
   ·obtain rfl:=List.mem_singleton.1 hc
    rw[UInt8.toNat_ofNat',Nat.mod_eq_of_lt (by omega)]
    omega
theorem bf (n:Nat):Bf (Lib.decDigits n):=by
 intro c hc e
 have:=fw n c hc
 rw[e] at this
 exact absurd this (by decide)
theorem cO (n:Nat):∃ c r,Lib.decDigits n=c :: r/\48<=c.toNat/\c.toNat<=57/\(10<=n->49<=c.toNat):=by
 induction n using Nat.strongRecOn with
 | _ n ih=>
  rw[Lib.decDigits]
  by_cases h:n<10
  ·rw[dif_pos h]
   refine⟨_,[],rfl,?_⟩
   rw[UInt8.toNat_ofNat',Nat.mod_eq_of_lt (by omega)]
   omega
  ·rw[dif_neg h]
   obtain⟨c,r,e,h1,h2,h3⟩:=ih (n / 10) (by omega)
   rw[e]
   refine⟨c,_,rfl,h1,h2,fun _=>?_⟩
   by_cases h9:10<=n / 10
   ·exact h3 h9
   ·rw[Lib.decDigits,dif_pos (by omega)] at e
    injection e with e1 _
    rw[<-e1,UInt8.toNat_ofNat',Nat.mod_eq_of_lt (by omega)]
    omega
theorem fj:∀ (a b:List UInt8) (acc u:Nat),Lib.parseUint10 acc a=.ok u->Lib.parseUint10 acc (a++b)=Lib.parseUint10 u b
 | [],b,acc,u,h=>by simp[Lib.parseUint10] at h;subst h;rfl
 | c :: a,b,acc,u,h=>by
  simp only[Lib.parseUint10,List.cons_append] at h ⊢
  split at h
  ·split at h
   ·cases h
   ·split at h
    ·cases h
    ·rename_i h1 h2 h3
     rw[if_pos h1,if_neg h2,if_neg h3]
     exact fj a b _ u h
  ·cases h
theorem jR:∀ (n:Nat),n<18446744073709551616->Lib.parseUint10 0 (Lib.decDigits n)=.ok n:=by
 intro n
 induction n using Nat.strongRecOn with
 | _ n ih=>
  intro hn
  rw[Lib.decDigits]
  by_cases h:n<10
  ·rw[dif_pos h]
   have e:(UInt8.ofNat (48+n)).toNat=48+n:=by rw[UInt8.toNat_ofNat',Nat.mod_eq_of_lt (by omega)]
   simp only[Lib.parseUint10,e]
   rw[if_pos (by omega),if_neg (by omega),if_neg (by omega)]
   congr 1
   omega
  ·rw[dif_neg h,fj _ _ _ _ (ih (n / 10) (by omega) (by omega))]
   have e:(UInt8.ofNat (48+n % 10)).toNat=48+n % 10:=by rw[UInt8.toNat_ofNat',Nat.mod_eq_of_lt (by omega)]
   simp only[Lib.parseUint10,e]
   rw[if_pos (by omega),if_neg (by omega),if_neg (by omega)]
   congr 1
   omega
theorem ie (n:Nat)(h:n<9223372036854775808):Lib.atoiAll (Lib.decDigits n)=.ok n:=by
 obtain⟨c,r,e,h1,h2,-⟩:=cO n
 have hp:=jR n (by omega)
 rw[e] at hp ⊢
 unfold Lib.atoiAll Lib.parseMag
 simp only
 rw[if_neg (show ¬ (c.toNat=43\/c.toNat=45) by omega),if_neg (by simp),hp]
 simp only
 rw[if_neg (by omega),if_neg (by omega),if_neg (by omega)]
end
section
open Go.RowKit
end
section
def sz (zs:List Int)(k:Nat):Nat:=(cc zs k).toNat
def pre (zs:List Int):Nat->Nat
 | 0=>0
 | k+1=>pre zs k+sz zs k
structure Lk where
 l:List ay
 lo:Int
 un:Int
 zs:List Int
 each:Nat
 n:Nat
structure oQ where
 xs:List Int
 pc:Int
structure Pn where
 free:Nat->List Nat
 gen:List Int
 out:List Int
structure Mc where
 ws:List Int
 pn:Pn
 cs:Nat->oQ
def nN {α:Type}(f:Nat->α)(t:Nat)(v:α):Nat->α:=fun i=>if i=t then v else f i
structure Rn where
 m:Mc
 act:Nat->Int
 l:List En
 bad:Bool
def enter (r:Rn)(kind:Int)(t:Nat):Rn:={ r with l:=r.l++[⟨kind,t,0⟩] }
end
section
open Go.ChangeShapes Go.WideShapes Go.ChangeAt Go.RowKit
theorem oI (i:ay)(w:World):
 Calls Tryd.prog 16 #[iv i] w fun e w'=>e=.returned (iv i)/\Below w.heap.size w w':=by
 obtain⟨op,d,s,t,u,a,k,pl⟩:=i
 unfold iv
 go_enter Tryd.func16,Tryd.ntmps16
 go_wp2
 refine bodyPost_ret (v:=.agg #[I N op,I N d,I N s,I N t,I N u,I N a,I Z k,I N pl]) (by simp[results,Tryd.results16,go_sem]) rfl ⟨rfl,?_⟩
 exact((L _ _).alloc (M _) _).alloc (by simp) _
end
section
open Go.ChangeShapes Go.WideShapes Go.ChangeAt Go.RowKit Go.Shelf
attribute [local go_sem] Oper.semAt_some
def mS (c:UInt8):List (List UInt8)->List (List UInt8)
 | []=>[[c]]
 | x :: xs=>(c :: x) :: xs
def az:List UInt8->List (List UInt8)
 | []=>[]
 | c :: r=>if c=10 then [10] :: az r else mS c (az r)
def bt (text:List UInt8)(k:Nat):List UInt8:=(az text).getD k []
theorem bu:∀ (s r:List UInt8),Nl s->az (s++10 :: r)=(s++[10]) :: az r
 | [],r,_=>by simp[az]
 | c :: s,r,h=>by
  have ih:=bu s r fun d hd=>h d (List.mem_cons_of_mem _ hd)
  show az (c :: (s++10 :: r))=_
  rw[az,if_neg (h c List.mem_cons_self),ih]
  rfl
theorem bE:∀ s:List UInt8,Nl s->s≠[]->az s=[s]
 | [],_,h=>absurd rfl h
 | [c],h,_=>by simp[az,h c List.mem_cons_self,mS]
 | c :: d :: s,h,_=>by
  have ih:=bE (d :: s) (fun x hx=>h x (List.mem_cons_of_mem _ hx)) (by simp)
  rw[az,if_neg (h c List.mem_cons_self),ih]
  rfl
theorem dJ:∀ t:List UInt8,(az t).length<=t.length
 | []=>M _
 | c :: t=>by
  have ih:=dJ t
  rw[az]
  split
  ·simp;omega
  ·cases h:az t with
   | nil=>simp[mS]
   | cons x y=>rw[h] at ih;simp[mS] at ih ⊢;omega
theorem dz:∀ t:List UInt8,Nl t\/∃ s r,Nl s/\t=s++10 :: r
 | []=>.inl (by unfold Nl;simp)
 | c :: t=>by
  by_cases hc:c=10
  ·exact .inr ⟨[],t,by unfold Nl;simp,by rw[hc];rfl⟩
  rcases dz t with h | ⟨s,r,hs,rfl⟩
  ·exact .inl fun d hd=>by
    rcases List.mem_cons.1 hd with rfl | hd
    ·exact hc
    ·exact h d hd
  ·exact .inr ⟨c :: s,r,fun d hd=>by
    rcases List.mem_cons.1 hd with rfl | hd
    ·exact hc
    ·exact hs d hd,rfl⟩
theorem g9:∀ t:List UInt8,Nl t->Lib.indexByte t 10=-1
 | [],_=>rfl
 | c :: t,h=>by
  have ih:=g9 t fun d hd=>h d (List.mem_cons_of_mem _ hd)
  have hc:(c==10)=T:=by simpa using h c List.mem_cons_self
  rw[Lib.indexByte,hc,ih]
  simp
theorem fr:∀ s r:List UInt8,Nl s->Lib.indexByte (s++10 :: r) 10=s.length
 | [],r,_=>by simp[Lib.indexByte]
 | c :: s,r,h=>by
  have ih:=fr s r fun d hd=>h d (List.mem_cons_of_mem _ hd)
  have hc:(c==10)=T:=by simpa using h c List.mem_cons_self
  show Lib.indexByte (c :: (s++10 :: r)) 10=_
  rw[Lib.indexByte,hc,ih]
  have:((s.length:Int)==-1)=T:=by simp
  simp[this]
theorem nr (s:List UInt8)(w:World):
 Calls Tryd.prog 26 #[bs s,I .u8 10] w fun e w'=>e=.returned (I N (Lib.indexByte s 10))/\w=w':=
 (Any.strings_IndexByte Tryd.lays137 ⟨s.toArray⟩ 10 w).mono fun _ _ ⟨he,hw⟩=>⟨he,hw.symm⟩
theorem m9 (s r:List UInt8)(w:World):(Instr.slice 9 (.string ⟨(s++10 :: r).toArray⟩) V (S (I N ((s.length:Int)+1))) V).run Tryd.prog w=.ok (.string ⟨(s++[10]).toArray⟩) w:=by
 have hu:=Tryd.underlying9
 go_simp
 rw[if_pos ⟨by omega,by omega⟩]
 refine congrArg (fun x=>Result.ok (Value.string x) w) (ByteArray.ext ?_)
 rw[ByteArray.data_extract]
 apply Array.ext'
 simp
 rw[show s++10 :: r=(s++[10])++r by simp,show s.length+1=(s++[10]).length by simp,List.take_left]
theorem na (s r:List UInt8)(w:World):(Instr.slice 9 (.string ⟨(s++10 :: r).toArray⟩) (S (I N ((s.length:Int)+1))) V V).run Tryd.prog w=.ok (.string ⟨r.toArray⟩) w:=by
 have hu:=Tryd.underlying9
 go_simp
 rw[if_pos ⟨by omega,by omega⟩]
 refine congrArg (fun x=>Result.ok (Value.string x) w) (ByteArray.ext ?_)
 rw[ByteArray.data_extract]
 apply Array.ext'
 simp
 exact List.take_of_length_le (by omega)
def jg (w:World)(b:Nat):Nat:=match w.cell? ⟨b,0,V⟩ with
 | some (.string s)=>s.size
 | _=>0
theorem dP {w:World}{b:Nat}{t:TypeId}{s:List UInt8}(h:Bk w b t #[bs s]):jg w b=s.length:=by
 unfold jg
 rw[h.cell 0]
 show s.toArray.size=_
 simp
theorem lh (text:List UInt8)(b l:Nat)(W1:World)(hb:Bk W1 b 9 #[bs text])(hlen:text.length<1000000000):
 nR Tryd.prog 25 #[G (S ⟨b,0,V⟩)] (fun k=>#[bs (bt text k)]) (az text).length l W1 (fun x=>x=b):=by
 intro J Jx hJ hJx hY h0
 refine callsIn_of_wp Tryd.func25 rfl trivial ?_ rfl
 simp only[Tryd.ntmps25,List.size_toArray,List.length_cons,List.length_nil,Nat.reduceAdd,Nat.reduceSub,Array.replicate_succ,Array.replicate_zero,List.push_toArray,List.append_toArray,List.nil_append,List.cons_append]
 gi_wp2
 gi_loopw [3] (fun p wr=>∃ (k:Nat) (t:List UInt8),k<=(az text).length/\(az text).drop k=az t/\t.length<=text.length/\Bk wr b 9 #[bs t]/\J k wr) (fun p wr=>jg wr b)
 case atStart=>exact⟨0,text,Nat.zero_le _,rfl,M _,hb,h0⟩
 case round=>
  obtain⟨k,t,hkl,hdr,hle,hbk,hj⟩:=hrel
  have hbl:=dP hbk
  have hc0:wr.cell? ⟨b,0,V⟩=S (.string ⟨t.toArray⟩):=hbk.cell 0
  have hfr:=hbk.free 0
  by_cases ht:t=[]
  ·subst ht
   have hk:k=(az text).length:=by
    have:=congrArg List.length hdr
    simp[az] at this
    omega
   subst hk
   gi_wp2
   go_end0
   exact⟨⟨_,rfl⟩,.inl hj⟩
  ·have hpos:(0:Int)<t.length:=by
    have:=List.length_pos_iff.2 ht
    omega
   have HI:=D (fun W=>callsIn_wide (n:=0) |>.2 (nr t W))
   rcases dz t with hn | ⟨s,r,hn,rfl⟩
   ·have hk1:k<(az text).length:=by
     have:=congrArg List.length hdr
     rw[bE t hn ht] at this
     simp at this
     omega
    have hk2:(az text).length=k+1:=by
     have:=congrArg List.length hdr
     rw[bE t hn ht] at this
     simp at this
     omega
    have hline:bt text k=t:=by
     unfold bt
     have:=congrArg List.head? hdr
     rw[bE t hn ht] at this
     simp[List.head?_drop] at this
     simp[List.getD_eq_getElem?_getD,this]
    have hi:=g9 t hn
    have w1:af wr (wr.setCell ⟨b,0,V⟩ (.string ⟨#[]⟩)) (fun x=>x=b):=(af.refl _ _).put b 0 _ (.inl rfl)
    have b1:Bk (wr.setCell ⟨b,0,V⟩ (.string ⟨#[]⟩)) b 9 #[bs []]:=hbk.put 0 _
    have hj1:=hJ k _ _ hj w1
    obtain⟨fn,tmps,assign,body,hy,hR⟩:=hY k _ hk1 hj1 (by rintro x rfl;exact b1.lt)
    rw[hline] at hy
    unfold bs at hy
    gi_wp2
    refine⟨trivial,rfl,?_⟩
    refine(HI.out _).mono ?_
    rintro e w' ⟨rfl,rfl⟩
    rw[hi]
    gi_wp2
    refine⟨rfl,hR.mono ?_⟩
    rintro e W3 ⟨hh,(⟨rfl,hJ3⟩ | ⟨rfl,hJx3⟩)⟩
    ·gi_wp2
     have b3:Bk W3 b 9 #[bs []]:=(hh.2 b rfl).trans b1
     go_roundw
     case rel=>exact⟨k+1,[],by omega,by rw[List.drop_of_length_le (by omega)];rfl,by simp,b3,hJ3⟩
     case measure=>rw[dP b3,hbl];simp;omega
    ·gi_wp2
     refine bodyPost_ret (results_none rfl _ _ _) rfl ?_
     exact⟨⟨_,rfl⟩,.inr hJx3⟩
   ·have hk1:k<(az text).length:=by
     have:=congrArg List.length hdr
     rw[bu s r hn] at this
     simp at this
     omega
    have hdr2:(az text).drop (k+1)=az r:=by
     have:=congrArg List.tail hdr
     rw[bu s r hn] at this
     simpa [List.tail_drop] using this
    have hline:bt text k=s++[10]:=by
     unfold bt
     have:=congrArg List.head? hdr
     rw[bu s r hn] at this
     simp[List.head?_drop] at this
     simp[List.getD_eq_getElem?_getD,this]
    have hi:=fr s r hn
    have hi0:(0:Int)<=s.length:=by omega
    have hwr:wrap64 ((s.length:Int)+1)=(s.length:Int)+1:=by
     simp at hle
     unfold wrap64
     omega
    have hcut1:∀ w,(Instr.slice 9 (.string ⟨(s++10 :: r).toArray⟩) V (S (I N ((s.length:Int)+1))) V).run Tryd.prog w=.ok (.string ⟨(s++[10]).toArray⟩) w:=fun w=>m9 s r w
    have hcut2:∀ w,(Instr.slice 9 (.string ⟨(s++10 :: r).toArray⟩) (S (I N ((s.length:Int)+1))) V V).run Tryd.prog w=.ok (.string ⟨r.toArray⟩) w:=fun w=>na s r w
    gi_wp2
    refine⟨trivial,rfl,?_⟩
    refine(HI.out _).mono ?_
    rintro e w' ⟨rfl,rfl⟩
    rw[hi]
    gi_wp2
    gi_region
    have w0:af wr (wr.setCell ⟨b,0,V⟩ (.string ⟨r.toArray⟩)) (fun x=>x=b):=(af.refl _ _).put b 0 _ (.inl rfl)
    have w1:af wr (wr.setCell ⟨b,0,V⟩ (.string ⟨r.toArray⟩)).drew (fun x=>x=b):=⟨w0.os,w0.tape,w0.output,w0.size,w0.block⟩
    clear w0
    have b1:Bk (wr.setCell ⟨b,0,V⟩ (.string ⟨r.toArray⟩)).drew b 9 #[bs r]:=hbk.put 0 (.string ⟨r.toArray⟩)
    generalize (wr.setCell ⟨b,0,V⟩ (.string ⟨r.toArray⟩)).drew=W2 at *
    have hj1:=hJ k _ _ hj w1
    obtain⟨fn,tmps,assign,body,hy,hR⟩:=hY k _ hk1 hj1 (by rintro x rfl;exact b1.lt)
    rw[hline] at hy
    unfold bs at hy
    gi_wp2
    refine⟨rfl,hR.mono ?_⟩
    rintro e W3 ⟨hh,(⟨rfl,hJ3⟩ | ⟨rfl,hJx3⟩)⟩
    ·gi_wp2
     have b3:Bk W3 b 9 #[bs r]:=(hh.2 b rfl).trans b1
     go_roundw
     case rel=>exact⟨k+1,r,by omega,hdr2,by simp at hle;omega,b3,hJ3⟩
     case measure=>rw[dP b3,hbl];simp;omega
    ·gi_wp2
     refine bodyPost_ret (results_none rfl _ _ _) rfl ?_
     exact⟨⟨_,rfl⟩,.inr hJx3⟩
theorem np (s:List UInt8)(w:World):
 Calls Tryd.prog 18 #[bs s] w fun e w'=>e=.returned (.func (.func 25) #[] #[G (S ⟨w.heap.size,0,V⟩)])/\w'=w.alloc (E #[bs s] 9):=by
 unfold bs
 go_enter Tryd.func18,Tryd.ntmps18
 go_wp2
 go_ret
 exact⟨rfl,rfl⟩
theorem nQ (s p:List UInt8)(hl:s.length<1000000)(w:World):
 Calls Tryd.prog 19 #[bs s,bs p] w fun e w'=>e=.returned (.tuple #[bs (Lib.trimSuffix s p),.bool (Lib.hasSuffix s p)])/\w=w':=
 (Any.strings_CutSuffix Tryd.lays104 ⟨s.toArray⟩ ⟨p.toArray⟩ w (by show s.toArray.size<=_;simp;omega)).mono fun _ _ ⟨he,hw⟩=>⟨he,hw.symm⟩
theorem ei (s:List UInt8)(c:UInt8):Lib.hasSuffix (s++[c]) [c]=U/\Lib.trimSuffix (s++[c]) [c]=s:=by
 have h:Lib.hasSuffix (s++[c]) [c]=U:=by
  unfold Lib.hasSuffix
  rw[List.isSuffixOf_iff_suffix]
  exact⟨s,rfl⟩
 refine⟨h,?_⟩
 unfold Lib.trimSuffix
 rw[if_pos h]
 simp
theorem gk {s:List UInt8}{c:UInt8}(h:∀ t,s≠t++[c]):Lib.hasSuffix s [c]=T/\Lib.trimSuffix s [c]=s:=by
 have h:Lib.hasSuffix s [c]=T:=by
  rw[Bool.eq_false_iff]
  intro e
  unfold Lib.hasSuffix at e
  rw[List.isSuffixOf_iff_suffix] at e
  obtain⟨t,ht⟩:=e
  exact h t ht.symm
 refine⟨h,?_⟩
 unfold Lib.trimSuffix
 rw[if_neg (by rw[h];simp)]
theorem m7 (s:List UInt8)(c:UInt8):(∃ t,s=t++[c])\/∀ t,s≠t++[c]:=by
 by_cases h:∃ t,s=t++[c]
 ·exact .inl h
 ·exact .inr fun t e=>h ⟨t,e⟩
end
section
def oM:List ay:=[⟨11,1,0,0,0,0,0,0⟩,⟨16,2,1,0,0,1,0,0⟩,⟨5,3,1,0,0,0,1,0⟩,⟨7,3,3,2,0,0,0,0⟩,⟨18,4,0,3,0,0,0,0⟩,⟨12,0,0,0,0,0,1,0⟩,⟨4,5,4,0,0,0,1,0⟩,⟨6,6,4,0,0,0,1,0⟩,⟨21,4,6,5,0,1,1,-1⟩,⟨12,0,0,0,0,0,2,0⟩,⟨13,0,0,0,0,0,1,0⟩,
 ⟨1,3,0,0,0,0,1,0⟩,⟨8,0,2,0,0,0,0,14⟩,⟨1,3,0,0,0,0,0,0⟩,⟨17,0,1,3,0,1,0,0⟩,⟨12,0,0,0,0,0,4,0⟩,⟨13,0,0,0,0,0,2,0⟩]
def ov (n:Nat):Lk:=⟨oM,0,11,[1,((n+1:Nat):Int)],0,n⟩
def ox (F:Nat->Int)(n:Nat):List Int:=(List.range (n+1)).map F
theorem mK {F:Nat->Int}{n i:Nat}(x v:Int):(x :: ox F n).set (1+i) v=x :: ox (nN F i v) n:=by
 rw[Nat.add_comm 1 i,List.set_cons_succ]
 congr 1
 apply List.ext_getElem?
 intro j
 unfold ox
 rw[List.getElem?_set]
 simp only[List.getElem?_map,List.length_map,List.length_range]
 by_cases e:i=j
 ·subst e
  by_cases h:i<n+1 <;> simp[h,nN]
 ·by_cases h:j<n+1 <;> simp[e,h,nN]
  intro e2;exact absurd e2.symm e
def lZ (F:Nat->Int)(x:Int):Int:=2*x+F x.toNat
end
section
open Go.ChangeShapes Go.WideShapes Go.ChangeAt Go.RowKit
def oD (w:World)(a:Option Addr)(l:List ay):Prop:=
 0<l.length->∃ b off,a=S ⟨b,off,V⟩/\b<w.heap.size/\∀ k i,l[k]?=S i->∀ j,j<8->w.cell? ⟨b,off+k*8+j,V⟩=(eb i)[j]?
def Pv (w:World)(v:Value)(c:cF):Prop:=∃ a cap,v=.agg #[K a c.l.length cap,I N c.lo,I N c.un]/\c.l.length<=cap/\cap<=maxLen/\(a=V->cap=0)/\oD w a c.l
section
variable {w w':World}{a:Option Addr}{l:List ay}{v:Value}{c:cF}
theorem oD.below (h:oD w a l)(hb:Below w.heap.size w w'):oD w' a l:=by
 intro h0
 obtain⟨b,off,e,hlt,hc⟩:=h h0
 exact⟨b,off,e,Nat.lt_of_lt_of_le hlt hb.size,fun k i hk j hj=>(hb.cell (p:=⟨b,off+k*8+j,V⟩) hlt).trans (hc k i hk j hj)⟩
theorem Pv.below (h:Pv w v c)(hb:Below w.heap.size w w'):Pv w' v c:=by
 obtain⟨a,cap,e,h1,h2,h4,h3⟩:=h
 exact⟨a,cap,e,h1,h2,h4,h3.below hb⟩
theorem ma {t:TypeId}{base cap:Nat}(h:w.ownsRow base t 8 (K a l.length cap) l.length (aK l)):oD w a l:=by
 intro h0
 obtain⟨a2,cap2,e,_,_,hg⟩:=bj h
 simp only[Value.slice.injEq] at e
 obtain⟨rfl,-,rfl⟩:=e
 obtain⟨g,rfl,_,_,hlt,_,hc⟩:=hg h0
 refine⟨g,0,rfl,hlt,fun k i hk j hj=>?_⟩
 have hkl:=(List.getElem?_eq_some_iff.1 hk).1
 rw[Nat.zero_add,hc _ (by omega),lc hk hj]
theorem ml {t:TypeId}{base n cap size:Nat}{xs:List Value}(h:w.ownsRow base t size (K a n cap) n xs)(e:a=V):cap=0:=by
 subst e
 rcases h.2 with ⟨h,_⟩ | ⟨g,c,cur,h,_⟩
 ·injection h
 ·injection h with h;cases h
theorem oD.at_ (h:oD w a l){k:Nat}{i:ay}(hk:l[k]?=S i):∃ b off,a=S ⟨b,off,V⟩/\b<w.heap.size/\w.cell? ⟨b,off+k*8,V⟩=S (I N i.op)/\w.cell? ⟨b,off+k*8+1,V⟩=S (I N i.d)/\w.cell? ⟨b,off+k*8+2,V⟩=S (I N i.s)/\w.cell? ⟨b,off+k*8+3,V⟩=S (I N i.t)/\
 w.cell? ⟨b,off+k*8+4,V⟩=S (I N i.u)/\w.cell? ⟨b,off+k*8+5,V⟩=S (I N i.a)/\w.cell? ⟨b,off+k*8+6,V⟩=S (I Z i.k)/\w.cell? ⟨b,off+k*8+7,V⟩=S (I N i.pl):=by
 have hkl:=(List.getElem?_eq_some_iff.1 hk).1
 obtain⟨b,off,e,hlt,hc⟩:=h (by omega)
 exact⟨b,off,e,hlt,hc k i hk 0 (by omega),hc k i hk 1 (by omega),hc k i hk 2 (by omega),hc k i hk 3 (by omega),hc k i hk 4 (by omega),hc k i hk 5 (by omega),hc k i hk 6 (by omega),hc k i hk 7 (by omega)⟩
end
def cd:List ay->List ay->Bool
 | [],[]=>U
 | i :: l,j :: m=>bw i j && cd l m
 | _,_=>T
theorem dG:∀ l m:List ay,cd l m=U↔l=m
 | [],[]=>by simp[cd]
 | [],_ :: _=>by simp[cd]
 | _ :: _,[]=>by simp[cd]
 | i :: l,j :: m=>by simp[cd,mL,dG l m]
theorem jM {l m:List ay}(h:l.length≠m.length):cd l m=T:=by
 rw[Bool.eq_false_iff]
 intro e
 exact h (by rw[(dG l m).1 e])
def cW (c d:cF):Bool:=decide (c.lo=d.lo) && (decide (c.un=d.un) && cd c.l d.l)
theorem jL (c d:cF):cW c d=U↔c=d:=by
 obtain⟨l,lo,un⟩:=c
 obtain⟨m,lo2,un2⟩:=d
 simp[cW,dG]
 constructor
 ·rintro⟨h1,h2,h3⟩;exact⟨h3,h1,h2⟩
 ·rintro⟨h1,h2,h3⟩;exact⟨h2,h3,h1⟩
theorem iu (l m:List ay)(k:Nat)(hk:k<l.length)(hm:k<m.length):cd (l.drop k) (m.drop k)=(bw l[k] m[k] && cd (l.drop (k+1)) (m.drop (k+1))):=by
 rw[List.drop_eq_getElem_cons hk,List.drop_eq_getElem_cons hm,cd]
theorem mi:(Tryd.prog.info? 58).map (fun i=>(i.zero,i.size,i.bytes))=S (S (.agg #[I N 0,I N 0,I N 0,I N 0,I N 0,I N 0,I Z 0,I N 0]),8,64):=by kernel_rfl
theorem jJ {l:List ay}{k:Nat}(h:k<l.length):l.take (k+1)=l.take k++[l[k]]:=by simp
theorem mh {w x y w':World}{o:Obj}{lo un:Int}{k:Nat}{l:List ay}{v v':Value}{i:ay}{R O:Nat}{rs:Array Value}(hb:Below w.heap.size w x)(hO:Bk x O 36 #[v,I N lo,I N un])(hR:Bk x R 36 rs)(hne:R≠O)(hwO:w.heap.size<=O)
 (hv:x.ownsRow w.heap.size 58 8 v k (aK l)) (hy:Below x.heap.size x y) (hw:w'.ownsRow w.heap.size 58 8 v' (k+1) (aK l++eb i)) (hg:(y.alloc o).grownBy w' v.ownBlock):
 Below w.heap.size w (w'.setCell ⟨O,0,V⟩ v')/\Bk (w'.setCell ⟨O,0,V⟩ v') O 36 #[v',I N lo,I N un]/\Bk (w'.setCell ⟨O,0,V⟩ v') R 36 rs/\(w'.setCell ⟨O,0,V⟩ v').ownsRow w.heap.size 58 8 v' (k+1) (aK (l++[i])):=by
 have hA:af x (y.alloc o) (fun _=>False):=(av hy).alloc o
 have hB:af (y.alloc o) w' (fun b=>S b=v.ownBlock):=.cN hg (by rintro i e;exact .inl e.symm)
 have hC:af x w' (fun b=>S b=v.ownBlock):=(hA.wide (by simp)).cw hB (by rintro i e;exact .inl e)
 have un_:∀ {g:Nat} {cs:Array Value},Bk x g 36 cs->Bk w' g 36 cs:=fun hk=>hk.within hC fun e=>by
  obtain⟨cs,hcs⟩:=bo hv e.symm
  exact Bk.bi hcs hk (by decide) rfl
 have hO2:=un_ hO
 have hR2:=un_ hR
 have hb2:Below w.heap.size w w':=by
  refine hb.trans ⟨hC.os,hC.tape,hC.output,hC.size,fun i hi=>hC.block i (Nat.lt_of_lt_of_le hi hb.size) fun e=>?_⟩
  have:=(World.ownsRow.lt hv i e.symm).1
  omega
 refine⟨hb2.setCell hwO _,hO2.put 0 v',hR2.off hne _,?_⟩
 rw[ev]
 refine aB hw ((af.refl w' (fun b=>b=O)).put O 0 v' (.inl rfl)) fun b e e2=>?_
 obtain⟨cs,hcs⟩:=bo hw e
 exact Bk.bi hcs hO2 (by decide) e2
theorem od (c:cF)(v:Value)(w:World)(hv:Pv w v c)(hl:c.l.length<=1000):
 Calls Tryd.prog 12 #[v] w fun e w'=>∃ sl,e=.returned (.agg #[sl,I N c.lo,I N c.un])/\w'.ownsRow w.heap.size 58 8 sl c.l.length (aK c.l)/\Below w.heap.size w w':=by
 obtain⟨a,ca,rfl,hc1,hc2,_,ha⟩:=hv
 obtain⟨l,lo,un⟩:=c
 simp only at hl hc1 ha ⊢
 have q0:=((Bk.made w 24 #[K a l.length ca,I N lo,I N un]).alloc (E #[K V 0 0,I N 0,I N 0] 36))
 have q1:=Bk.made (w.alloc (E #[K a l.length ca,I N lo,I N un] 24)) 36 #[K V 0 0,I N 0,I N 0]
 rw[World.size_alloc] at q1
 have b0:Below w.heap.size w ((w.alloc (E #[K a l.length ca,I N lo,I N un] 24)).alloc (E #[K V 0 0,I N 0,I N 0] 36)):=((L _ _).alloc (M _) _).alloc (by simp) _
 go_enter Tryd.func12,Tryd.ntmps12
 go_upto_region 1 with fail
 generalize (w.alloc (E #[K a l.length ca,I N lo,I N un] 24)).alloc (E #[K V 0 0,I N 0,I N 0] 36)=x at *
 obtain⟨x0,x1,x2⟩:=q0.l6
 go_upto_region 2 with fail
 have O0:=Bk.made x 36 #[K V 0 0,I N lo,I N un]
 have hxw:w.heap.size+1<x.heap.size:=q1.lt
 replace q0:=q0.alloc (E #[K V 0 0,I N lo,I N un] 36)
 replace q1:=q1.alloc (E #[K V 0 0,I N lo,I N un] 36)
 replace b0:=b0.alloc (o:=E #[K V 0 0,I N lo,I N un] 36) b0.size
 generalize x.heap.size=O at *
 generalize x.alloc (E #[K V 0 0,I N lo,I N un] 36)=x at *
 have z0:x.cell? ⟨w.heap.size,0,V⟩=S (K a l.length ca):=q0.cell 0
 clear x0 x1 x2 q0
 go_wp2
 go_loopw [14] (fun i wr=>∃ (k:Nat) (v:Value),i=I N k/\k<=l.length/\Below w.heap.size w wr/\Bk wr O 36 #[v,I N lo,I N un]/\Bk wr (w.heap.size+1) 36 #[K V 0 0,I N 0,I N 0]/\wr.ownsRow w.heap.size 58 8 v k (aK (l.take k))) (fun i _=>l.length-(intOf i).toNat)
 case atStart=>exact⟨0,K V 0 0,rfl,Nat.zero_le _,b0,O0,q1,World.ownsRow_nil _ _ _ _⟩
 case round=>
  obtain⟨k,v,rfl,hk,hb,hO,hR,hv⟩:=hrel
  clear z0 O0 q1 b0
  by_cases hlt:k<l.length
  ·have hki:(k:Int)<l.length:=by omega
   obtain⟨g,off,rfl,hgl,e0,e1,e2,e3,e4,e5,e6,e7⟩:=(ha.below hb).at_ (List.getElem?_eq_getElem hlt)
   have HT:=D (jJ hlt)
   generalize l[k]=i at *
   have HF:=D (fun W=>oI i W)
   obtain⟨op,d,s,t,u,a',k',pl⟩:=i
   simp only at e0 e1 e2 e3 e4 e5 e6 e7
   unfold iv at HF
   simp only at HF
   obtain⟨a2,cap2,rfl,hcap2,hmax2,_⟩:=bj hv
   go_upto_region 5 with fail
   have m2:=Ib.made wr op d s t u a' k' pl
   replace hb:=hb.alloc (o:=E #[I N op,I N d,I N s,I N t,I N u,I N a',I Z k',I N pl] 59) hb.size
   replace hO:=hO.alloc (E #[I N op,I N d,I N s,I N t,I N u,I N a',I Z k',I N pl] 59)
   replace hR:=hR.alloc (E #[I N op,I N d,I N s,I N t,I N u,I N a',I Z k',I N pl] 59)
   replace hv:=World.ownsRow.alloc hv (E #[I N op,I N d,I N s,I N t,I N u,I N a',I Z k',I N pl] 59)
   clear e0 e1 e2 e3 e4 e5 e6 e7
   generalize wr.heap.size=q at *
   generalize wr.alloc (E #[I N op,I N d,I N s,I N t,I N u,I N a',I Z k',I N pl] 59)=x at *
   obtain⟨e0,e1,e2,e3,e4,e5,e6,e7⟩:=m2.cells
   simp only at e0 e1 e2 e3 e4 e5 e6 e7
   have v0:x.cell? ⟨O,0,V⟩=S (K a2 k cap2):=hO.cell 0
   have HV0:Hid (∀ y,Below x.heap.size x y->y.cell? ⟨O,0,V⟩=S (K a2 k cap2)):=D fun y hy=>(hy.cell (p:=⟨O,0,V⟩) hO.lt).trans v0
   have HV1:Hid (∀ y,Below x.heap.size x y->∀ o,(y.alloc o).cell? ⟨O,0,V⟩=S (K a2 k cap2)):=D fun y hy o=>(Bk.alloc ((hy.block _ hO.lt).trans hO) o).cell 0
   have HOW:Hid (∀ y,Below x.heap.size x y->(y.alloc (E #[I N op,I N d,I N s,I N t,I N u,I N a',I Z k',I N pl] 58)).ownsRow w.heap.size 58 8 (K a2 k cap2) k (aK (l.take k))):=D fun y hy=>World.ownsRow.alloc (aB hv (av hy) (by simp)) _
   have HNW:Hid (∀ y:World,∀ (j:Nat) (uu:Value),[Value.int .i64 op,I N d,I N s,I N t,I N u,I N a',I Z k',I N pl][j]?=S uu->(y.alloc (E #[I N op,I N d,I N s,I N t,I N u,I N a',I Z k',I N pl] 58)).cell? ((⟨y.heap.size,0,V⟩:Addr).add j)=S uu):=D fun y=>fY (Bk.made y 58 #[I N op,I N d,I N s,I N t,I N u,I N a',I Z k',I N pl])
   have HBS:Hid (∀ y,Below x.heap.size x y->w.heap.size<=(y.alloc (E #[I N op,I N d,I N s,I N t,I N u,I N a',I Z k',I N pl] 58)).heap.size):=D fun y hy=>by rw[World.size_alloc];have:=hb.size;have:=hy.size;omega
   have HEND:Hid (∀ y,Below x.heap.size x y->∀ (w':World) (v':Value),w'.ownsRow w.heap.size 58 8 v' (k+1) (aK (l.take k)++eb ⟨op,d,s,t,u,a',k',pl⟩)->(y.alloc (E #[I N op,I N d,I N s,I N t,I N u,I N a',I Z k',I N pl] 58)).grownBy w' (Value.slice a2 k cap2).ownBlock->
    Below w.heap.size w (w'.setCell ⟨O,0,V⟩ v')/\Bk (w'.setCell ⟨O,0,V⟩ v') O 36 #[v',I N lo,I N un]/\Bk (w'.setCell ⟨O,0,V⟩ v') (w.heap.size+1) 36 #[K V 0 0,I N 0,I N 0]/\(w'.setCell ⟨O,0,V⟩ v').ownsRow w.heap.size 58 8 v' (k+1) (aK (l.take (k+1)))):=
    D fun y hy w' v' h1 h2=>by rw[HT.out];exact mh hb hO hR (by omega) (by omega) hv hy h1 h2
   have HKO:Hid (∀ y,Below x.heap.size x y->∀ (w':World),(y.alloc (E #[I N op,I N d,I N s,I N t,I N u,I N a',I Z k',I N pl] 58)).grownBy w' (Value.slice a2 k cap2).ownBlock->Bk w' O 36 #[K a2 k cap2,I N lo,I N un]):=D fun y hy w' hg=>
    Bk.grown (Bk.alloc ((hy.block _ hO.lt).trans hO) _) hg fun e=>by
     obtain⟨cs,hcs⟩:=bo hv e.symm
     exact Bk.bi hcs hO (by decide) rfl
   clear hO hR hv hb m2 ha HT
   go_region_law (first
    | (have hy9:=hy;refine gC rfl (.tmp 19) (.tmp 22) 34 rfl _ 64 Tryd.underlying34 mi rfl (by omega) (by omega) (HOW.out y hy) (by simp[Act.eval]) (eb ⟨op,d,s,t,u,a',k',pl⟩) rfl (g8 _) y.heap.size (by simp[Act.eval]) (HNW.out y) (by omega) (HBS.out y hy) ?_;intro v' w' hown hgr hloc;have hko:=HKO.out y hy w' hgr;have ck0:w'.cell? ⟨O,0,V⟩=S (K a2 k cap2):=hko.cell 0;have cf0:=hko.free 0;obtain⟨a3,cap3,rfl,_,_,_⟩:=bj hown)
    | (go_simp;go_at_call 16;refine(HF.out _).mono ?_;rintro e y ⟨rfl,hy0⟩;have hy:Below x.heap.size x y:=cq hy0;have hyv:=HV0.out y hy;have hyo:=HV1.out y hy))
   all_goals (
    have HS:=D (HEND.out y hy w' _ hown hgr)
    clear HOW HNW HBS HEND HKO HV0 HV1 HF hgr hown hloc
    go_wp2
    obtain⟨s1,s2,s3,s4⟩:=HS.out
    go_roundw
    case rel=>exact⟨k+1,_,by go_num,by omega,s1,s2,s3,s4⟩
    case measure=>
     show l.length-((k:Int)+1).toNat<l.length-(k:Int).toNat
     omega)
  ·obtain rfl:k=l.length:=by omega
   have hki:¬ (l.length:Int)<l.length:=by omega
   rw[List.take_length] at hv
   obtain⟨a2,cap2,rfl,hcap2,hmax2,_⟩:=bj hv
   obtain⟨y0,y1,y2⟩:=hO.l6
   obtain⟨z0,z1,z2⟩:=hR.l6
   have zf:=hR.free
   clear ha
   go_wp2
   have h9:=dB hR (K a2 l.length cap2) (I N lo) (I N un)
   have b9:=bY hb (by show w.heap.size<=w.heap.size+1;omega) (K a2 l.length cap2) (I N lo) (I N un)
   have o9:(d9 wr (w.heap.size+1) (K a2 l.length cap2) (I N lo) (I N un)).ownsRow w.heap.size 58 8 (K a2 l.length cap2) l.length (aK l):=aB hv ((((af.refl wr (fun b=>b=w.heap.size+1)).put (w.heap.size+1) 0 (K a2 l.length cap2) (.inl rfl)).put (w.heap.size+1) 1 (I N lo) (.inl rfl)).put (w.heap.size+1) 2 (I N un) (.inl rfl)) (fun b e e2=>by
    obtain⟨cs,hcs⟩:=bo hv e
    exact Bk.bi hcs hR (by decide) e2)
   generalize hv9:(((wr.setCell ⟨w.heap.size+1,0,V⟩ (K a2 l.length cap2)).setCell ⟨w.heap.size+1,1,V⟩ (I N lo)).setCell ⟨w.heap.size+1,2,V⟩ (I N un))=v9
   replace hv9:d9 wr (w.heap.size+1) (K a2 l.length cap2) (I N lo) (I N un)=v9:=hv9
   rw[hv9] at h9 b9 o9
   obtain⟨q0,q1,q2⟩:=h9.l6
   refine bodyPost_ret (v:=.agg #[K a2 l.length cap2,I N lo,I N un]) (by simp[results,Tryd.results12,go_sem,q0,q1,q2]) rfl ⟨K a2 l.length cap2,rfl,o9,b9⟩
theorem lM {w:World}{base:Nat}{t:TypeId}{sl:Value}{c:cF}(h:w.ownsRow base t 8 sl c.l.length (aK c.l)):Pv w (.agg #[sl,I N c.lo,I N c.un]) c:=by
 obtain⟨a,cap,rfl,h1,h2,_⟩:=bj h
 exact⟨a,cap,rfl,h1,h2,ml h,ma h⟩
theorem mb (i j:ay)(w:World):(binOp .neq 58 (iv i) (iv j)).run Tryd.prog w=.ok (.bool (!bw i j)) w:=by
 unfold iv
 have hu:=Tryd.underlying58
 go_simp
 unfold bw
 repeat' split
 all_goals simp[*]
theorem fe (w:World)(t:TypeId)(xs ys:Array Value):Below w.heap.size w ((w.alloc (.cells xs t)).alloc (.cells ys t))/\Bk ((w.alloc (.cells xs t)).alloc (.cells ys t)) w.heap.size t xs/\Bk ((w.alloc (.cells xs t)).alloc (.cells ys t)) (w.heap.size+1) t ys:=by
 have h:=Bk.made (w.alloc (.cells xs t)) t ys
 rw[World.size_alloc] at h
 exact⟨((L _ _).alloc (M _) _).alloc (by simp) _,(Bk.made w t xs).alloc _,h⟩
theorem nX (c d:cF)(v u:Value)(w:World)(hv:Pv w v c)(hu:Pv w u d)(hl:c.l.length<=100000):
 Calls Tryd.prog 10 #[v,u] w fun e w'=>e=.returned (.bool (cW c d))/\Below w.heap.size w w':=by
 obtain⟨a,ca,rfl,_,_,_,ha⟩:=hv
 obtain⟨b,cb,rfl,_,_,_,hb⟩:=hu
 have HE:Hid (cW c d=(decide (c.lo=d.lo) && (decide (c.un=d.un) && cd c.l d.l))):=D rfl
 obtain⟨bb,k1,k2⟩:=fe w 36 #[K a c.l.length ca,I N c.lo,I N c.un] #[K b d.l.length cb,I N d.lo,I N d.un]
 replace ha:=ha.below bb
 replace hb:=hb.below bb
 generalize cW c d=r at *
 obtain⟨l,lo,un⟩:=c
 obtain⟨m,lo2,un2⟩:=d
 simp only at HE bb k1 k2 ha hb hl ⊢
 go_enter Tryd.func10,Tryd.ntmps10
 go_upto_region 1 with fail
 generalize (w.alloc (E #[K a l.length ca,I N lo,I N un] 36)).alloc (E #[K b m.length cb,I N lo2,I N un2] 36)=x at *
 obtain⟨x0,x1,x2⟩:=k1.l6
 obtain⟨y0,y1,y2⟩:=k2.l6
 by_cases hlm:l.length=m.length
 case neg=>
  have hne:((l.length:Int) != m.length)=U:=by simp;omega
  have HS:=D (jM hlm)
  clear hlm
  go_wp2
  go_ret
  exact⟨by rw[HE.out,HS.out];simp,bb⟩
 case pos=>
  have hne:((l.length:Int) != m.length)=T:=by simp;omega
  by_cases h1:lo=lo2
  case neg=>
   have e1:(lo != lo2)=U:=by simpa using h1
   have H1:=D h1
   clear h1
   go_wp2
   go_ret
   exact⟨by rw[HE.out];simp[H1.out],bb⟩
  case pos=>
   by_cases h2:un=un2
   case neg=>
    have e1:(lo != lo2)=T:=by simpa using h1
    have e2:(un != un2)=U:=by simpa using h2
    have H2:=D h2
    clear h2 h1
    go_wp2
    go_ret
    exact⟨by rw[HE.out];simp[H2.out],bb⟩
   case pos=>
    have HS:Hid (r=cd (l.drop 0) (m.drop 0)):=D (by rw[HE.out];simp[h1,h2])
    have e1:(lo != lo2)=T:=by simpa using h1
    have e2:(un != un2)=T:=by simpa using h2
    clear HE h1 h2
    go_wp2
    go_loopw [4,30] (fun q i wr=>∃ k:Nat,q=.bool T/\k<=l.length/\i=I N k/\Below x.heap.size x wr/\Hid (r=cd (l.drop k) (m.drop k))) (fun _ i _=>l.length-(intOf i).toNat)
    case atStart=>exact⟨0,rfl,Nat.zero_le _,rfl,L _ _,HS⟩
    case round=>
     obtain⟨k,rfl,hk,rfl,hbw,HR⟩:=hrel
     have z0:wr.cell? ⟨w.heap.size,0,V⟩=S (K a l.length ca):=(hbw.cell (p:=⟨w.heap.size,0,V⟩) k1.lt).trans x0
     have z1:wr.cell? ⟨w.heap.size+1,0,V⟩=S (K b m.length cb):=(hbw.cell (p:=⟨w.heap.size+1,0,V⟩) k2.lt).trans y0
     by_cases hlt:k<l.length
     ·have hki:(k:Int)<l.length:=by omega
      have hkj:(k:Int)<m.length:=by omega
      have HD:=D (iu l m k hlt (by omega))
      obtain⟨ba,oa,rfl,_,a0,a1,a2,a3,a4,a5,a6,a7⟩:=(ha.below hbw).at_ (List.getElem?_eq_getElem hlt)
      obtain⟨bb2,ob,rfl,_,b0,b1,b2,b3,b4,b5,b6,b7⟩:=(hb.below hbw).at_ (List.getElem?_eq_getElem (show k<m.length by omega))
      have hq:=mb l[k] m[k]
      generalize l[k]=i at *
      generalize m[k]=j at *
      have HE:Hid (r=(bw i j && cd (l.drop (k+1)) (m.drop (k+1)))):=D (by rw[HR.out,HD.out])
      clear HR HD ha hb x0 x1 x2 y0 y1 y2
      obtain⟨i0,i1,i2,i3,i4,i5,i6,i7⟩:=i
      obtain⟨j0,j1,j2,j3,j4,j5,j6,j7⟩:=j
      simp only at a0 a1 a2 a3 a4 a5 a6 a7 b0 b1 b2 b3 b4 b5 b6 b7
      unfold iv at hq
      simp only at hq
      generalize bw ⟨i0,i1,i2,i3,i4,i5,i6,i7⟩ ⟨j0,j1,j2,j3,j4,j5,j6,j7⟩=t at *
      have hend:=bb.trans (hbw.mono bb.size)
      cases t with
      | true=>
       have HE2:Hid (r=cd (l.drop (k+1)) (m.drop (k+1))):=D (by rw[HE.out];simp)
       clear HE
       go_wp2
       go_quiet (fail)
       go_wp2
       go_roundw
       case rel=>exact⟨k+1,rfl,by omega,by go_num,Below.trans hbw ⟨rfl,rfl,rfl,M _,fun _ _=>rfl⟩,HE2⟩
       case measure=>
        show l.length-((k:Int)+1).toNat<l.length-(k:Int).toNat
        omega
      | false=>
       have HE2:Hid (r=T):=D (by rw[HE.out];simp)
       clear HE
       go_wp2
       go_quiet (fail)
       go_wp2
       go_ret
       exact⟨by rw[HE2.out];rfl,Below.trans hend ⟨rfl,rfl,rfl,M _,fun _ _=>rfl⟩⟩
     ·have hki:¬ (k:Int)<l.length:=by omega
      have HE2:Hid (r=U):=D (by rw[HR.out,List.drop_of_length_le (by omega),List.drop_of_length_le (by omega)];rfl)
      go_wp2
      go_ret
      exact⟨by rw[HE2.out];rfl,bb.trans (hbw.mono bb.size)⟩
end
section
open Go.Joins Go.ChangeShapes Go.WideShapes Go.ChangeAt Go.RowKit Go.Deep
theorem oK:ownKnob Tryd.prog.godebug=V:=by kernel_rfl
theorem gY:laidOutB Tryd.prog=U:=by kernel_rfl
theorem ot: "*errors.errorString" = "*"++ "errors.errorString":=by decide
theorem lQ (u:TypeId)(h:Tryd.prog.typeName? 3 u=S "*errors.errorString"):u=142:=
 typeName_ptr_named (nm:= "errors.errorString") (by rw[<-ot];kernel_rfl) (by kernel_rfl) (by decide) u (by rw[<-ot];exact h)
theorem nZ {W:World}(hL:laidMet Tryd.prog [("math/bits.deBruijn32tab",Rows.laid_math_bits_deBruijn32tab),("math/bits.deBruijn64tab",Rows.laid_math_bits_deBruijn64tab),("internal/strconv.uint64pow10",Rows.laid_internal_strconv_uint64pow10),("unicode/utf8.acceptRanges",Rows.laid_unicode_utf8_acceptRanges),("strconv.ErrRange",Rows.laid_strconv_ErrRange),("strconv.ErrSyntax",Rows.laid_strconv_ErrSyntax),("unicode/utf8.first",Rows.laid_unicode_utf8_first)] W)(hsh:W.ShapedOpen Tryd.prog):Lb W:=by
 have h2:=hL.tail.tail
 have h4:=h2.tail.tail
 have tab:Lib.TabIs Tryd.prog W "internal/strconv.uint64pow10" .u64 Lib.pow10Tab:=
  Lib.tabIs_of_head (g:=5) (by kernel_rfl) (by kernel_rfl) Tryd.underlying146 Tryd.underlying122 (by kernel_rfl) (by kernel_rfl) h2
 obtain⟨a1,_,hv1,_⟩:=laid_sentinel h4 (g:=2) (by kernel_rfl) (by kernel_rfl) Tryd.underlying97 (lQ) Tryd.underlying142 Tryd.underlying144 rfl rfl Tryd.underlying9 (by kernel_rfl) (by kernel_rfl)
 obtain⟨a2,_,hv2,_⟩:=laid_sentinel h4.tail (g:=1) (by kernel_rfl) (by kernel_rfl) Tryd.underlying97 (lQ) Tryd.underlying142 Tryd.underlying144 rfl rfl Tryd.underlying9 (by kernel_rfl) (by kernel_rfl)
 obtain⟨m,hm⟩:=Tryd.laysM147.s1_3 W hsh
 have c0:W.cell? ⟨0,0,V⟩=S (.int .i64 m):=hm
 have c1:=tab.cell (g:=5) (by kernel_rfl) 0 (by decide)
 have c2:=World.var?_cell (g:=1) (by kernel_rfl) hv2 0
 have c3:=World.var?_cell (g:=2) (by kernel_rfl) hv1 0
 exact⟨tab,⟨_,_,hv2⟩,⟨_,_,hv1⟩,⟨m,c0⟩,World.block_lt_of_cell? W _ c0,World.block_lt_of_cell? W _ c1,World.block_lt_of_cell? W _ c2,World.block_lt_of_cell? W _ c3⟩
theorem fF {H:Type}{enc:TypeId×Value->H}{a:Assume}{C:Checked}{os:Os}{f:FuncId}{fn:Func}{s:ChangeSpec}{conds:List PathCond}{apart fresh handsOn again:Bool}{X:World->Array Value->Prop}
 (hX:∀ (w w':World) (args:Array Value),w.heap=w'.heap->X w args->X w' args)
 (own:ownKnob C.prog.godebug=V) (started:os.Started) (noInit:C.prog.inits.idxOf? f=V) (hfn:C.prog.funcs[f]?=S fn)
 (witness:∃ (w:World) (tape:Tape) (i:Input),w.os=os/\(w.forCall tape i).Shaped C.prog/\i.vars=[]/\Input.okWide C.prog (w.forCall tape i) .any w.heap.size f i/\
  ((s.pre enc C.prog fn conds apart (w.forCall tape i).memory i.args/\X (w.forCall tape i).memory i.args)/\sizedMet enc C.prog fn (OpenSpec.ofChange s) apart (w.forCall tape i).memory i.args)/\a.holds C.prog (lone (Frame.enter C.prog f i.args .normal) [] (w.forCall tape i)))
 (walk:∀ (W:World) (base:Nat) (args:Array Value) (ds gs:List (DataW H)) (before:List MemPlace),
  (∀ (j:Nat) t v,fn.params[j]?=S t->args[j]?=S v->Value.okWide C.prog W .any base t v)->
  DataW.Whole enc C.prog fn.params.toList s.vars apart W args.toList ds gs before->X W args->W.ShapedOpen C.prog->
  Calls C.prog f args W fun e W'=>∃ v,e=.returned v/\s.post enc C.prog fn apart fresh handsOn again W args v W'):
 ReturnsInHanded a C os f .any (fun w args=>(s.pre enc C.prog fn conds apart w args/\X w args)/\sizedMet enc C.prog fn (OpenSpec.ofChange s) apart w args) (s.post enc C.prog fn apart fresh handsOn again):=by
 refine returnsInHanded_of_calls own started noInit witness fun w tape i _ hsh _ hok hpre _=>?_
 obtain⟨_,_,_,fn',hfn',_,_,_,_,hval⟩:=hok
 obtain rfl:fn'=fn:=Option.some.inj (hfn'.symm.trans hfn)
 obtain⟨⟨⟨ds,gs,before,hw,_⟩,hx⟩,_⟩:=hpre
 refine(walk (w.forCall tape i) w.heap.size i.args ds gs before hval (DataW.Whole.of_heap (by rfl) hw) (hX _ _ _ (by rfl) hx) hsh).mono fun e W' ⟨v,he,hp⟩=>?_
 subst he
 exact ChangeSpec.post_blind hp
end
section
open Go.ChangeShapes Go.WideShapes Go.ChangeAt Go.RowKit
def Sv (w:World)(v:Value)(c:cF)(zs init r7:List Int)(each:Int):Prop:=
 ∃ aL cL aS cS aI cI aR cR,v=.agg #[K aL c.l.length cL,I N c.lo,I N c.un,K aS zs.length cS,K aI init.length cI,I N each,K aR r7.length cR]/\
  Pv w (.agg #[K aL c.l.length cL,I N c.lo,I N c.un]) c/\bG .i64 w aS zs/\bG .u32 w aI init/\bG .u32 w aR r7/\zs.length<=maxLen/\init.length<=maxLen/\r7.length<=maxLen
theorem bG.below {k:IntKind}{w w':World}{a:Option Addr}{xs:List Int}(h:bG k w a xs)(hb:Below w.heap.size w w'):bG k w' a xs:=by
 intro h0
 obtain⟨b,off,e,hlt,hc⟩:=h h0
 exact⟨b,off,e,Nat.lt_of_lt_of_le hlt hb.size,fun i hi=>(hb.cell (p:=⟨b,off+i,V⟩) hlt).trans (hc i hi)⟩
theorem Sv.below {w w':World}{v:Value}{c:cF}{zs init r7:List Int}{each:Int}(h:Sv w v c zs init r7 each)(hb:Below w.heap.size w w'):Sv w' v c zs init r7 each:=by
 obtain⟨aL,cL,aS,cS,aI,cI,aR,cR,e,h1,h2,h3,h4,h5⟩:=h
 exact⟨aL,cL,aS,cS,aI,cI,aR,cR,e,h1.below hb,h2.below hb,h3.below hb,h4.below hb,h5⟩
theorem bF {W W':World}{base n sz:Nat}{t:TypeId}{v:Value}{xs:List Value}(h:W.ownsRow base t sz v n xs)(hb:Below W.heap.size W W'):W'.ownsRow base t sz v n xs:=aB h (av hb) (by simp)
theorem dy {W W':World}{base n sz b:Nat}{t u:TypeId}{v:Value}{xs:List Value}{cs:Array Value}(h:W.ownsRow base t sz v n xs)(hw:af W W' (fun i=>i=b))(hb:Bk W b u cs)(hne:t≠u):W'.ownsRow base t sz v n xs:=
 aB h hw fun g e e2=>by
  obtain⟨cs',hcs⟩:=bo h e
  exact Bk.bi hcs hb hne e2
def kS (y:World)(g:Nat)(a b c d e f h:Value):World:=((((((y.setCell ⟨g,0,V⟩ a).setCell ⟨g,1,V⟩ b).setCell ⟨g,2,V⟩ c).setCell ⟨g,3,V⟩ d).setCell ⟨g,4,V⟩ e).setCell ⟨g,5,V⟩ f).setCell ⟨g,6,V⟩ h
theorem fW {y:World}{g:Nat}{t:TypeId}{x0 x1 x2 x3 x4 x5 x6:Value}(hb:Bk y g t #[x0,x1,x2,x3,x4,x5,x6])(a b c d e f h:Value):Bk (kS y g a b c d e f h) g t #[a,b,c,d,e,f,h]:=by
 have h8:=((((((hb.put 0 a).put 1 b).put 2 c).put 3 d).put 4 e).put 5 f).put 6 h
 unfold kS
 simpa only[List.setIfInBounds_toArray,List.set_cons_zero,List.set_cons_succ] using h8
theorem cG {y:World}{g:Nat}(a b c d e f h:Value):af y (kS y g a b c d e f h) (fun i=>i=g):=by
 unfold kS
 exact(((((((af.refl y (fun i=>i=g)).put g 0 a (.inl rfl)).put g 1 b (.inl rfl)).put g 2 c (.inl rfl)).put g 3 d (.inl rfl)).put g 4 e (.inl rfl)).put g 5 f (.inl rfl)).put g 6 h (.inl rfl)
theorem dc {B:Nat}{w y:World}{g:Nat}(hb:Below B w y)(hg:B<=g)(a b c d e f h:Value):Below B w (kS y g a b c d e f h):=
 ((((((hb.setCell hg _).setCell hg _).setCell hg _).setCell hg _).setCell hg _).setCell hg _).setCell hg _
def Rv (base:Nat)(w:World)(v:Value)(c:cF)(zs init r7:List Int)(each:Int):Prop:=
 ∃ sl aS cS aI cI aR cR,v=.agg #[sl,I N c.lo,I N c.un,K aS zs.length cS,K aI init.length cI,I N each,K aR r7.length cR]/\
  w.ownsRow base 58 8 sl c.l.length (aK c.l)/\bG .i64 w aS zs/\bG .u32 w aI init/\bG .u32 w aR r7/\zs.length<=maxLen/\init.length<=maxLen/\r7.length<=maxLen
theorem Rv.below {base:Nat}{w w':World}{v:Value}{c:cF}{zs init r7:List Int}{each:Int}(h:Rv base w v c zs init r7 each)(hb:Below w.heap.size w w'):Rv base w' v c zs init r7 each:=by
 obtain⟨sl,aS,cS,aI,cI,aR,cR,e,h1,h2,h3,h4,h5⟩:=h
 exact⟨sl,aS,cS,aI,cI,aR,cR,e,bF h1 hb,h2.below hb,h3.below hb,h4.below hb,h5⟩
theorem no {w:World}{v:Value}{c:cF}{zs init r7:List Int}{each:Int}(hv:Sv w v c zs init r7 each)(hc:c.l.length<=1000):
 Calls Tryd.prog 7 #[v] w fun e w'=>∃ v',e=.returned v'/\Rv w.heap.size w' v' c zs init r7 each/\Below w.heap.size w w':=by
 obtain⟨aL,cL,aS,cS,aI,cI,aR,cR,rfl,hpv,hgS,hgI,hgR,hm1,hm2,hm3⟩:=hv
 have q0:=(Bk.made w 28 #[K aL c.l.length cL,I N c.lo,I N c.un,K aS zs.length cS,K aI init.length cI,I N each,K aR r7.length cR]).alloc (E #[K V 0 0,I N 0,I N 0,K V 0 0,K V 0 0,I N 0,K V 0 0] 38)
 have q1:=Bk.made (w.alloc (E #[K aL c.l.length cL,I N c.lo,I N c.un,K aS zs.length cS,K aI init.length cI,I N each,K aR r7.length cR] 28)) 38 #[K V 0 0,I N 0,I N 0,K V 0 0,K V 0 0,I N 0,K V 0 0]
 rw[World.size_alloc] at q1
 have b0:Below w.heap.size w ((w.alloc (E #[K aL c.l.length cL,I N c.lo,I N c.un,K aS zs.length cS,K aI init.length cI,I N each,K aR r7.length cR] 28)).alloc (E #[K V 0 0,I N 0,I N 0,K V 0 0,K V 0 0,I N 0,K V 0 0] 38)):=((L _ _).alloc (M _) _).alloc (by simp) _
 go_enter Tryd.func7,Tryd.ntmps7
 go_upto_region 1 with fail
 generalize (w.alloc (E #[K aL c.l.length cL,I N c.lo,I N c.un,K aS zs.length cS,K aI init.length cI,I N each,K aR r7.length cR] 28)).alloc (E #[K V 0 0,I N 0,I N 0,K V 0 0,K V 0 0,I N 0,K V 0 0] 38)=y at *
 have HRF:=D (fun W (hW:Below w.heap.size w W)=>od c _ W (hpv.below hW) hc)
 have kx:∀ (W:World) (u:Value) (i j:Nat),(W.setCell ⟨w.heap.size+1,i,V⟩ u).cell? ⟨w.heap.size,j,V⟩=W.cell? ⟨w.heap.size,j,V⟩:=fun W u i j=>lD (by omega)
 have HQ:Hid (∀ W,Below y.heap.size y W->Bk W w.heap.size 28 _/\Bk W (w.heap.size+1) 38 _/\Below w.heap.size w W):=D fun W hW=>⟨(hW.block _ q0.lt).trans q0,(hW.block _ q1.lt).trans q1,b0.trans (hW.mono b0.size)⟩
 obtain⟨f0,f1,f2,f3,f4,f5,f6⟩:=q0.ja
 refine bW [12] (fun j W=>match j with | 0=>Below y.heap.size y W | _=>∃ sl,W.ownsRow w.heap.size 58 8 sl c.l.length (aK c.l)/\Bk W (w.heap.size+1) 38 #[sl,I N c.lo,I N c.un,K aS zs.length cS,K aI init.length cI,I N each,K aR r7.length cR]/\Below w.heap.size w W) (fun _ W W2=>af W W2 (fun i=>i=w.heap.size+1)/\Bk W (w.heap.size+1) 38 #[K V 0 0,I N 0,I N 0,K V 0 0,K V 0 0,I N 0,K V 0 0]) (fun vs=>{ tmps:=#[.agg #[K aL c.l.length cL,I N c.lo,I N c.un,K aS zs.length cS,K aI init.length cI,I N each,K aR r7.length cR],G (S ⟨w.heap.size,0,V⟩),G (S ⟨w.heap.size+1,0,V⟩),vs 0,vs 1,vs 2,vs 3,vs 4,vs 5,vs 6,vs 7,vs 8,vs 9,vs 10,vs 11],defers:=[] }) (il [(2,(fun v W=>∃ sl,v=.agg #[sl,I N c.lo,I N c.un]/\W.ownsRow w.heap.size 58 8 sl c.l.length (aK c.l))),(11,(fun v W=>∃ sl,v=.agg #[sl,I N c.lo,I N c.un,K aS zs.length cS,K aI init.length cI,I N each,K aR r7.length cR]/\W.ownsRow w.heap.size 58 8 sl c.l.length (aK c.l)))] [G (S ⟨w.heap.size,0,V⟩),.agg #[K aL c.l.length cL,I N c.lo,I N c.un],undef,G (S ⟨w.heap.size,3,V⟩),K aS zs.length cS,G (S ⟨w.heap.size,4,V⟩),K aI init.length cI,G (S ⟨w.heap.size,5,V⟩),I N each,G (S ⟨w.heap.size,6,V⟩),K aR r7.length cR,undef,undef]) ?ghm ?ghr ?ghc ?ghnd ?ghlit ?gh0 ?ghW ?ghF ?ghS ?gops ?gdone
 case ghm=>kernel_rfl
 case ghr=>kernel_rfl
 case ghc=>kernel_rfl
 case ghnd=>decide
 case ghlit=>intro vs;rfl
 case gh0=>exact L _ _
 case ghW=>exact fun kk W W2 h hb=>match kk,h with
  | 0,h=>h.trans (hb.mono h.size)
  | _+1,⟨sl,h1,h2,h3⟩=>⟨sl,bF h1 hb,(hb.block _ h2.lt).trans h2,h3.trans (hb.mono h3.size)⟩
 case ghF=>exact cJ (by
  intro p0 hp
  simp only[List.mem_cons,List.not_mem_nil,or_false] at hp
  rcases hp with rfl|rfl
  ·rintro v W W2 ⟨sl,e,h⟩ hb;exact⟨sl,e,bF h hb⟩
  ·rintro v W W2 ⟨sl,e,h⟩ hb;exact⟨sl,e,bF h hb⟩)
 case ghS=>exact fun kk W W2 _ hs i v h=>fm (R:=fun W W2=>af W W2 (fun i=>i=w.heap.size+1)/\Bk W (w.heap.size+1) 38 #[K V 0 0,I N 0,I N 0,K V 0 0,K V 0 0,I N 0,K V 0 0]) (ps:=[(2,(fun v W=>∃ sl,v=.agg #[sl,I N c.lo,I N c.un]/\W.ownsRow w.heap.size 58 8 sl c.l.length (aK c.l))),(11,(fun v W=>∃ sl,v=.agg #[sl,I N c.lo,I N c.un,K aS zs.length cS,K aI init.length cI,I N each,K aR r7.length cR]/\W.ownsRow w.heap.size 58 8 sl c.l.length (aK c.l)))]) (l:=[G (S ⟨w.heap.size,0,V⟩),.agg #[K aL c.l.length cL,I N c.lo,I N c.un],undef,G (S ⟨w.heap.size,3,V⟩),K aS zs.length cS,G (S ⟨w.heap.size,4,V⟩),K aI init.length cI,G (S ⟨w.heap.size,5,V⟩),I N each,G (S ⟨w.heap.size,6,V⟩),K aR r7.length cR,undef,undef]) (by
  intro p0 hp
  simp only[List.mem_cons,List.not_mem_nil,or_false] at hp
  rcases hp with rfl|rfl
  ·rintro v W W2 ⟨sl,e,h⟩ hs;exact⟨sl,e,dy h hs.1 hs.2 (by decide)⟩
  ·rintro v W W2 ⟨sl,e,h⟩ hs;exact⟨sl,e,dy h hs.1 hs.2 (by decide)⟩) i v W W2 h hs
 case gops=>
  refine⟨?_,?_,?_,?_,?_,?_,?_,?_,?_,?_,?_,?_,?_,trivial⟩
  ·intro vs W kk h1 h2 hW hd
   obtain rfl:kk=0:=Nat.le_zero.1 h2
   refine ah rfl ?_
   clear hd
   go_simp
   exact⟨rfl,L _ _⟩
  ·intro vs W kk h1 h2 hW hd
   obtain rfl:kk=0:=Nat.le_zero.1 h2
   refine ah rfl ?_
   have e0:vs 0=G (S ⟨w.heap.size,0,V⟩):=hd 0 (by decide)
   have hq:=(HQ.out W hW).1;obtain⟨f0,f1,f2,f3,f4,f5,f6⟩:=hq.ja;have hr:=(HQ.out W hW).2.1;obtain⟨z0,z1,z2,z3,z4,z5,z6⟩:=hr.ja;have zf:=Bk.free hr;clear hq
   clear hd
   go_simp
   exact⟨rfl,L _ _⟩
  ·intro vs W kk h1 h2 hW hd
   obtain rfl:kk=0:=Nat.le_zero.1 h2
   refine ah rfl ?_
   have e1:vs 1=.agg #[K aL c.l.length cL,I N c.lo,I N c.un]:=hd 1 (by decide)
   have HS:=D (HRF.out W (HQ.out W hW).2.2)
   have hsz:=(HQ.out W hW).2.2.size
   clear hd
   go_simp
   refine HS.out.mono ?_
   rintro e zz ⟨sl,he,ho,hb⟩
   exact⟨_,he,⟨sl,rfl,World.ownsRow.mono (base':=w.heap.size) ho hsz⟩,hb⟩
  ·intro vs W kk h1 h2 hW hd
   obtain rfl:kk=0:=Nat.le_zero.1 h2
   refine ah rfl ?_
   clear hd
   go_simp
   exact⟨rfl,L _ _⟩
  ·intro vs W kk h1 h2 hW hd
   obtain rfl:kk=0:=Nat.le_zero.1 h2
   refine ah rfl ?_
   have e3:vs 3=G (S ⟨w.heap.size,3,V⟩):=hd 3 (by decide)
   have hq:=(HQ.out W hW).1;obtain⟨f0,f1,f2,f3,f4,f5,f6⟩:=hq.ja;have hr:=(HQ.out W hW).2.1;obtain⟨z0,z1,z2,z3,z4,z5,z6⟩:=hr.ja;have zf:=Bk.free hr;clear hq
   clear hd
   go_simp
   exact⟨rfl,L _ _⟩
  ·intro vs W kk h1 h2 hW hd
   obtain rfl:kk=0:=Nat.le_zero.1 h2
   refine ah rfl ?_
   clear hd
   go_simp
   exact⟨rfl,L _ _⟩
  ·intro vs W kk h1 h2 hW hd
   obtain rfl:kk=0:=Nat.le_zero.1 h2
   refine ah rfl ?_
   have e5:vs 5=G (S ⟨w.heap.size,4,V⟩):=hd 5 (by decide)
   have hq:=(HQ.out W hW).1;obtain⟨f0,f1,f2,f3,f4,f5,f6⟩:=hq.ja;have hr:=(HQ.out W hW).2.1;obtain⟨z0,z1,z2,z3,z4,z5,z6⟩:=hr.ja;have zf:=Bk.free hr;clear hq
   clear hd
   go_simp
   exact⟨rfl,L _ _⟩
  ·intro vs W kk h1 h2 hW hd
   obtain rfl:kk=0:=Nat.le_zero.1 h2
   refine ah rfl ?_
   clear hd
   go_simp
   exact⟨rfl,L _ _⟩
  ·intro vs W kk h1 h2 hW hd
   obtain rfl:kk=0:=Nat.le_zero.1 h2
   refine ah rfl ?_
   have e7:vs 7=G (S ⟨w.heap.size,5,V⟩):=hd 7 (by decide)
   have hq:=(HQ.out W hW).1;obtain⟨f0,f1,f2,f3,f4,f5,f6⟩:=hq.ja;have hr:=(HQ.out W hW).2.1;obtain⟨z0,z1,z2,z3,z4,z5,z6⟩:=hr.ja;have zf:=Bk.free hr;clear hq
   clear hd
   go_simp
   exact⟨rfl,L _ _⟩
  ·intro vs W kk h1 h2 hW hd
   obtain rfl:kk=0:=Nat.le_zero.1 h2
   refine ah rfl ?_
   clear hd
   go_simp
   exact⟨rfl,L _ _⟩
  ·intro vs W kk h1 h2 hW hd
   obtain rfl:kk=0:=Nat.le_zero.1 h2
   refine ah rfl ?_
   have e9:vs 9=G (S ⟨w.heap.size,6,V⟩):=hd 9 (by decide)
   have hq:=(HQ.out W hW).1;obtain⟨f0,f1,f2,f3,f4,f5,f6⟩:=hq.ja;have hr:=(HQ.out W hW).2.1;obtain⟨z0,z1,z2,z3,z4,z5,z6⟩:=hr.ja;have zf:=Bk.free hr;clear hq
   clear hd
   go_simp
   exact⟨rfl,L _ _⟩
  ·intro vs W kk h1 h2 hW hd
   obtain rfl:kk=0:=Nat.le_zero.1 h2
   refine ah rfl ?_
   have e4:vs 4=K aS zs.length cS:=hd 4 (by decide)
   have e6:vs 6=K aI init.length cI:=hd 6 (by decide)
   have e8:vs 8=I N each:=hd 8 (by decide)
   have e10:vs 10=K aR r7.length cR:=hd 10 (by decide)
   obtain⟨sl,e2,ho⟩:∃ sl,vs 2=.agg #[sl,I N c.lo,I N c.un]/\W.ownsRow w.heap.size 58 8 sl c.l.length (aK c.l):=hd 2 (by decide)
   clear hd
   go_simp
   exact⟨⟨sl,rfl,ho⟩,L _ _⟩
  ·intro vs W hW hd
   obtain⟨sl,e11,ho⟩:∃ sl,vs 11=.agg #[sl,I N c.lo,I N c.un,K aS zs.length cS,K aI init.length cI,I N each,K aR r7.length cR]/\W.ownsRow w.heap.size 58 8 sl c.l.length (aK c.l):=hd 11 (by decide)
   obtain⟨aL9,cL9,rfl,-⟩:=bj ho
   have hq:=(HQ.out W hW).1;obtain⟨f0,f1,f2,f3,f4,f5,f6⟩:=hq.ja;have hr:=(HQ.out W hW).2.1;obtain⟨z0,z1,z2,z3,z4,z5,z6⟩:=hr.ja;have zf:=Bk.free hr;clear hq
   refine cV rfl ?_
   clear hd
   go_simp
   exact⟨rfl,⟨K aL9 c.l.length cL9,dy ho (cG (y:=W) (g:=w.heap.size+1) (K aL9 c.l.length cL9) (I N c.lo) (I N c.un) (K aS zs.length cS) (K aI init.length cI) (I N each) (K aR r7.length cR)) hr (by decide),fW hr (K aL9 c.l.length cL9) (I N c.lo) (I N c.un) (K aS zs.length cS) (K aI init.length cI) (I N each) (K aR r7.length cR),dc (HQ.out W hW).2.2 (by omega) (K aL9 c.l.length cL9) (I N c.lo) (I N c.un) (K aS zs.length cS) (K aI init.length cI) (I N each) (K aR r7.length cR)⟩,cG (y:=W) (g:=w.heap.size+1) (K aL9 c.l.length cL9) (I N c.lo) (I N c.un) (K aS zs.length cS) (K aI init.length cI) (I N each) (K aR r7.length cR)⟩
 case gdone=>
  intro vs W hW hf
  have f0:vs 0=G (S ⟨w.heap.size,0,V⟩):=hf 0 (by decide)
  have f1:vs 1=.agg #[K aL c.l.length cL,I N c.lo,I N c.un]:=hf 1 (by decide)
  have f3:vs 3=G (S ⟨w.heap.size,3,V⟩):=hf 3 (by decide)
  have f4:vs 4=K aS zs.length cS:=hf 4 (by decide)
  have f5:vs 5=G (S ⟨w.heap.size,4,V⟩):=hf 5 (by decide)
  have f6:vs 6=K aI init.length cI:=hf 6 (by decide)
  have f7:vs 7=G (S ⟨w.heap.size,5,V⟩):=hf 7 (by decide)
  have f8:vs 8=I N each:=hf 8 (by decide)
  have f9:vs 9=G (S ⟨w.heap.size,6,V⟩):=hf 9 (by decide)
  have f10:vs 10=K aR r7.length cR:=hf 10 (by decide)
  simp only[f0,f1,f3,f4,f5,f6,f7,f8,f9,f10]
  clear f0 f1 f3 f4 f5 f6 f7 f8 f9 f10
  obtain⟨sl,ho,hB,hb⟩:∃ sl,W.ownsRow w.heap.size 58 8 sl c.l.length (aK c.l)/\Bk W (w.heap.size+1) 38 #[sl,I N c.lo,I N c.un,K aS zs.length cS,K aI init.length cI,I N each,K aR r7.length cR]/\Below w.heap.size w W:=hW
  clear hf HQ HRF kx f0 f1 f2 f3 f4 f5 f6 q0 q1
  obtain⟨f0,f1,f2,f3,f4,f5,f6⟩:=hB.ja
  go_wp
  exact bodyPost_ret (v:=.agg #[sl,I N c.lo,I N c.un,K aS zs.length cS,K aI init.length cI,I N each,K aR r7.length cR]) (by simp[results,Tryd.results7,go_sem,f0,f1,f2,f3,f4,f5,f6]) rfl ⟨_,rfl,⟨sl,aS,cS,aI,cI,aR,cR,rfl,ho,hgS.below hb,hgI.below hb,hgR.below hb,hm1,hm2,hm3⟩,hb⟩
end
