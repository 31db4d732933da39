import Derived.Test.YthdgehcghklflaaGreatDoorRWdA
import Derived.Test.YthdgehcghklflaaGreatDoorRMem
import Derived.BigRegionIn
import Derived.Deep.QuietTactic
import Derived.BigQuiet
set_option linter.unusedVariables false
set_option maxHeartbeats 2000000
open Go.Value renaming int->I
open Go.IntKind renaming i64->N
open Option renaming none->O,some->Z
open Bool renaming false->V,true->T
open Go.Obj renaming cells->R
open Go.Lib renaming hid->U
open Go.RowKit.Below renaming refl->K
namespace Go.Proofs.YthdgehcghklflaaGreatDoor
section
open Go.ChangeShapes Go.WideShapes Go.ChangeAt Go.RowKit
def kp (P:Program)(ops:Array Oper)(F:Nat->Nat->Value->World->Prop)(Wp:Nat->World->Prop)(Step:Nat->World->World->Prop)(lit:(Nat->Value)->Act)(st:List Nat):List Oper->Nat->Prop
 | [],_=>True
 | o :: l,i=>(match st.contains i with
  | true=>∀ (vs:Nat->Value) W,Wp (st.idxOf i) W->(∀ j∈aW ops i,F j (st.idxOf i) (vs j) W)->cY P ops (fun v W'=>F i (st.idxOf i+1) v W'/\Wp (st.idxOf i+1) W'/\Step (st.idxOf i) W W') o (lit vs) W
  | false=>∀ (vs:Nat->Value) W k,tY ops st i<=k->k<=ua ops st i->Wp k W->(∀ j∈aW ops i,F j k (vs j) W)->bM P ops (F i k) o (lit vs) W)/\kp P ops F Wp Step lit st l (i+1)
theorem jn {P:Program}{ops:Array Oper}{F:Nat->Nat->Value->World->Prop}{Wp:Nat->World->Prop}{Step:Nat->World->World->Prop}{lit:(Nat->Value)->Act}{st:List Nat}:∀ (l:List Oper) (b i:Nat) (o:Oper),kp P ops F Wp Step lit st l b->l[i]?=Z o->
 (st.contains (b+i)=T->∀ (vs:Nat->Value) W,Wp (st.idxOf (b+i)) W->(∀ j∈aW ops (b+i),F j (st.idxOf (b+i)) (vs j) W)->cY P ops (fun v W'=>F (b+i) (st.idxOf (b+i)+1) v W'/\Wp (st.idxOf (b+i)+1) W'/\Step (st.idxOf (b+i)) W W') o (lit vs) W)/\
 (st.contains (b+i)=V->∀ (vs:Nat->Value) W k,tY ops st (b+i)<=k->k<=ua ops st (b+i)->Wp k W->(∀ j∈aW ops (b+i),F j k (vs j) W)->bM P ops (F (b+i) k) o (lit vs) W)
 | [],b,i,o,_,hi=>by simp at hi
 | x :: l,b,0,o,h,hi=>by
  simp only[List.getElem?_cons_zero,Option.some.injEq] at hi
  subst hi
  have h1:=h.1
  simp only[Nat.add_zero]
  constructor
  ·intro e;rw[e] at h1;exact h1
  ·intro e;rw[e] at h1;exact h1
 | x :: l,b,i+1,o,h,hi=>by
  have:=jn l (b+1) i o h.2 (by simpa using hi)
  rw[show b+1+i=b+(i+1) by omega] at this
  exact this
theorem dw {P:Program}{l:List Oper}{Q:Exit->Act->World->Prop}{id:Nat}{a:Act}{w:World}(st:List Nat)(Wp:Nat->World->Prop)(Step:Nat->World->World->Prop)(lit:(Nat->Value)->Act)(F:Nat->Nat->Value->World->Prop)
 (hm:P.follows .mixedOrders=T) (hr:lm l.toArray=T) (hc:gZ l.toArray st=T) (hnd:st.Nodup) (hlit:∀ vs,aC l.toArray a (fun _=>T) vs=lit vs)
 (h0:Wp 0 w)
 (hW:∀ k W W',Wp k W->Below W.heap.size W W'->Wp k W')
 (hF:∀ i k v W W',F i k v W->Below W.heap.size W W'->F i k v W')
 (hS:∀ k W W',Wp k W->Step k W W'->∀ i v,F i k v W->F i (k+1) v W')
 (hop:kp P l.toArray F Wp Step lit st l 0)
 (hend:∀ (vs:Nat->Value) W,Wp st.length W->(∀ i,i<l.length->F i st.length (vs i) W)->Q .normal (lit vs) W):(Code.region id l.toArray T).wp P Q a w:=by
 refine dX hm hr (fun d vs W=>∃ k,k<=st.length/\(∀ j s,st[j]?=Z s->(d s=T↔j<k))/\(∀ i,d i=T->∀ j∈aW l.toArray i,d j=T)/\Wp k W/\∀ i,d i=T->F i k (vs i) W) ?_ ?_ ?_
 ·exact⟨0,Nat.zero_le _,fun j s _=>by simp,(fun i h=>by cases h),hW 0 _ _ h0 (K _ _).drew,(fun i h=>by cases h)⟩
 ·rintro i o ho d vs W ⟨k,hk,hst,hcl,hWk,hFd⟩ hdi hdep
  have ho':l[i]?=Z o:=by simpa using ho
  rw[hlit]
  obtain⟨e1,e2⟩:=jn l 0 i o hop ho'
  rw[Nat.zero_add] at e1 e2
  have hFdep:∀ j∈aW l.toArray i,F j k (vs j) W:=fun j hj=>hFd j (hdep j hj)
  cases hci:st.contains i with
  | true=>
   have hmem:i∈st:=by simpa using hci
   have hidx:st.idxOf i<st.length:=List.idxOf_lt_length_iff.2 hmem
   have hat:st[st.idxOf i]?=Z i:=by rw[List.getElem?_eq_getElem hidx,List.getElem_idxOf hidx]
   -- it is the next one
   have hki:st.idxOf i=k:=by
    have h1:¬ st.idxOf i<k:=fun h=>by
     have:=(hst _ i hat).2 h
     rw[hdi] at this;cases this
    rcases Nat.lt_or_eq_of_le (Nat.le_of_not_lt h1) with h2 | h2
    ·exfalso
     -- the one fR is done,so all fR are
     have hp:st.idxOf i-1+1=st.idxOf i:=by omega
     have hpl:st.idxOf i-1<st.length:=by omega
     have hs:=kv st hc (st.idxOf i-1) st[st.idxOf i-1] i (List.getElem?_eq_getElem hpl) (by rw[hp];exact hat)
     have hd:=hdep _ hs
     have:=(hst _ _ (List.getElem?_eq_getElem hpl)).1 hd
     omega
    ·exact h2.symm
   have h3:=e1 hci vs W (by rw[hki];exact hWk) (by rw[hki];exact hFdep)
   refine gc h3 ?_
   rintro v W' ⟨hv,hW2,hstep⟩
   rw[hki] at hv hW2 hstep
   refine⟨k+1,by omega,fun j s hs=>?_,fun x hx j hj=>by
    by_cases e:x=i
    ·subst e;have h4:=hdep j hj;by_cases e2:j=x <;> simp[e2,h4]
    ·simp only[if_neg e] at hx;have h4:=hcl x hx j hj;by_cases e2:j=i <;> simp[e2,h4],hW2,fun j hj=>?_⟩
   ·by_cases e:s=i
    ·subst e
     have hj:j=k:=by
      rw[<-hki]
      have hjl:=(List.getElem?_eq_some_iff.1 hs).1
      have hsj:=(List.getElem?_eq_some_iff.1 hs).2
      have:=hnd.idxOf_getElem j hjl
      rw[hsj] at this
      exact this.symm
     simp;omega
    ·simp only[if_neg e]
     rw[hst j s hs]
     constructor
     ·omega
     ·intro h
      by_cases hj:j=k
      ·exfalso
       subst hj
       rw[<-hki,hat] at hs
       injection hs with hs
       exact e hs.symm
      ·omega
   ·by_cases e:j=i
    ·subst e;simp only[if_true];exact hv
    ·simp only[if_neg e] at hj ⊢
     exact hS k W W' hWk hstep j _ (hFd j hj)
  | false=>
   have hnm:i ∉ st:=by simpa using hci
   have hlo:tY l.toArray st i<=k:=by
    unfold tY
    have hsub:∀ (s:List Nat) (b:Nat),(∀ j x,s[j]?=Z x->st[b+j]?=Z x)->(s.filter fun x=>(aW l.toArray i).contains x).length<=k-b:=by
     intro s
     induction s with
     | nil=>intro b _;simp
     | cons x s ih=>
      intro b hb
      have hx:=hb 0 x (by simp)
      rw[Nat.add_zero] at hx
      have ih2:=ih (b+1) (fun j y hy=>by rw[show b+1+j=b+(j+1) by omega];exact hb (j+1) y (by simpa using hy))
      rw[List.filter_cons]
      split
      ·rename_i hcx
       have hd:=hdep x (by simpa using hcx)
       have:=(hst b x hx).1 hd
       simp only[List.length_cons]
       omega
      ·omega
    have:=hsub st 0 (fun j x h=>by rw[Nat.zero_add];exact h)
    omega
   have hhi:k<=ua l.toArray st i:=by
    unfold ua
    rcases Nat.lt_or_ge (st.findIdx fun s=>(aW l.toArray s).contains i) st.length with h | h
    ·refine Nat.le_of_not_lt fun hlt=>?_
     have hp:=List.findIdx_getElem (w:=h)
     have hd:=(hst _ _ (List.getElem?_eq_getElem h)).2 hlt
     -- what is done had all that it waits for done
     have:=hcl _ hd i (by simpa using hp)
     rw[hdi] at this
     cases this
    ·omega
   exact fe (e2 hci vs W k hlo hhi hWk hFdep) (fun v W' hv hb=>⟨k,hk,fun j s hs=>by
    have hne:s≠i:=fun e=>hnm (e ▸ List.mem_of_getElem? hs)
    simp only[if_neg hne]
    exact hst j s hs,fun x hx j hj=>by
    by_cases e:x=i
    ·subst e;have h4:=hdep j hj;by_cases e2:j=x <;> simp[e2,h4]
    ·simp only[if_neg e] at hx;have h4:=hcl x hx j hj;by_cases e2:j=i <;> simp[e2,h4],hW k W W' hWk hb,fun j hj=>by
    by_cases e:j=i
    ·subst e;simp only[if_true];exact hv
    ·simp only[if_neg e] at hj ⊢
     exact hF j _ _ W W' (hFd j hj) hb⟩)
 ·rintro d vs W ⟨k,hk,hst,hcl,hWk,hFd⟩ hall
  rw[hlit]
  have hks:k=st.length:=by
   rcases Nat.lt_or_eq_of_le hk with h | h
   ·exfalso
    have h1:=(hst k _ (List.getElem?_eq_getElem h))
    have h2:=hall st[k] (ku st hc _ (List.getElem_mem h))
    have:=h1.1 h2
    omega
   ·exact h
  subst hks
  exact hend vs W hWk (fun i hi=>hFd i (hall i (by simpa using hi)))
def BX (F:Nat->Value->World->Prop)(a b:Nat)(P2:Value->Value->World->Prop)(i:Nat)(W:World)(v:Value)(W':World):Prop:=F i v W'/\(i=a->∀ y,F b y W->P2 v y W')/\(i=b->∀ x,F a x W->P2 x v W')
def mY (P:Program)(ops:Array Oper)(F:Nat->Value->World->Prop)(Wp:World->Prop)(lit:(Nat->Value)->Act)(a b:Nat)(P2:Value->Value->World->Prop):List Oper->Nat->Prop
 | [],_=>True
 | o :: l,i=>(∀ (vs:Nat->Value) W,Wp W->(∀ j∈aW ops i,F j (vs j) W)->(a∈aW ops i->b∈aW ops i->P2 (vs a) (vs b) W)->bM P ops (BX F a b P2 i W) o (lit vs) W)/\mY P ops F Wp lit a b P2 l (i+1)
theorem kJ {P:Program}{ops:Array Oper}{F:Nat->Value->World->Prop}{Wp:World->Prop}{lit:(Nat->Value)->Act}{a b:Nat}{P2:Value->Value->World->Prop}:∀ (l:List Oper) (c i:Nat) (o:Oper),mY P ops F Wp lit a b P2 l c->l[i]?=Z o->
 ∀ (vs:Nat->Value) W,Wp W->(∀ j∈aW ops (c+i),F j (vs j) W)->(a∈aW ops (c+i)->b∈aW ops (c+i)->P2 (vs a) (vs b) W)->bM P ops (BX F a b P2 (c+i) W) o (lit vs) W
 | [],c,i,o,_,hi=>by simp at hi
 | x :: l,c,0,o,h,hi=>by
  simp only[List.getElem?_cons_zero,Option.some.injEq] at hi
  subst hi
  exact h.1
 | x :: l,c,i+1,o,h,hi=>by
  have:=kJ l (c+1) i o h.2 (by simpa using hi)
  rw[show c+1+i=c+(i+1) by omega] at this
  exact this
theorem lu {P:Program}{l:List Oper}{Q:Exit->Act->World->Prop}{id:Nat}{a0:Act}{w:World}(Wp:World->Prop)(lit:(Nat->Value)->Act)(F:Nat->Value->World->Prop)(a b:Nat)(P2:Value->Value->World->Prop)
 (hm:P.follows .mixedOrders=T) (hr:lm l.toArray=T) (hab:a≠b) (hal:a<l.length) (hbl:b<l.length) (hlit:∀ vs,aC l.toArray a0 (fun _=>T) vs=lit vs)
 (h0:Wp w)
 (hW:∀ W W',Wp W->Below W.heap.size W W'->Wp W')
 (hF:∀ i v W W',F i v W->Below W.heap.size W W'->F i v W')
 (hP:∀ x y W W',P2 x y W->Below W.heap.size W W'->P2 x y W')
 (hop:mY P l.toArray F Wp lit a b P2 l 0)
 (hend:∀ (vs:Nat->Value) W,Wp W->(∀ i,i<l.length->F i (vs i) W)->P2 (vs a) (vs b) W->Q .normal (lit vs) W):(Code.region id l.toArray T).wp P Q a0 w:=by
 refine dX hm hr (fun d vs W=>Wp W/\(∀ i,d i=T->F i (vs i) W)/\(d a=T->d b=T->P2 (vs a) (vs b) W)) ?_ ?_ ?_
 ·exact⟨hW _ _ h0 (K _ _).drew,(fun i h=>by cases h),(fun h=>by cases h)⟩
 ·rintro i o ho d vs W ⟨hWk,hFd,hPd⟩ hdi hdep
  have ho':l[i]?=Z o:=by simpa using ho
  rw[hlit]
  have e2:=kJ l 0 i o hop ho' vs W hWk (by rw[Nat.zero_add];exact fun j hj=>hFd j (hdep j hj)) (by rw[Nat.zero_add];exact fun h1 h2=>hPd (hdep a h1) (hdep b h2))
  rw[Nat.zero_add] at e2
  refine fe e2 (fun v W' hv hb=>⟨hW _ _ hWk hb,fun j hj=>?_,fun ha hb'=>?_⟩)
  ·by_cases e:j=i
   ·subst e;simp only[if_true];exact hv.1
   ·simp only[if_neg e] at hj ⊢
    exact hF j _ W W' (hFd j hj) hb
  ·by_cases e:a=i
   ·have e3:¬ b=i:=fun h=>hab (e.trans h.symm)
    simp only[if_neg e3] at hb'
    simp only[if_pos e,if_neg e3]
    exact hv.2.1 e.symm _ (hFd b hb')
   ·simp only[if_neg e] at ha
    by_cases e3:b=i
    ·simp only[if_neg e,if_pos e3]
     exact hv.2.2 e3.symm _ (hFd a ha)
    ·simp only[if_neg e3] at hb'
     simp only[if_neg e,if_neg e3]
     exact hP _ _ W W' (hPd ha hb') hb
 ·rintro d vs W ⟨hWk,hFd,hPd⟩ hall
  rw[hlit]
  exact hend vs W hWk (fun i hi=>hFd i (hall i (by simpa using hi))) (hPd (hall a (by simpa using hal)) (hall b (by simpa using hbl)))
end
section
def Ej (k:Int):Int:=if k=1 then 1 else if k=2 then 2 else if k=3 then 3 else if k=4 then 5 else if k=5 then 4 else if k=8 then 6 else if k=9 then 7 else 0
def Dg (s:Int):Bool:=decide (s=3) || (decide (s=4) || decide (s=6))
theorem Ap {k:Int}:Dg (Ej k)=cH k:=by
 unfold Ej Dg cH
 by_cases h1:k=1
 ·subst h1;decide
 by_cases h2:k=2
 ·subst h2;decide
 by_cases h3:k=3
 ·subst h3;decide
 by_cases h4:k=4
 ·subst h4;decide
 by_cases h5:k=5
 ·subst h5;decide
 by_cases h8:k=8
 ·subst h8;decide
 by_cases h9:k=9
 ·subst h9;decide
 simp[*]
def EZ (n:Int)(l:List En)(k:Nat):Bool:=match l[k]? with
 | some x=>!decide (ez n (l.take k) x)
 | none=>V
theorem wK (n:Int)(l:List En):kW n l=((List.range l.length).find? (EZ n l)).getD l.length:=rfl
theorem wL {n:Int}{l:List En}{k:Nat}(hk:k<l.length)(h:dC n (l.take k))(hf:¬ ez n (l.take k) l[k]):kW n l=k:=by
 rw[wK]
 have:(List.range l.length).find? (EZ n l)=Z k:=by
  rw[List.find?_eq_some_iff_getElem]
  refine⟨?_,k,by simpa using hk,by simp,fun j hj=>?_⟩
  ·unfold EZ
   rw[List.getElem?_eq_getElem hk]
   simp[hf]
  ·have hjl:j<l.length:=by omega
   simp only[List.getElem_range]
   unfold EZ
   rw[List.getElem?_eq_getElem hjl]
   have:=h j l[j] (by rw[List.getElem?_take,if_pos hj,List.getElem?_eq_getElem hjl])
   rw[List.take_take,show min j k=j by omega] at this
   simp[this]
 rw[this];rfl
def fD (n:Int)(l:List En):Nat:=if 1<=n/\n<=64 then kW n l else 0
end
section
open Go.ChangeShapes Go.WideShapes Go.ChangeAt Go.RowKit Go.Shelf
attribute [local go_sem] Oper.semAt_some
def BM (c:UInt8):List (List UInt8)->List (List UInt8)
 | []=>[[c]]
 | x :: xs=>(c :: x) :: xs
def bu:List UInt8->List (List UInt8)
 | []=>[]
 | c :: r=>if c=10 then [10] :: bu r else BM c (bu r)
def d9 (text:List UInt8)(k:Nat):List UInt8:=(bu text).getD k []
theorem ef:∀ (s r:List UInt8),Nl s->bu (s++10 :: r)=(s++[10]) :: bu r
 | [],r,_=>by simp[bu]
 | c :: s,r,h=>by
  have ih:=ef s r fun d hd=>h d (List.mem_cons_of_mem _ hd)
  show bu (c :: (s++10 :: r))=_
  rw[bu,if_neg (h c List.mem_cons_self),ih]
  rfl
theorem eT:∀ s:List UInt8,Nl s->s≠[]->bu s=[s]
 | [],_,h=>absurd rfl h
 | [c],h,_=>by simp[bu,h c List.mem_cons_self,BM]
 | c :: d :: s,h,_=>by
  have ih:=eT (d :: s) (fun x hx=>h x (List.mem_cons_of_mem _ hx)) (by simp)
  rw[bu,if_neg (h c List.mem_cons_self),ih]
  rfl
theorem kh:∀ t:List UInt8,(bu t).length<=t.length
 | []=>Nat.le_refl _
 | c :: t=>by
  have ih:=kh t
  rw[bu]
  split
  ·simp;omega
  ·cases h:bu t with
   | nil=>simp[BM]
   | cons x y=>rw[h] at ih;simp[BM] at ih ⊢;omega
theorem jL:∀ t:List UInt8,Nl t\/∃ s r,Nl s/\t=s++10 :: r
 | []=>.inl (by unfold Nl;simp)
 | c :: t=>by
  by_cases hc:c=10
  ·exact .inr ⟨[],t,by unfold Nl;simp,by rw[hc];rfl⟩
  rcases jL t with h | ⟨s,r,hs,rfl⟩
  ·exact .inl fun d hd=>by
    rcases List.mem_cons.1 hd with rfl | hd
    ·exact hc
    ·exact h d hd
  ·exact .inr ⟨c :: s,r,fun d hd=>by
    rcases List.mem_cons.1 hd with rfl | hd
    ·exact hc
    ·exact hs d hd,rfl⟩
theorem rA:∀ t:List UInt8,Nl t->Lib.indexByte t 10=-1
 | [],_=>rfl
 | c :: t,h=>by
  have ih:=rA t fun d hd=>h d (List.mem_cons_of_mem _ hd)
  have hc:(c==10)=V:=by simpa using h c List.mem_cons_self
  rw[Lib.indexByte,hc,ih]
  simp
theorem oB:∀ s r:List UInt8,Nl s->Lib.indexByte (s++10 :: r) 10=s.length
 | [],r,_=>by simp[Lib.indexByte]
 | c :: s,r,h=>by
  have ih:=oB s r fun d hd=>h d (List.mem_cons_of_mem _ hd)
  have hc:(c==10)=V:=by simpa using h c List.mem_cons_self
  show Lib.indexByte (c :: (s++10 :: r)) 10=_
  rw[Lib.indexByte,hc,ih]
  have:((s.length:Int)==-1)=V:=by simp
  simp[this]
theorem CT (s:List UInt8)(w:World):
 Calls Tryz.prog 137 #[bs s,I .u8 10] w fun e w'=>e=.returned (I N (Lib.indexByte s 10))/\w=w':=
 (Any.strings_IndexByte Tryz.lays137 ⟨s.toArray⟩ 10 w).mono fun _ _ ⟨he,hw⟩=>⟨he,hw.symm⟩
theorem Cx (s r:List UInt8)(w:World):(Instr.slice 9 (.string ⟨(s++10 :: r).toArray⟩) O (Z (I N ((s.length:Int)+1))) O).run Tryz.prog w=.ok (.string ⟨(s++[10]).toArray⟩) w:=by
 have hu:=Tryz.underlying9
 go_simp
 rw[if_pos ⟨by omega,by omega⟩]
 refine congrArg (fun x=>Result.ok (Value.string x) w) (ByteArray.ext ?_)
 rw[ByteArray.data_extract]
 apply Array.ext'
 simp
 rw[show s++10 :: r=(s++[10])++r by simp,show s.length+1=(s++[10]).length by simp,List.take_left]
theorem Cy (s r:List UInt8)(w:World):(Instr.slice 9 (.string ⟨(s++10 :: r).toArray⟩) (Z (I N ((s.length:Int)+1))) O O).run Tryz.prog w=.ok (.string ⟨r.toArray⟩) w:=by
 have hu:=Tryz.underlying9
 go_simp
 rw[if_pos ⟨by omega,by omega⟩]
 refine congrArg (fun x=>Result.ok (Value.string x) w) (ByteArray.ext ?_)
 rw[ByteArray.data_extract]
 apply Array.ext'
 simp
 exact List.take_of_length_le (by omega)
def ud (w:World)(b:Nat):Nat:=match w.cell? ⟨b,0,O⟩ with
 | some (.string s)=>s.size
 | _=>0
theorem ky {w:World}{b:Nat}{t:TypeId}{s:List UInt8}(h:Bk w b t #[bs s]):ud w b=s.length:=by
 unfold ud
 rw[h.cell 0]
 show s.toArray.size=_
 simp
theorem yH (text:List UInt8)(b l:Nat)(W1:World)(hb:Bk W1 b 9 #[bs text])(hlen:text.length<1000000000):
 Dl Tryz.prog 136 #[.pointer (Z ⟨b,0,O⟩)] (fun k=>#[bs (d9 text k)]) (bu text).length l W1 (fun x=>x=b):=by
 intro J Jx hJ hJx hY h0
 refine callsIn_of_wp Tryz.func136 rfl trivial ?_ rfl
 simp only[Tryz.ntmps136,List.size_toArray,List.length_cons,List.length_nil,Nat.reduceAdd,Nat.reduceSub,Array.replicate_succ,Array.replicate_zero,List.push_toArray,List.append_toArray,List.nil_append,List.cons_append]
 gi_wp2
 gi_loopw [3] (fun p wr=>∃ (k:Nat) (t:List UInt8),k<=(bu text).length/\(bu text).drop k=bu t/\t.length<=text.length/\Bk wr b 9 #[bs t]/\J k wr) (fun p wr=>ud wr b)
 case atStart=>exact⟨0,text,Nat.zero_le _,rfl,Nat.le_refl _,hb,h0⟩
 case round=>
  obtain⟨k,t,hkl,hdr,hle,hbk,hj⟩:=hrel
  have hbl:=ky hbk
  have hc0:wr.cell? ⟨b,0,O⟩=Z (.string ⟨t.toArray⟩):=hbk.cell 0
  have hfr:=hbk.free 0
  by_cases ht:t=[]
  ·subst ht
   have hk:k=(bu text).length:=by
    have:=congrArg List.length hdr
    simp[bu] at this
    omega
   subst hk
   gi_wp2
   go_end0
   exact⟨⟨_,rfl⟩,.inl hj⟩
  ·have hpos:(0:Int)<t.length:=by
    have:=List.length_pos_iff.2 ht
    omega
   have HI:=U (fun W=>callsIn_wide (n:=0) |>.2 (CT t W))
   rcases jL t with hn | ⟨s,r,hn,rfl⟩
   ·have hk1:k<(bu text).length:=by
     have:=congrArg List.length hdr
     rw[eT t hn ht] at this
     simp at this
     omega
    have hk2:(bu text).length=k+1:=by
     have:=congrArg List.length hdr
     rw[eT t hn ht] at this
     simp at this
     omega
    have hline:d9 text k=t:=by
     unfold d9
     have:=congrArg List.head? hdr
     rw[eT t hn ht] at this
     simp[List.head?_drop] at this
     simp[List.getD_eq_getElem?_getD,this]
    have hi:=rA t hn
    have w1:ag wr (wr.setCell ⟨b,0,O⟩ (.string ⟨#[]⟩)) (fun x=>x=b):=(ag.refl _ _).put b 0 _ (.inl rfl)
    have b1:Bk (wr.setCell ⟨b,0,O⟩ (.string ⟨#[]⟩)) b 9 #[bs []]:=hbk.put 0 _
    have hj1:=hJ k _ _ hj w1
    obtain⟨fn,tmps,assign,body,hy,hR⟩:=hY k _ hk1 hj1 (by rintro x rfl;exact b1.lt)
    rw[hline] at hy
    unfold bs at hy
    gi_wp2
    refine⟨trivial,rfl,?_⟩
    refine(HI.out _).mono ?_
    rintro e w' ⟨rfl,rfl⟩
    rw[hi]
    gi_wp2
    refine⟨rfl,hR.mono ?_⟩
    rintro e W3 ⟨hh,(⟨rfl,hJ3⟩ | ⟨rfl,hJx3⟩)⟩
    ·gi_wp2
     have b3:Bk W3 b 9 #[bs []]:=(hh.2 b rfl).trans b1
     go_roundw
     case rel=>exact⟨k+1,[],by omega,by rw[List.drop_of_length_le (by omega)];rfl,by simp,b3,hJ3⟩
     case measure=>rw[ky b3,hbl];simp;omega
    ·gi_wp2
     refine bodyPost_ret (results_none rfl _ _ _) rfl ?_
     exact⟨⟨_,rfl⟩,.inr hJx3⟩
   ·have hk1:k<(bu text).length:=by
     have:=congrArg List.length hdr
     rw[ef s r hn] at this
     simp at this
     omega
    have hdr2:(bu text).drop (k+1)=bu r:=by
     have:=congrArg List.tail hdr
     rw[ef s r hn] at this
     simpa [List.tail_drop] using this
    have hline:d9 text k=s++[10]:=by
     unfold d9
     have:=congrArg List.head? hdr
     rw[ef s r hn] at this
     simp[List.head?_drop] at this
     simp[List.getD_eq_getElem?_getD,this]
    have hi:=oB s r hn
    have hi0:(0:Int)<=s.length:=by omega
    have hwr:wrap64 ((s.length:Int)+1)=(s.length:Int)+1:=by
     simp at hle
     unfold wrap64
     omega
    have hcut1:∀ w,(Instr.slice 9 (.string ⟨(s++10 :: r).toArray⟩) O (Z (I N ((s.length:Int)+1))) O).run Tryz.prog w=.ok (.string ⟨(s++[10]).toArray⟩) w:=fun w=>Cx s r w
    have hcut2:∀ w,(Instr.slice 9 (.string ⟨(s++10 :: r).toArray⟩) (Z (I N ((s.length:Int)+1))) O O).run Tryz.prog w=.ok (.string ⟨r.toArray⟩) w:=fun w=>Cy s r w
    gi_wp2
    refine⟨trivial,rfl,?_⟩
    refine(HI.out _).mono ?_
    rintro e w' ⟨rfl,rfl⟩
    rw[hi]
    gi_wp2
    gi_region
    have w0:ag wr (wr.setCell ⟨b,0,O⟩ (.string ⟨r.toArray⟩)) (fun x=>x=b):=(ag.refl _ _).put b 0 _ (.inl rfl)
    have w1:ag wr (wr.setCell ⟨b,0,O⟩ (.string ⟨r.toArray⟩)).drew (fun x=>x=b):=⟨w0.os,w0.tape,w0.output,w0.size,w0.block⟩
    clear w0
    have b1:Bk (wr.setCell ⟨b,0,O⟩ (.string ⟨r.toArray⟩)).drew b 9 #[bs r]:=hbk.put 0 (.string ⟨r.toArray⟩)
    generalize (wr.setCell ⟨b,0,O⟩ (.string ⟨r.toArray⟩)).drew=W2 at *
    have hj1:=hJ k _ _ hj w1
    obtain⟨fn,tmps,assign,body,hy,hR⟩:=hY k _ hk1 hj1 (by rintro x rfl;exact b1.lt)
    rw[hline] at hy
    unfold bs at hy
    gi_wp2
    refine⟨rfl,hR.mono ?_⟩
    rintro e W3 ⟨hh,(⟨rfl,hJ3⟩ | ⟨rfl,hJx3⟩)⟩
    ·gi_wp2
     have b3:Bk W3 b 9 #[bs r]:=(hh.2 b rfl).trans b1
     go_roundw
     case rel=>exact⟨k+1,r,by omega,hdr2,by simp at hle;omega,b3,hJ3⟩
     case measure=>rw[ky b3,hbl];simp;omega
    ·gi_wp2
     refine bodyPost_ret (results_none rfl _ _ _) rfl ?_
     exact⟨⟨_,rfl⟩,.inr hJx3⟩
theorem CS (s:List UInt8)(w:World):
 Calls Tryz.prog 94 #[bs s] w fun e w'=>e=.returned (.func (.func 136) #[] #[.pointer (Z ⟨w.heap.size,0,O⟩)])/\w'=w.alloc (R #[bs s] 9):=by
 unfold bs
 go_enter Tryz.func94,Tryz.ntmps94
 go_wp2
 go_ret
 exact⟨rfl,rfl⟩
theorem Di (s p:List UInt8)(hl:s.length<1000000)(w:World):
 Calls Tryz.prog 95 #[bs s,bs p] w fun e w'=>e=.returned (.tuple #[bs (Lib.trimSuffix s p),.bool (Lib.hasSuffix s p)])/\w=w':=
 (Any.strings_CutSuffix Tryz.lays104 ⟨s.toArray⟩ ⟨p.toArray⟩ w (by show s.toArray.size<=_;simp;omega)).mono fun _ _ ⟨he,hw⟩=>⟨he,hw.symm⟩
theorem lC (s:List UInt8)(c:UInt8):Lib.hasSuffix (s++[c]) [c]=T/\Lib.trimSuffix (s++[c]) [c]=s:=by
 have h:Lib.hasSuffix (s++[c]) [c]=T:=by
  unfold Lib.hasSuffix
  rw[List.isSuffixOf_iff_suffix]
  exact⟨s,rfl⟩
 refine⟨h,?_⟩
 unfold Lib.trimSuffix
 rw[if_pos h]
 simp
theorem pT {s:List UInt8}{c:UInt8}(h:∀ t,s≠t++[c]):Lib.hasSuffix s [c]=V/\Lib.trimSuffix s [c]=s:=by
 have h:Lib.hasSuffix s [c]=V:=by
  rw[Bool.eq_false_iff]
  intro e
  unfold Lib.hasSuffix at e
  rw[List.isSuffixOf_iff_suffix] at e
  obtain⟨t,ht⟩:=e
  exact h t ht.symm
 refine⟨h,?_⟩
 unfold Lib.trimSuffix
 rw[if_neg (by rw[h];simp)]
theorem Cu (s:List UInt8)(c:UInt8):(∃ t,s=t++[c])\/∀ t,s≠t++[c]:=by
 by_cases h:∃ t,s=t++[c]
 ·exact .inl h
 ·exact .inr fun t e=>h ⟨t,e⟩
end
section
open Go.ChangeShapes Go.WideShapes Go.ChangeAt Go.RowKit
theorem vU (l:List En)(t:Int)(k:Nat)(h:k<l.length):aB (l.take (k+1)) t=if l[k].th=t then l[k].kind else aB (l.take k) t:=by
 rw[py l k h,cK]
theorem xh (l:List En)(a:Option Addr)(cap:Nat)(t:Int)(w:World)(S:pR w a l)(hlen:l.length<=1000000000):
 Calls Tryz.prog 106 #[.slice a l.length cap,I N t] w fun e w'=>e=.returned (I N (aB l t))/\Below w.heap.size w w':=by
 have HS:=U (fun W (hW:Below w.heap.size w W)=>S.below hW)
 have HT:=U (fun k h=>vU l t k h)
 have HE:Hid (aB (l.take l.length) t=aB l t):=U (by rw[List.take_length])
 clear S
 go_enter Tryz.func106,Tryz.ntmps106
 go_wp2
 go_loopw [5,10] (fun n q wr=>∃ k:Nat,q=I N k/\n=I N (aB (l.take k) t)/\k<=l.length/\Below w.heap.size w wr) (fun _ q _=>l.length-(intOf q).toNat)
 case atStart=>exact⟨0,rfl,by simp[aB],Nat.zero_le _,K _ _⟩
 case round=>
  obtain⟨k,rfl,rfl,hk,hb⟩:=hrel
  by_cases hlt:k<l.length
  ·have hki:(k:Int)<l.length:=by omega
   obtain⟨b,off,rfl,hbl,c0,c1,c2⟩:=(HS.out wr hb).at_ (List.getElem?_eq_getElem hlt)
   have hHT:=HT.out k hlt
   have hb2:=hb.alloc (o:=R #[I N l[k].kind,I N l[k].th,I N l[k].now] 94) hb.size
   generalize l[k]=x at *
   obtain⟨xk,xt,xn⟩:=x
   simp only at c0 c1 c2 hb2 hHT
   by_cases hq:xt=t
   ·rw[if_pos hq] at hHT
    have HE2:=U hHT
    have q1:(xt==t)=T:=by simpa using hq
    clear hHT hq
    generalize aB (l.take k) t=m at *
    go_wp2
    go_roundw
    case rel=>exact⟨k+1,by go_num,by rw[HE2.out],by omega,hb2⟩
    case measure=>simp[intOf];omega
   ·rw[if_neg hq] at hHT
    have HE2:=U hHT
    have q1:(xt==t)=V:=by simpa using hq
    clear hHT hq
    generalize aB (l.take k) t=m at *
    go_wp2
    go_roundw
    case rel=>exact⟨k+1,by go_num,by rw[HE2.out],by omega,hb2⟩
    case measure=>simp[intOf];omega
  ·obtain rfl:k=l.length:=by omega
   rw[HE.out]
   go_wp2
   go_ret
   exact⟨rfl,hb⟩
theorem CA (l:List En)(a:Option Addr)(cap:Nat)(t:Int)(w:World)(S:pR w a l)(hlen:l.length<=1000000000):
 Calls Tryz.prog 145 #[.slice a l.length cap,I N t] w fun e w'=>e=.returned (I N (Ej (aB l t)))/\Below w.heap.size w w':=by
 have HL:=U (xh l a cap t w S hlen)
 generalize aB l t=k at *
 clear S
 by_cases h:k=1\/k=2\/k=3\/k=4\/k=5\/k=8\/k=9
 ·rcases h with rfl|rfl|rfl|rfl|rfl|rfl|rfl <;> (
   go_enter Tryz.func145,Tryz.ntmps145
   go_wp2_with fail
   refine HL.out.mono ?_
   rintro e y ⟨rfl,hy⟩
   go_wp2
   go_ret
   exact⟨rfl,hy⟩)
 ·have HE:Hid (Ej k=0):=U (by
   unfold Ej;repeat' split
   all_goals first | rfl | omega)
  have e1:(k==1)=V:=beq_eq_false_iff_ne.2 (by omega)
  have e2:(k==2)=V:=beq_eq_false_iff_ne.2 (by omega)
  have e3:(k==3)=V:=beq_eq_false_iff_ne.2 (by omega)
  have e4:(k==4)=V:=beq_eq_false_iff_ne.2 (by omega)
  have e5:(k==5)=V:=beq_eq_false_iff_ne.2 (by omega)
  have e8:(k==8)=V:=beq_eq_false_iff_ne.2 (by omega)
  have e9:(k==9)=V:=beq_eq_false_iff_ne.2 (by omega)
  clear h
  generalize Ej k=r at *
  go_enter Tryz.func145,Tryz.ntmps145
  go_wp2_with fail
  refine HL.out.mono ?_
  rintro e y ⟨rfl,hy⟩
  go_wp2
  go_ret
  exact⟨by rw[HE.out];rfl,hy⟩
theorem pR.behind {w:World}{b off:Nat}{l:List En}(h:pR w (Z ⟨b,off,O⟩) l)(k:Nat):pR w (Z ⟨b,off+k*3,O⟩) (l.drop k):=by
 intro h0
 rw[List.length_drop] at h0
 obtain⟨b2,off2,e,hlt,hc⟩:=h (by omega)
 simp only[Option.some.injEq,Addr.mk.injEq,and_true] at e
 obtain⟨rfl,rfl⟩:=e
 refine⟨b,off+k*3,rfl,hlt,fun i x hi j hj=>?_⟩
 rw[List.getElem?_drop] at hi
 rw[<-hc _ x hi j hj]
 congr 2
 omega
theorem pR.from_ {w:World}{b off cap:Nat}{l:List En}(h:pR w (Z ⟨b,off,O⟩) l)(k:Nat)(hp:l.length<=cap):pR w (if cap=k then Z ⟨b,off,O⟩ else Z ⟨b,off+k*3,O⟩) (l.drop k):=by
 split
 ·rw[List.drop_of_length_le (by omega)]
  exact pR.nil _ _
 ·exact h.behind k
theorem sL (l:List En)(k:Nat):(List.range (k+1)).filterMap (se l)=(List.range k).filterMap (se l)++(match se l k with
 | some t=>[t]
 | none=>[]):=by
 rw[List.range_succ,List.filterMap_append]
 congr 1
 cases h:se l k <;> simp[h]
theorem vx (l:List En)(k:Nat):((List.range k).filterMap (se l)).length<=k:=Nat.le_trans (List.length_filterMap_le _ _) (by simp)
theorem CD (l:List En)(a:Option Addr)(cap:Nat)(w:World)(S:pR w a l)(hp:l.length<=cap)(hcm:cap<=maxLen)(hlen:l.length<=1000000000):
 Calls Tryz.prog 107 #[.slice a l.length cap] w fun e w'=>∃ v,e=.returned v/\dQ .i64 3 w' v (fS l)/\(∀ g,v.ownBlock=Z g->w.heap.size<=g)/\Below w.heap.size w w':=by
 have HS:=U (fun W (hW:Below w.heap.size w W)=>S.below hW)
 have HQ:=U (sL l)
 have HL:=U (fun k=>vx l k)
 have HE:Hid ((List.range l.length).filterMap (se l)=fS l):=U rfl
 have HLa:=U (fun t W (hW:Below w.heap.size w W)=>xh l a cap t W (S.below hW) hlen)
 simp only[maxLen] at hcm
 clear S
 go_enter Tryz.func107,Tryz.ntmps107
 go_wp2
 go_loopw [3,8] (fun o q wr=>∃ k:Nat,q=I N k/\dQ .i64 3 wr o ((List.range k).filterMap (se l))/\Hid (∀ g,o.ownBlock=Z g->w.heap.size<=g)/\k<=l.length/\Below w.heap.size w wr) (fun _ q _=>l.length-(intOf q).toNat)
 case atStart=>exact⟨0,rfl,dQ.nil _ _ _,U (fun g e=>by cases e),Nat.zero_le _,K _ _⟩
 case round=>
  obtain⟨k,rfl,hO,HB,hk,hb⟩:=hrel
  by_cases hlt:k<l.length
  ·have hki:(k:Int)<l.length:=by omega
   have hS:=HS.out wr hb
   obtain⟨b,off,rfl,hbl,c0,c1,c2⟩:=hS.at_ (List.getElem?_eq_getElem hlt)
   have hNb:=Nb.made 94 wr l[k].kind l[k].th l[k].now
   have hb2:=hb.alloc (o:=R #[I N l[k].kind,I N l[k].th,I N l[k].now] 94) hb.size
   have HQk:Hid (se l k=if l[k].kind=2/\aB l l[k].th=2/\aB (l.drop (k+1)) l[k].th=0 then Z l[k].th else O):=U (by unfold se;rw[List.getElem?_eq_getElem hlt])
   generalize l[k]=x at *
   obtain⟨xk,xt,xn⟩:=x
   simp only at c0 c1 c2 hb2 hNb HQk
   go_upto_region 5 with fail
   have HLk:Hid (((List.range k).filterMap (se l)).length<=1000000000):=U (by have:=HL.out k;omega)
   have HQ2:=U (HQ.out k)
   have hO2:=hO.alloc (R #[I N xk,I N xt,I N xn] 94)
   have HL1:Hid (∀ g:gg (wr.alloc (R #[I N xk,I N xt,I N xn] 94)),Calls Tryz.prog 106 #[.slice (Z ⟨b,off,O⟩) l.length cap,I N xt] g.x fun e y=>e=.returned (I N (aB l xt))/\Below g.x.heap.size g.x y):=U (fun g=>HLa.out xt g.x (hb2.trans (g.ok.mono hb2.size)))
   have HL2:Hid (∀ g:gg (wr.alloc (R #[I N xk,I N xt,I N xn] 94)),Calls Tryz.prog 106 #[.slice (if cap=k+1 then Z ⟨b,off,O⟩ else Z ⟨b,off+(k+1)*3,O⟩) (l.length-(k+1)) (cap-(k+1)),I N xt] g.x fun e y=>e=.returned (I N (aB (l.drop (k+1)) xt))/\Below g.x.heap.size g.x y):=U (fun g=>by
    have:=xh (l.drop (k+1)) (if cap=k+1 then Z ⟨b,off,O⟩ else Z ⟨b,off+(k+1)*3,O⟩) (cap-(k+1)) xt g.x (((HS.out _ hb2).from_ (k+1) hp).below ((g.ok))) (by rw[List.length_drop];omega)
    rwa [List.length_drop] at this)
   generalize aB l xt=la at *
   generalize aB (l.drop (k+1)) xt=lb at *
   generalize hz:wr.alloc (R #[I N xk,I N xt,I N xn] 94)=z at *
   generalize wr.heap.size=p at *
   obtain⟨e0,e1,e2⟩:=hNb.cells
   simp only at e0 e1 e2
   have g0:∀ g:gg z,g.x.cell? ⟨p,0,O⟩=Z (I N xk):=fun g=>g.cell e0
   have g1:∀ g:gg z,g.x.cell? ⟨p,1,O⟩=Z (I N xt):=fun g=>g.cell e1
   have hkc:((k:Int)+1)<=(cap:Int):=by omega
   have hkl2:k+1<=l.length:=by omega
   clear hO hb hS c0 c1 c2 hNb e0 e1 e2 hz
   by_cases h2:xk=2
   ·have q2:(xk==2)=T:=by simpa using h2
    by_cases hla:la=2
    ·have q3:(la==2)=T:=by simpa using hla
     by_cases hlb:lb=0
     ·have q4:(lb==0)=T:=by simpa using hlb
      have HSk:Hid ((List.range (k+1)).filterMap (se l)=(List.range k).filterMap (se l)++[xt]):=U (by rw[HQ2.out,HQk.out,if_pos (by omega)])
      clear HQ HQ2 HQk h2 hla hlb HL
      refine ap (by kernel_rfl) (by kernel_rfl) ?_
      repeat (go_big_quiet_step (first | (go_at_call 106;with_reducible exact ao (HL1.out _)) | (go_at_call 106;with_reducible exact ao (HL2.out _))))
      refine wpQuiet_nil ?_
      rintro y ⟨⟨_,hy⟩,rfl⟩
      have HY:=U (hb2.trans (hy.mono hb2.size))
      have hO3:=hO2.within (af hy) (by simp)
      have e1y:y.cell? ⟨p,1,O⟩=Z (I N xt):=g1 ⟨y,hy⟩
      have HO:=U hO3
      clear HL1 HL2 g0 g1 hb2 hO2 hO3
      generalize (List.range k).filterMap (se l)=qs at *
      go_wp2_with (at_builtin;refine uW rfl _ _ 26 rfl 8 Tryz.underlying26 jT (by omega) HO.out rfl xt rfl (by have:=HLk.out;omega) ?_;intro v' w' hown hgr hloc)
      have hfin:Below w.heap.size w w':=HY.out.grown hgr HY.out.size HB.out
      have HB2:Hid (∀ g,v'.ownBlock=Z g->w.heap.size<=g):=U (fun g e=>by
       rcases hloc with e2 | e2
       ·exact HB.out g (by rw[<-e2];exact e)
       ·rw[e2] at e;injection e with e;have:=HY.out.size;omega)
      rw[<-HSk.out] at hown
      clear hgr hloc HB HO HSk
      go_roundw
      case rel=>exact⟨k+1,by go_num,hown,HB2,by omega,hfin⟩
      case measure=>simp[intOf];omega
     ·have q4:(lb==0)=V:=by simpa using hlb
      have HSk:Hid ((List.range (k+1)).filterMap (se l)=(List.range k).filterMap (se l)):=U (by rw[HQ2.out,HQk.out,if_neg (by omega)];simp)
      clear HQ HQ2 HQk h2 hla hlb HL
      refine ap (by kernel_rfl) (by kernel_rfl) ?_
      repeat (go_big_quiet_step (first | (go_at_call 106;with_reducible exact ao (HL1.out _)) | (go_at_call 106;with_reducible exact ao (HL2.out _))))
      refine wpQuiet_nil ?_
      rintro y ⟨⟨_,hy⟩,rfl⟩
      have HY:=U (hb2.trans (hy.mono hb2.size))
      have hO3:=hO2.within (af hy) (by simp)
      rw[<-HSk.out] at hO3
      clear HL1 HL2 g0 g1 hb2 hO2 hy
      go_wp2
      go_roundw
      case rel=>exact⟨k+1,by go_num,hO3,HB,by omega,HY.out⟩
      case measure=>simp[intOf];omega
    ·have q3:(la==2)=V:=by simpa using hla
     have HSk:Hid ((List.range (k+1)).filterMap (se l)=(List.range k).filterMap (se l)):=U (by rw[HQ2.out,HQk.out,if_neg (by omega)];simp)
     clear HQ HQ2 HQk h2 hla HL
     refine ap (by kernel_rfl) (by kernel_rfl) ?_
     repeat (go_big_quiet_step (first | (go_at_call 106;with_reducible exact ao (HL1.out _)) | (go_at_call 106;with_reducible exact ao (HL2.out _))))
     refine wpQuiet_nil ?_
     rintro y ⟨⟨_,hy⟩,rfl⟩
     have HY:=U (hb2.trans (hy.mono hb2.size))
     have hO3:=hO2.within (af hy) (by simp)
     rw[<-HSk.out] at hO3
     clear HL1 HL2 g0 g1 hb2 hO2 hy
     go_wp2
     go_roundw
     case rel=>exact⟨k+1,by go_num,hO3,HB,by omega,HY.out⟩
     case measure=>simp[intOf];omega
   ·have q2:(xk==2)=V:=by simpa using h2
    have HSk:Hid ((List.range (k+1)).filterMap (se l)=(List.range k).filterMap (se l)):=U (by rw[HQ2.out,HQk.out,if_neg (by omega)];simp)
    clear HQ HQ2 HQk h2 HL
    refine ap (by kernel_rfl) (by kernel_rfl) ?_
    repeat (go_big_quiet_step (first | (go_at_call 106;with_reducible exact ao (HL1.out _)) | (go_at_call 106;with_reducible exact ao (HL2.out _))))
    refine wpQuiet_nil ?_
    rintro y ⟨⟨_,hy⟩,rfl⟩
    have HY:=U (hb2.trans (hy.mono hb2.size))
    have hO3:=hO2.within (af hy) (by simp)
    rw[<-HSk.out] at hO3
    clear HL1 HL2 g0 g1 hb2 hO2 hy
    go_wp2
    go_roundw
    case rel=>exact⟨k+1,by go_num,hO3,HB,by omega,HY.out⟩
    case measure=>simp[intOf];omega
  ·obtain rfl:k=l.length:=by omega
   rw[HE.out] at hO
   go_wp2
   go_ret
   exact⟨_,rfl,hO,HB.out,hb⟩
theorem sR {l:List En}{j:Nat}(hj:j<l.length)(h:cH (aB l l[j].th)=T)(hn:∀ m (hm:m<l.length),j<m->cH (aB l l[m].th)=V):eR l=l[j].th:=by
 unfold eR
 have:l.reverse.find? (fun x=>cH (aB l x.th))=Z l[j]:=by
  rw[List.find?_eq_some_iff_getElem]
  refine⟨h,l.length-1-j,by simp;omega,?_,fun i hi=>?_⟩
  ·rw[List.getElem_reverse];congr 1;omega
  ·rw[List.getElem_reverse]
   have:=hn (l.length-1-i) (by omega) (by omega)
   rw[this];rfl
 rw[this]
theorem sQ {l:List En}(hn:∀ m (hm:m<l.length),cH (aB l l[m].th)=V):eR l=-1:=by
 unfold eR
 have:l.reverse.find? (fun x=>cH (aB l x.th))=O:=by
  rw[List.find?_eq_none]
  intro x hx
  rw[List.mem_reverse] at hx
  obtain⟨m,hm,rfl⟩:=List.getElem_of_mem hx
  rw[hn m hm];simp
 rw[this]
theorem CE (l:List En)(a:Option Addr)(cap:Nat)(w:World)(S:pR w a l)(hlen:l.length<=1000000000):
 Calls Tryz.prog 108 #[.slice a l.length cap] w fun e w'=>e=.returned (I N (eR l))/\Below w.heap.size w w':=by
 have HS:=U (fun W (hW:Below w.heap.size w W)=>S.below hW)
 have HSt:=U (fun t W (hW:Below w.heap.size w W)=>CA l a cap t W (S.below hW) hlen)
 have HN:Hid ((∀ m (hm:m<l.length),cH (aB l l[m].th)=V)->eR l=-1):=U sQ
 have HH:Hid (∀ j (hj:j<l.length),cH (aB l l[j].th)=T->(∀ m (hm:m<l.length),j<m->cH (aB l l[m].th)=V)->eR l=l[j].th):=U (fun j hj h1 h2=>sR hj h1 h2)
 generalize eR l=res at *
 clear S
 go_enter Tryz.func108,Tryz.ntmps108
 go_wp2
 go_loopw [3] (fun q wr=>∃ k:Nat,q=I N ((k:Int)-1)/\k<=l.length/\Below w.heap.size w wr/\Hid (∀ m (hm:m<l.length),k<=m->cH (aB l l[m].th)=V)) (fun q _=>(intOf q+1).toNat)
 case atStart=>exact⟨l.length,rfl,Nat.le_refl _,K _ _,U (fun m hm h=>by omega)⟩
 case round=>
  obtain⟨k,rfl,hk,hb,HB⟩:=hrel
  cases k with
  | zero=>
   have HR:=U (HN.out (fun m hm=>HB.out m hm (Nat.zero_le _)))
   clear HB HN HH HS HSt
   go_wp2
   go_ret
   exact⟨by rw[HR.out];rfl,hb⟩
  | succ j=>
   have hj:j<l.length:=by omega
   have ej:(((j+1:Nat):Int)-1)=(j:Int):=by omega
   rw[ej]
   have hge:((j:Int)>=0):=by omega
   have hji:(j:Int)<l.length:=by omega
   have hS:=HS.out wr hb
   obtain⟨b,off,rfl,hbl,c0,c1,c2⟩:=hS.at_ (List.getElem?_eq_getElem hj)
   have HSj:=U (HSt.out l[j].th wr hb)
   have HHj:=U (HH.out j hj)
   have HBj:Hid (cH (aB l l[j].th)=V->∀ m (hm:m<l.length),j<=m->cH (aB l l[m].th)=V):=U (fun e m hm h=>by
    by_cases e2:m=j
    ·subst e2;exact e
    ·exact HB.out m hm (by omega))
   rw[<-Ap] at HHj HBj
   generalize aB l l[j].th=la at *
   generalize Ej la=s at *
   have hS2:Hid (∀ y,Below wr.heap.size wr y->y.cell? ⟨b,off+j*3+1,O⟩=Z (I N l[j].th)):=U (fun y hy=>(hy.cell (p:=⟨b,off+j*3+1,O⟩) hbl).trans c1)
   generalize l[j]=x at *
   obtain⟨xk,xt,xn⟩:=x
   simp only at c0 c1 c2 HSj HHj hS2
   clear HH HN HS HSt hS c0 c2 ej hge
   by_cases hs:s=3\/s=4\/s=6
   ·have HR:=U (HHj.out (by rcases hs with rfl|rfl|rfl <;> decide) (fun m hm h=>HB.out m hm (by omega)))
    clear HHj HBj HB
    rcases hs with rfl|rfl|rfl <;> (
     go_wp2_with fail
     refine HSj.out.mono ?_
     rintro e y ⟨rfl,hy⟩
     have hfin:=hb.trans (hy.mono hb.size)
     have c1y:=hS2.out y hy
     clear HSj hS2 hb hy
     go_wp2
     go_ret
     exact⟨by rw[HR.out];rfl,hfin⟩)
   ·have e3:(s==3)=V:=beq_eq_false_iff_ne.2 (by omega)
    have e4:(s==4)=V:=beq_eq_false_iff_ne.2 (by omega)
    have e6:(s==6)=V:=beq_eq_false_iff_ne.2 (by omega)
    have HB2:=U (HBj.out (by unfold Dg;simp;omega))
    clear HHj HBj HB hs
    go_wp2_with fail
    refine HSj.out.mono ?_
    rintro e y ⟨rfl,hy⟩
    have hfin:=hb.trans (hy.mono hb.size)
    clear HSj hS2 hb hy
    go_wp2
    go_roundw
    case rel=>exact⟨j,by go_num,by omega,hfin,HB2⟩
    case measure=>simp[intOf]
end
