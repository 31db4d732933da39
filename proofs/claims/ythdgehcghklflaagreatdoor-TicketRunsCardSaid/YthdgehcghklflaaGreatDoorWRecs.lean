import Derived.Test.YthdgehcghklflaaGreatDoorWMem
import Derived.ProofKit
import Derived.OpenShut
import Derived.Deep.Fields
import Derived.Deep.Slices
import Derived.ChangeSame
import Derived.Test.YthdgehcghklflaaGreatDoorProg
import Derived.Lib.Hide
import Derived.WalkKit
import Derived.WalkLawsBesides
import Derived.Lib.ItoaNum
import Derived.Lib.Strings
import Derived.Deep.RegionLaw
import Derived.Laws.IdiomStrings
import Derived.Laws.BitsAllLaws
import Derived.Test.YthdgehcghklflaaGreatDoorShelf
import Derived.Lib.AtoiErrMem
import Derived.Lib.AtoiAll
import Derived.Test.YthdgehcghklflaaGreatDoorRows
import Derived.ArgAppend
import Derived.Deep.RegionLawGrows
import Derived.Deep.RegionHeld3
import Derived.Deep.Onto
import Derived.Lib.SmallJoins
import Derived.Lib.IndexMore
import Derived.BigRegionIn
set_option linter.unusedVariables false
set_option maxHeartbeats 1000000
set_option maxRecDepth 100000
open Go.Value renaming int->O,slice->C,pointer->M
open Go.IntKind renaming i64->Z
open Option renaming none->V,some->T
open Bool renaming false->U,true->G
open Go.Lib renaming hid->A
open Go.RowKit.Below renaming refl->X
open Nat renaming le_refl->Y
namespace Go.Proofs.YthdgehcghklflaaGreatDoor
section
open Go.ChangeShapes Go.WideShapes Go.ChangeAt Go.RowKit Go.Deep
def Bu (w:World)(a:Option Addr)(len S:Nat)(what:Nat->Value->Prop):Prop:=
 0<len->∃ b off,a=T ⟨b,off,V⟩/\b<w.heap.size/\∀ i,i<len->∀ j,j<S->∃ u,w.cell? ⟨b,off+i*S+j,V⟩=T u/\what j u
theorem Bu.at_ {w:World}{a:Option Addr}{len S:Nat}{what:Nat->Value->Prop}(h:Bu w a len S what){i:Nat}(hi:i<len){wr:World}(hb:Below w.heap.size w wr):
 ∃ b off,a=T ⟨b,off,V⟩/\∀ j,j<S->∃ u,wr.cell? ⟨b,off+i*S+j,V⟩=T u/\what j u:=by
 obtain⟨b,off,e,hlt,hc⟩:=h (by omega)
 refine⟨b,off,e,fun j hj=>?_⟩
 obtain⟨u,hu,hw⟩:=hc i hi j hj
 exact⟨u,(hb.cell (p:=⟨b,off+i*S+j,V⟩) hlt).trans hu,hw⟩
section
variable {H:Type}{enc:TypeId×Value->H}{P:Program}{w:World}{base:Nat}{spare:Nat->Bool}{held:Bool}
theorem lx {e:TypeId}{ds:List (DataW H)}{d:DataW H}(h:d∈ds):∀ q∈d.weights P e,q∈DataW.weightsAll P e ds:=by
 intro q hq
 induction ds with
 | nil=>simp at h
 | cons d' r ih=>
  simp only[DataW.weightsAll,List.mem_append]
  rcases List.mem_cons.1 h with rfl | h
  ·exact .inl hq
  ·exact .inr (ih h)
theorem kS {ts:List TypeId}{ds:List (DataW H)}{j:Nat}{t:TypeId}{d:DataW H}(ht:ts[j]?=T t)(hd:ds[j]?=T d):∀ q∈d.weights P t,q∈DataW.weightsEach P ts ds:=by
 intro q hq
 induction ts generalizing ds j with
 | nil=>simp at ht
 | cons t0 ts ih=>
  cases ds with
  | nil=>simp at hd
  | cons d0 ds=>
   simp only[DataW.weightsEach,List.mem_append]
   cases j with
   | zero=>
    simp only[List.getElem?_cons_zero,Option.some.injEq] at ht hd
    subst ht;subst hd
    exact .inl hq
   | succ j=>exact .inr (ih (by simpa using ht) (by simpa using hd))
theorem qk {t e:TypeId}{fs:Array Field}{fuel:Nat}{a:Option Addr}{len cap:Nat}{x:DataW H×List MemPlace}(ht:P.underlying t=T (.slice e))(he:P.underlying e=T (.struct fs))
 (hone:oneCellFields P fs=G) (hC:P.cellsOf e=fs.size) (h0:0<fs.size) (h:DataW.trod enc P w base spare held fuel t [C a len cap]=T x):
 len<=maxLen/\Bu w a len fs.size (fun j u=>∀ f,fs[j]?=T f->∃ n y,DataW.trod enc P w base spare held n f.type [u]=T y/\∀ q∈y.1.weights P f.type,q∈x.1.weights P t):=by
 rcases open_slice ht h with ⟨hcs,_⟩ | ⟨ad,l,c,m,n,D,Pl,hcs,_,hl,hm,hmm,hX,hx⟩
 ·simp only[List.cons.injEq,Value.slice.injEq,and_true] at hcs
  obtain⟨rfl,rfl,rfl⟩:=hcs
  exact⟨by simp,fun hh=>absurd hh (by omega)⟩
 ·simp only[List.cons.injEq,Value.slice.injEq,and_true] at hcs
  obtain⟨rfl,rfl,rfl⟩:=hcs
  refine⟨by omega,fun hlen=>?_⟩
  have hml:len<=m:=by rw[hmm];split <;> omega
  have hcell:∀ i,i<len->∀ j,j<fs.size->∃ u,w.cell? (ad.add (i*fs.size+j))=T u/\∀ f,fs[j]?=T f->∃ n y,DataW.trod enc P w base spare held n f.type [u]=T y/\∀ q∈y.1.weights P f.type,q∈x.1.weights P t:=by
   intro i hi j hj
   obtain⟨cs',hc,ht'⟩:=hx i (by omega)
   rw[hC] at hc
   obtain⟨ys,n',_,hys,hlen',hyl,hf⟩:=DataW.trod_struct he ht'
   obtain⟨_,hcl,hat⟩:=World.cells?_some hc
   have hjc:j<cs'.length:=by omega
   refine⟨cs'[j],?_,fun f hj'=>?_⟩
   ·have:=hat j hj
    rw[Go.Deep.add_add] at this
    rw[this,List.getElem?_eq_getElem hjc]
   ·obtain⟨ho,hk⟩:=hone_of hone j f hj'
    have h1:=hf j f hj'
    rw[ho,hk,List.drop_eq_getElem_cons hjc] at h1
    have hyj:j<ys.length:=by omega
    refine⟨n',_,h1.trans (List.getElem?_eq_getElem hyj),fun q hq=>?_⟩
    rw[hX]
    simp only[DataW.weights,ht,List.mem_cons,List.mem_append]
    right;left
    refine lx (d:=D i) (List.mem_map.2 ⟨i,List.mem_range.2 hi,rfl⟩) q ?_
    have hD:D i=.agg (ys.map (·.1)):=by injection hys
    rw[hD]
    simp only[DataW.weights,he]
    refine kS (j:=j) (t:=f.type) (d:=ys[j].1) ?_ ?_ q hq
    ·rw[List.getElem?_map,Array.getElem?_toList,hj'];rfl
    ·rw[List.getElem?_map,List.getElem?_eq_getElem hyj];rfl
  obtain⟨u0,hu0,_⟩:=hcell 0 hlen 0 h0
  have e0:ad.add (0*fs.size+0)=ad:=by unfold Addr.add;simp
  rw[e0] at hu0
  obtain⟨_,_,_,_,hsp⟩:=World.shape?_of_cell? hu0
  obtain⟨b,off,sp⟩:=ad
  simp only at hsp
  subst hsp
  refine⟨b,off,rfl,World.block_lt_of_cell? w _ hu0,fun i hi j hj=>?_⟩
  obtain⟨u,hu,hw⟩:=hcell i hi j hj
  refine⟨u,?_,hw⟩
  have e1:(⟨b,off,V⟩:Addr).add (i*fs.size+j)=⟨b,off+i*fs.size+j,V⟩:=by
   rw[Nat.add_assoc];unfold Addr.add;split
   ·rename_i hz;rw[hz];rfl
   ·rfl
  rw[<-e1];exact hu
theorem uU {t e:TypeId}{fs:Array Field}{fuel:Nat}{a:Option Addr}{len cap:Nat}{x:DataW H×List MemPlace}(ht:P.underlying t=T (.slice e))(he:P.underlying e=T (.struct fs))
 (hone:oneCellFields P fs=G) (hC:P.cellsOf e=fs.size) (h0:0<fs.size) (h:DataW.trod enc P w base spare held fuel t [C a len cap]=T x):
 len<=maxLen/\Bu w a len fs.size (fun j u=>∀ f,fs[j]?=T f->∃ n y,DataW.trod enc P w base spare held n f.type [u]=T y):=by
 obtain⟨hl,hr⟩:=qk ht he hone hC h0 h
 refine⟨hl,fun h1=>?_⟩
 obtain⟨b,off,e,hlt,hc⟩:=hr h1
 refine⟨b,off,e,hlt,fun i hi j hj=>?_⟩
 obtain⟨u,hu,hw⟩:=hc i hi j hj
 exact⟨u,hu,fun f hf=>by obtain⟨n,y,hy,_⟩:=hw f hf;exact⟨n,y,hy⟩⟩
end
end
section
open Go.ChangeShapes Go.WideShapes Go.ChangeAt Go.RowKit
structure En where
 kind:Int
 th:Int
 now:Int
theorem En.ext {x y:En}(h1:x.kind=y.kind)(h2:x.th=y.th)(h3:x.now=y.now):x=y:=by cases x;cases y;simp_all
structure En.Wf (x:En):Prop where
 k0:-9223372036854775808<=x.kind
 k1:x.kind<=9223372036854775807
 t0:-9223372036854775808<=x.th
 t1:x.th<=9223372036854775807
 n0:-9223372036854775808<=x.now
 n1:x.now<=9223372036854775807
theorem uc {α:Type}{P:Nat->α->Prop}:∀ n:Nat,(∀ i,i<n->∃ x,P i x)->∃ l:List α,l.length=n/\∀ (k:Nat) x,l[k]?=T x->P k x
 | 0,_=>⟨[],rfl,by simp⟩
 | n+1,h=>by
  obtain⟨l,hl,hp⟩:=uc n fun i hi=>h i (by omega)
  obtain⟨x,hx⟩:=h n (by omega)
  refine⟨l++[x],by simp[hl],fun k y hk=>?_⟩
  by_cases hkn:k<n
  ·rw[List.getElem?_append_left (by omega)] at hk
   exact hp k y hk
  ·have hlt:=(List.getElem?_eq_some_iff.1 hk).1
   simp[hl] at hlt
   obtain rfl:k=n:=by omega
   rw[List.getElem?_append_right (by omega),hl,Nat.sub_self] at hk
   simp at hk
   subst hk
   exact hx
theorem av {w w':World}(h:Below w.heap.size w w'):ab w w' (fun _=>False):=⟨h.os,h.tape,h.output,h.size,fun i hi _=>h.block i hi⟩
def dB (y:World)(g:Nat)(a b c:Value):World:=((y.setCell ⟨g,0,V⟩ a).setCell ⟨g,1,V⟩ b).setCell ⟨g,2,V⟩ c
theorem dY {y:World}{g:Nat}{t:TypeId}{x0 x1 x2:Value}(h:Bk y g t #[x0,x1,x2])(a b c:Value):Bk (dB y g a b c) g t #[a,b,c]:=by
 have h8:=((h.put 0 a).put 1 b).put 2 c
 unfold dB
 simpa only[List.setIfInBounds_toArray,List.set_cons_zero,List.set_cons_succ] using h8
theorem bP {B:Nat}{w y:World}{g:Nat}(h:Below B w y)(hg:B<=g)(a b c:Value):Below B w (dB y g a b c):=((h.setCell hg _).setCell hg _).setCell hg _
def bs (l:List UInt8):Value:=.string ⟨l.toArray⟩
theorem eE (hs:List UInt8)(n:Nat)(h:n<hs.length)(w:World):(Instr.index 9 (.string ⟨hs.toArray⟩) (O Z n)).run Tryz.prog w=.ok (O .u8 ((hs.getD n 0).toNat:Int)) w:=by
 have hu:=Tryz.underlying9
 have h2:(n:Int)<(hs.length:Int):=by omega
 go_simp
 rfl
theorem cQ (a b:List UInt8):(⟨a.toArray⟩:ByteArray)++⟨b.toArray⟩=⟨(a++b).toArray⟩:=by
 apply ByteArray.ext
 simp
theorem iL (a b:List UInt8)(h:a.length+b.length<1000000)(w:World):(binOp .add 9 (.string ⟨a.toArray⟩) (.string ⟨b.toArray⟩)).run Tryz.prog w=.ok (.string ⟨(a++b).toArray⟩) w:=by
 have hu:=Tryz.underlying9
 go_simp
 rw[if_neg (by omega),cQ]
theorem bV {a b:List UInt8}(h:a=b):Ending.returned (.string ⟨a.toArray⟩)=.returned (bs b):=by rw[h];rfl
theorem m8 (n:Int)(h0:-9223372036854775808<=n)(h1:n<=9223372036854775807):(Lib.itoa n).length<=30:=by
 have key:∀ (m u:Nat),u<10 ^ (m+1)->(Lib.decDigits u).length<=m+1:=by
  intro m
  induction m with
  | zero=>intro u hu;rw[Lib.decDigits,dif_pos (by simpa using hu)];simp
  | succ m ih=>
   intro u hu
   rw[Lib.decDigits]
   by_cases h:u<10
   ·rw[dif_pos h];simp
   ·rw[dif_neg h]
    have h2:u / 10<10 ^ (m+1):=by
     rw[Nat.div_lt_iff_lt_mul (by decide)]
     rw[Nat.pow_succ] at hu
     exact hu
    have:=ih _ h2
    simp
    omega
 have e:(10:Nat) ^ (19+1)=100000000000000000000:=by decide
 unfold Lib.itoa
 split
 ·have:=key 19 n.natAbs (by rw[e];omega)
  simp;omega
 ·have:=key 19 n.toNat (by rw[e];omega)
  omega
theorem qB (W:World)(b:Nat)(c:UInt8)(h:W.cell? ⟨b,0,V⟩=T (O .u8 (c.toNat:Int))):
 (convert 272 9 (C (T ⟨b,0,V⟩) 1 1)).run Tryz.prog W=.ok (.string ⟨#[c]⟩) W:=
 run_convert_bytes_back W 272 9 5 ⟨b,0,V⟩ 1 [c] Tryz.underlying272 Tryz.underlying5 Tryz.underlying9 (fun j hj=>by
  simp only[List.length_cons,List.length_nil] at hj
  obtain rfl:j=0:=by omega
  have e:(⟨b,0,V⟩:Addr).add 0=⟨b,0,V⟩:=by unfold Addr.add;simp
  rw[e]
  exact h)
theorem ni (n:Nat)(h:n<5000000000000000):(Lib.decDigits n).length<=30:=by
 have:=m8 n (by omega) (by omega)
 unfold Lib.itoa at this
 rw[if_neg (by omega)] at this
 simpa using this
theorem D0:∀ (n:Nat) (w:World),n<5000000000000000->Calls Tryz.prog 164 #[O Z n] w fun e w'=>e=.returned (bs (Lib.decDigits n))/\Below w.heap.size w w':=by
 intro n
 induction n using Nat.strongRecOn with
 | _ n ih=>
  intro w hn
  by_cases h:n<10
  ·have E:=A (show Lib.decDigits n=[UInt8.ofNat (48+n)] by rw[Lib.decDigits,dif_pos h])
   clear ih
   have hi:(n:Int)<10:=by omega
   have hc:((UInt8.ofNat (48+n)).toNat:Int)=48+(n:Int):=by
    rw[UInt8.toNat_ofNat',Nat.mod_eq_of_lt (by omega)];omega
   have hcv:=qB (w.alloc (.cells #[O .u8 (48+(n:Int))] 5)) w.heap.size (UInt8.ofNat (48+n)) (by rw[hc];exact Bk.cell (Bk.made w _ _) 0)
   clear hc
   generalize UInt8.ofNat (48+n)=c at *
   go_enter Tryz.func164,Tryz.ntmps164
   go_wp2
   go_ret
   exact⟨by rw[E.out];rfl,(X _ _).alloc (Y _) _⟩
  ·have E:=A (show Lib.decDigits n=Lib.decDigits (n / 10)++[UInt8.ofNat (48+n % 10)] by rw[Lib.decDigits,dif_neg h])
   have hsz:¬ 9223372036854775807<(Lib.decDigits (n / 10)).length+1:=by have:=ni (n / 10) (by omega);omega
   have HI:=A (fun W=>ih (n / 10) (by omega) W (by omega))
   clear ih
   have hm:n % 10<10:=by omega
   have hl:=ni (n / 10) (by omega)
   have hc:((UInt8.ofNat (48+n % 10)).toNat:Int)=48+((n % 10:Nat):Int):=by
    rw[UInt8.toNat_ofNat',Nat.mod_eq_of_lt (by omega)];omega
   have hcv:∀ W b,W.cell? ⟨b,0,V⟩=T (O .u8 (48+((n % 10:Nat):Int)))->(convert 272 9 (C (T ⟨b,0,V⟩) 1 1)).run Tryz.prog W=.ok (.string ⟨#[UInt8.ofNat (48+n % 10)]⟩) W:=fun W b h=>qB W b _ (by rw[hc];exact h)
   have hd:¬ (n:Int)<10:=by omega
   have hcat:=cQ (Lib.decDigits (n / 10)) [UInt8.ofNat (48+n % 10)]
   have hq1:(n:Int) / 10=((n / 10:Nat):Int):=by omega
   have hq2:(n:Int) % 10=((n % 10:Nat):Int):=by omega
   have hq3:(n:Int).tmod 10=((n % 10:Nat):Int):=by rw[Int.tmod_eq_emod_of_nonneg (by omega)];omega
   have hw1:IntKind.i64.wrap ((n / 10:Nat):Int)=((n / 10:Nat):Int):=IntWalk.i64_in _ (by omega)
   have hw2:IntKind.i64.wrap ((n % 10:Nat):Int)=((n % 10:Nat):Int):=IntWalk.i64_in _ (by omega)
   have hw3:IntKind.i64.wrap (48+((n % 10:Nat):Int))=48+((n % 10:Nat):Int):=IntWalk.i64_in _ (by omega)
   have hw4:IntKind.u8.wrap (48+((n % 10:Nat):Int))=48+((n % 10:Nat):Int):=by simp[IntKind.wrap,IntKind.signed,IntKind.bits];omega
   clear hc
   generalize UInt8.ofNat (48+n % 10)=c at *
   generalize Lib.decDigits (n / 10)=l at *
   generalize hmm:n % 10=m at *
   generalize hqq:n / 10=q at *
   clear hmm hqq
   go_enter Tryz.func164,Tryz.ntmps164
   go_wp2
   go_region_law (first | (go_simp;go_at_call 164;refine(HI.out _).mono ?_;rintro e y ⟨rfl,hy⟩;have hcy:∀ b o,b<_->y.cell? ⟨b,o,V⟩=_:=fun b o h=>hy.cell (p:=⟨b,o,V⟩) h;unfold bs))
   all_goals
    clear hq1 hq2 hq3 hw1 hw2 hw3 hw4 hcv
    go_wp2
    go_ret
    refine⟨by rw[E.out];rfl,?_⟩
    first | exact(((X _ _).alloc (Y _) _).drew).trans (hy.mono (by simp)) | exact(eX hy).alloc (eX hy).size _
theorem cF (n:Nat)(h:n<5000000000):(Lib.decDigits n).length<=30:=ni n (by omega)
theorem tT (n:Nat)(w:World)(h:n<5000000000):Calls Tryz.prog 164 #[O Z n] w fun e w'=>e=.returned (bs (Lib.decDigits n))/\Below w.heap.size w w':=D0 n w (by omega)
theorem aD (n:Nat):Lib.itoa (n:Int)=Lib.decDigits n:=by
 unfold Lib.itoa
 rw[if_neg (by omega)]
 rfl
theorem iT (n:Nat)(w:World)(h:n<5000000000):Calls Tryz.prog 164 #[O Z n] w fun e w'=>e=.returned (.string ⟨(Lib.decDigits n).toArray⟩)/\Below w.heap.size w w':=tT n w h
theorem bG (a b:List UInt8)(m n:Nat)(ha:a.length<=m)(hb:b.length<=n)(hm:m<=1000:=by decide)(hn:n<=1000:=by decide):
 ∃ z,z=a++b/\(⟨a.toArray⟩:ByteArray)++⟨b.toArray⟩=⟨z.toArray⟩/\¬ 9223372036854775807<a.length+b.length/\z.length<=m+n:=
 ⟨a++b,rfl,cQ a b,by omega,by simp;omega⟩
theorem mQ (s:List UInt8)(f i:Nat)(h:f<=i)(hi:i<=s.length)(w:World):(Instr.slice 9 (.string ⟨s.toArray⟩) (T (O Z f)) (T (O Z i)) V).run Tryz.prog w=.ok (.string ⟨((s.take i).drop f).toArray⟩) w:=by
 have hu:=Tryz.underlying9
 go_simp
 apply ByteArray.ext
 rw[ByteArray.data_extract]
 apply Array.ext'
 simp[List.drop_take]
def gD (P:Program)(K:Value->World->Prop):Result Next->Prop
 | .ok (.value v) W'=>K v W'
 | .ok .skip W'=>K undef W'
 | .ok (.enter f args) W'=>Calls P f args W' fun e W2=>∃ v,e=.returned v/\K v W2
 | _=>False
def db (P:Program)(ops:Array Oper)(K:Value->World->Prop)(o:Oper)(a:Act)(W:World):Prop:=
 if Region.wanted o (yielded ops a.tmps)=G then gD P K ((execOp a.eval o).run P W) else K undef W
theorem gm {P:Program}{ops:Array Oper}{F:Value->World->Prop}{K:Value->World->Prop}{o:Oper}{a:Act}{W:World}(h:cX P ops F o a W)(hK:∀ v W',F v W'->Below W.heap.size W W'->K v W'):db P ops K o a W:=by
 unfold cX at h
 unfold db
 by_cases hw:Region.wanted o (yielded ops a.tmps)=G
 ·rw[if_pos hw] at h ⊢
  generalize (execOp a.eval o).run P W=r at *
  cases r with
  | ok x W'=>
   cases x <;> simp only[i8,gD] at h ⊢
   ·exact hK _ _ h.1 h.2
   ·exact hK _ _ h.1 h.2
   ·exact h.mono fun e W2 ⟨v,he,h1,h2⟩=>⟨v,he,hK _ _ h1 h2⟩
  | halt x W'=>simp only[i8] at h
 ·rw[if_neg hw] at h ⊢
  exact hK _ _ h (X _ _)
theorem aO {P:Program}{ops:Array Oper}{K:Value->World->Prop}{o:Oper}{a:Act}{W:World}(hg:o.guard=V)(h:gD P K ((execOp a.eval o).run P W)):db P ops K o a W:=by
 unfold db
 rw[if_pos (by simp[Region.wanted,hg])]
 exact h
theorem gu {P:Program}{ops:Array Oper}{K K':Value->World->Prop}{o:Oper}{a:Act}{W:World}(h:db P ops K o a W)(hK:∀ v W',K v W'->K' v W'):db P ops K' o a W:=by
 unfold db at *
 by_cases hw:Region.wanted o (yielded ops a.tmps)=G
 ·rw[if_pos hw] at h ⊢
  generalize (execOp a.eval o).run P W=r at *
  cases r with
  | ok x W'=>
   cases x <;> simp only[gD] at h ⊢
   ·exact hK _ _ h
   ·exact hK _ _ h
   ·exact h.mono fun e W2 ⟨v,he,h1⟩=>⟨v,he,hK _ _ h1⟩
  | halt x W'=>simp only[gD] at h
 ·rw[if_neg hw] at h ⊢
  exact hK _ _ h
theorem fi {P:Program}{ops:Array Oper}{Q:Exit->Act->World->Prop}{id:Nat}{a:Act}{w:World}(hm:P.follows .mixedOrders=G)(hr:nB ops=G)(I:(Nat->Bool)->(Nat->Value)->World->Prop)
 (h0:I (fun _=>U) (fun _=>undef) w.drew)
 (hop:∀ i o,ops[i]?=T o->∀ (d:Nat->Bool) (vs:Nat->Value) W,I d vs W->d i=U->(∀ j∈bi ops i,d j=G)->db P ops (fun v W'=>I (fun j=>if j=i then G else d j) (fun j=>if j=i then v else vs j) W') o (aF ops a (fun _=>G) vs) W)
 (hend:∀ (d:Nat->Bool) (vs:Nat->Value) W,I d vs W->(∀ i,i<ops.size->d i=G)->Q .normal (aF ops a (fun _=>G) vs) W):(Code.region id ops G).wp P Q a w:=by
 have hR:∀ i o,ops[i]?=T o->rE o.op=G/\(∀ t∈o.looksAt ops,∀ j,fc ops t=T j->j∈bi ops i)/\(∀ x,o.dst=T x->fc ops x=T i)/\∀ j∈bi ops i,j<i:=by
  intro i o ho
  have hi:i<ops.size:=(Array.getElem?_eq_some_iff.1 ho).1
  unfold nB at hr
  have h:=List.all_eq_true.1 hr i (List.mem_range.2 hi)
  rw[ho] at h
  simp only[Bool.and_eq_true] at h
  refine⟨h.1.1.1,fun t ht j hj=>?_,fun x hx=>?_,fun j hj=>?_⟩
  ·have:=List.all_eq_true.1 h.1.1.2 t ht
   rw[hj] at this
   simpa using this
  ·have:=h.1.2
   rw[hx] at this
   simpa using this
  ·have:=List.all_eq_true.1 h.2 j hj
   simpa using this
 have hN:∀ t i o,ops[i]?=T o->fc ops t=T i->o.dst=T t:=by
  intro t i o ho h
  have:=List.find?_some h
  simp only[zr,ho,Option.bind_some,beq_iff_eq] at this
  exact this
 refine nt hm (fun listed a' W=>∃ vs:Nat->Value,listed.size=ops.size/\a'=aF ops a (fun i=>listed.getD i U) vs/\I (fun i=>listed.getD i U) vs W) ?_ ?_ ?_
 ·have e:(fun i=>(Array.replicate ops.size U).getD i U)=fun _=>U:=by
   funext i
   rw[Array.getD_eq_getD_getElem?,Array.getElem?_replicate]
   split <;> rfl
  refine⟨fun _=>undef,by simp,?_,?_⟩
  ·rw[e,mn]
  ·rw[e];exact h0
 ·rintro listed a' W i ⟨vs,hsz,rfl,hI⟩ hi
  have hfree:=gR hi
  have hready:=hi
  unfold Region.ready at hready
  rw[List.mem_filter,List.mem_range] at hready
  obtain⟨hlt,hc⟩:=hready
  simp only[Bool.and_eq_true] at hc
  have hc2:=hc.2
  have ho:ops[i]?=T ops[i]:=Array.getElem?_eq_getElem hlt
  rw[ho] at hc2
  simp only[Option.map_some,Option.getD_some] at hc2
  rw[<-Array.all_toList,List.all_eq_true] at hc2
  generalize ops[i]=o at *
  obtain⟨r1,r2,r3,r4⟩:=hR i o ho
  have hdep:∀ j∈bi ops i,listed.getD j U=G:=by
   intro j hj
   unfold bi at hj
   rw[ho] at hj
   simp only[List.mem_map,List.mem_filter] at hj
   obtain⟨e,⟨he,hb⟩,rfl⟩:=hj
   have:=hc2 e he
   simpa [hb] using this
  obtain⟨s1,s2⟩:=i3 ops a (fun i=>listed.getD i U) vs o r1 fun t ht j hj=>hdep j (r2 t ht j hj)
  have hif:listed.getD i U=U:=by
   rw[Array.getD_eq_getD_getElem?,<-Array.getElem?_toList,hfree];rfl
  have hl:=hop i o ho (fun i=>listed.getD i U) vs W hI hif hdep
  have eg:(fun j=>(listed.setIfInBounds i G).getD j U)=fun j=>if j=i then G else listed.getD j U:=by
   funext j
   rw[Array.getD_eq_getD_getElem?,Array.getElem?_setIfInBounds,Array.getD_eq_getD_getElem?]
   by_cases e:j=i
   ·subst e
    simp[hsz,hlt]
   ·rw[if_neg (fun e2=>e e2.symm),if_neg e]
  have next:∀ v W',I (fun j=>if j=i then G else listed.getD j U) (fun j=>if j=i then v else vs j) W'->∃ vs':Nat->Value,(listed.setIfInBounds i G).size=ops.size/\(aF ops a (fun i=>listed.getD i U) vs).put o.dst v=aF ops a (fun j=>(listed.setIfInBounds i G).getD j U) vs'/\I (fun j=>(listed.setIfInBounds i G).getD j U) vs' W':=by
   intro v W' hK
   refine⟨fun j=>if j=i then v else vs j,by simpa using hsz,?_,?_⟩
   ·rw[eg]
    exact oB ops a _ vs i o ho r3 (fun t ht=>hN t i o ho ht) hif v
   ·rw[eg];exact hK
  unfold wpOp
  rw[ho]
  simp only
  unfold db at hl
  rw[s2]
  by_cases hw:Region.wanted o (yielded ops (aF ops a (fun _=>G) vs).tmps)=G
  ·rw[if_pos hw] at hl ⊢
   refine .inl ?_
   unfold Oper.wp
   rw[s1]
   generalize (execOp (aF ops a (fun _=>G) vs).eval o).run P W=r at *
   cases r with
   | ok x W'=>
    cases x <;> simp only[gD] at hl
    ·rw[Oper.upon_value];exact next _ _ hl
    ·rw[Oper.upon_skip];exact next _ _ hl
    ·rw[Oper.upon_enter]
     refine hl.mono ?_
     rintro e W2 ⟨v,rfl,h1⟩
     exact next _ _ h1
   | halt x W'=>simp only[gD] at hl
  ·rw[if_neg hw] at hl ⊢
   exact next _ _ hl
 ·rintro listed a' W ⟨vs,hsz,rfl,hI⟩ he
  have hall:∀ n i,i<n->i<ops.size->listed.getD i U=G:=by
   intro n
   induction n with
   | zero=>intro i h;omega
   | succ n ih=>
    intro i h hi
    by_cases hin:i<n
    ·exact ih i hin hi
    ·obtain rfl:i=n:=by omega
     cases hl:listed.getD i U with
     | true=>rfl
     | false=>
      exfalso
      have hm2:i∈Region.ready .any ops listed:=by
       unfold Region.ready
       rw[List.mem_filter,List.mem_range]
       refine⟨hi,?_⟩
       have ho:ops[i]?=T ops[i]:=Array.getElem?_eq_getElem hi
       have hd:=(hR i _ ho).2.2.2
       rw[ho]
       simp only[Option.map_some,Option.getD_some,Bool.and_eq_true]
       constructor
       ·rw[Array.getD_eq_getD_getElem?] at hl ⊢
        rw[Array.getElem?_eq_getElem (by omega)] at hl ⊢
        simp at hl ⊢
        exact hl
       ·rw[<-Array.all_toList,List.all_eq_true]
        intro e he
        by_cases hb:Region.binds .any e=G
        ·have hmem:e.on∈bi ops i:=by
          unfold bi
          rw[ho]
          simp only[List.mem_map,List.mem_filter]
          exact⟨e,⟨he,hb⟩,rfl⟩
         have hlt:=hd _ hmem
         rw[ih e.on hlt (by omega)]
         simp
        ·simp[hb]
      rw[he] at hm2
      cases hm2
  have e:aF ops a (fun i=>listed.getD i U) vs=aF ops a (fun _=>G) vs:=by
   have key:(aF ops a (fun i=>listed.getD i U) vs).tmps=(aF ops a (fun _=>G) vs).tmps:=by
    apply Array.ext_getElem?
    intro t
    rw[fw,fw]
    cases h2:fc ops t with
    | none=>rfl
    | some i=>
     have hlt:i<ops.size:=List.mem_range.1 (List.mem_of_find?_eq_some h2)
     simp[hall (i+1) i (by omega) hlt]
   have e1:aF ops a (fun i=>listed.getD i U) vs=⟨(aF ops a (fun i=>listed.getD i U) vs).tmps,a.defers⟩:=rfl
   have e2:aF ops a (fun _=>G) vs=⟨(aF ops a (fun _=>G) vs).tmps,a.defers⟩:=rfl
   rw[e1,e2,key]
  rw[e]
  exact hend _ vs W hI fun i hi=>hall (i+1) i (by omega) hi
def pF (P:Program)(ops:Array Oper)(F:Nat->Value->World->Prop)(lit:(Nat->Value)->Act)(w:World)(sk:Nat->Bool):List Oper->Nat->Prop
 | [],_=>True
 | o :: rest,i=>(sk i=U->∀ (vs:Nat->Value) W,Below w.heap.size w W->(∀ j∈bi ops i,sk j=U->F j (vs j) W)->cX P ops (F i) o (lit vs) W)/\pF P ops F lit w sk rest (i+1)
theorem mo {P:Program}{ops:Array Oper}{F:Nat->Value->World->Prop}{lit:(Nat->Value)->Act}{w:World}{sk:Nat->Bool}:∀ (l:List Oper) (n:Nat),pF P ops F lit w sk l n->∀ i o,l[i]?=T o->sk (n+i)=U->∀ (vs:Nat->Value) W,Below w.heap.size w W->(∀ j∈bi ops (n+i),sk j=U->F j (vs j) W)->cX P ops (F (n+i)) o (lit vs) W
 | [],n,_,i,o,h=>by simp at h
 | x :: l,n,hx,0,o,h=>by
  simp at h
  subst h
  exact hx.1
 | x :: l,n,hx,i+1,o,h=>by
  have:=mo l (n+1) hx.2 i o (by simpa using h)
  rw[show n+1+i=n+(i+1) by omega] at this
  exact this
theorem iR {P:Program}{l:List Oper}{Q:Exit->Act->World->Prop}{id:Nat}{a:Act}{w:World}(na ns:Nat)(t:TypeId)(cs0:Array Value)(put:World->Nat->World)(done:World->Nat->Prop)(lit:(Nat->Value)->Act)(F:Nat->Value->World->Prop)
 (hm:P.follows .mixedOrders=G) (hr:nB l.toArray=G) (hns:(na != ns && (bi l.toArray ns).contains na)=G) (hlen:(decide (na<l.length) && decide (ns<l.length))=G) (hlit:∀ vs,aF l.toArray a (fun _=>G) vs=lit vs)
 (hst:∀ i v W W',F i v W->Below W.heap.size W W'->F i v W')
 (hst2:∀ i v W b,F i v W->Bk W b t cs0->F i v (put W b))
 (hd1:∀ W W' b,done W b->Below W.heap.size W W'->done W' b)
 (hbel:∀ W b,w.heap.size<=b->Below w.heap.size w W->Below w.heap.size w (put W b))
 (hdone:∀ W b,Bk W b t cs0->done (put W b) b)
 (hnew:∀ o,l[na]?=T o->∀ (vs:Nat->Value) W,Below w.heap.size w W->cX P l.toArray (fun v W'=>∃ b,v=M (T ⟨b,0,V⟩)/\w.heap.size<=b/\Bk W' b t cs0) o (lit vs) W)
 (hsto:∀ o,l[ns]?=T o->∀ (vs:Nat->Value) W b,Below w.heap.size w W->(∀ j∈bi l.toArray ns,(decide (j=na) || decide (j=ns))=U->F j (vs j) W)->vs na=M (T ⟨b,0,V⟩)->Bk W b t cs0->db P l.toArray (fun _ W'=>W'=put W b) o (lit vs) W)
 (hop:pF P l.toArray F lit w (fun j=>decide (j=na) || decide (j=ns)) l 0)
 (hend:∀ (vs:Nat->Value) W b,Below w.heap.size w W->(∀ i,i<l.length->(decide (i=na) || decide (i=ns))=U->F i (vs i) W)->vs na=M (T ⟨b,0,V⟩)->w.heap.size<=b->done W b->Q .normal (lit vs) W):(Code.region id l.toArray G).wp P Q a w:=by
 simp only[Bool.and_eq_true,bne_iff_ne,ne_eq,List.contains_iff_mem,decide_eq_true_eq] at hns hlen
 obtain⟨hne,hdn⟩:=hns
 refine fi hm hr (fun d vs W=>Below w.heap.size w W/\(∀ i,d i=G->(decide (i=na) || decide (i=ns))=U->F i (vs i) W)/\(d na=G->∃ b,vs na=M (T ⟨b,0,V⟩)/\w.heap.size<=b/\((d ns=U/\Bk W b t cs0)\/(d ns=G/\done W b)))/\(d ns=G->d na=G)) ?_ ?_ ?_
 ·exact⟨(X _ _).drew,(fun i h=>by cases h),(fun h=>by cases h),(fun h=>by cases h)⟩
 ·rintro i o ho d vs W ⟨hB,hF,hA,hS⟩ hdi hdep
  have ho':l[i]?=T o:=by simpa using ho
  rw[hlit]
  by_cases hina:i=na
  ·subst hina
   have hdns:d ns=U:=by
    cases e:d ns with
    | false=>rfl
    | true=>rw[hS e] at hdi;cases hdi
   refine gm (hnew o ho' vs W hB) ?_
   rintro v W' ⟨b,hv,hb,hk⟩ hbw
   dsimp only
   refine⟨hB.trans (hbw.mono hB.size),fun j hj hsk=>?_,fun _=>⟨b,by rw[if_pos rfl];exact hv,hb,.inl ⟨by rw[if_neg (fun e=>hne e.symm)];exact hdns,hk⟩⟩,fun _=>by rw[if_pos rfl]⟩
   have hji:j≠i:=fun e=>by subst e;simp at hsk
   rw[if_neg hji] at hj ⊢
   exact hst j _ _ _ (hF j hj hsk) hbw
  ·by_cases hins:i=ns
   ·subst hins
    have hdna:=hdep na hdn
    obtain⟨b,hv,hb,⟨_,hk⟩ | ⟨h,_⟩⟩:=hA hdna
    ·refine gu (hsto o ho' vs W b hB (fun j hj hsk=>hF j (hdep j hj) hsk) hv hk) ?_
     rintro v W' rfl
     dsimp only
     refine⟨hbel W b hb hB,fun j hj hsk=>?_,fun _=>⟨b,by rw[if_neg hne];exact hv,hb,.inr ⟨by rw[if_pos rfl],hdone W b hk⟩⟩,fun _=>by rw[if_neg hne];exact hdna⟩
     have hji:j≠i:=fun e=>by subst e;simp at hsk
     rw[if_neg hji] at hj ⊢
     exact hst2 j _ _ _ (hF j hj hsk) hk
    ·rw[hdi] at h;cases h
   ·have hsk0:(decide (i=na) || decide (i=ns))=U:=by simp[hina,hins]
    have:=mo l 0 hop i o ho' (by rw[Nat.zero_add];exact hsk0) vs W hB (by rw[Nat.zero_add];exact fun j hj hsk=>hF j (hdep j hj) hsk)
    rw[Nat.zero_add] at this
    refine gm this ?_
    intro v W' hv hbw
    dsimp only
    refine⟨hB.trans (hbw.mono hB.size),fun j hj hsk=>?_,fun h=>?_,fun h=>?_⟩
    ·by_cases e:j=i
     ·subst e;rw[if_pos rfl];exact hv
     ·rw[if_neg e] at hj ⊢
      exact hst j _ _ _ (hF j hj hsk) hbw
    ·rw[if_neg (fun e=>hina e.symm)] at h ⊢
     obtain⟨b,h1,h2,h3⟩:=hA h
     rw[if_neg (fun e=>hins e.symm)]
     refine⟨b,h1,h2,?_⟩
     rcases h3 with ⟨h3,h4⟩ | ⟨h3,h4⟩
     ·exact .inl ⟨h3,(hbw.block b h4.lt).trans h4⟩
     ·exact .inr ⟨h3,hd1 _ _ _ h4 hbw⟩
    ·rw[if_neg (fun e=>hins e.symm)] at h
     rw[if_neg (fun e=>hina e.symm)]
     exact hS h
 ·rintro d vs W ⟨hB,hF,hA,hS⟩ hall
  rw[hlit]
  obtain⟨b,h1,h2,⟨h3,_⟩ | ⟨_,h4⟩⟩:=hA (hall na (by simpa using hlen.1))
  ·rw[hall ns (by simpa using hlen.2)] at h3;cases h3
  ·exact hend vs W b hB (fun i hi hsk=>hF i (hall i (by simpa using hi)) hsk) h1 h2 h4
theorem gL {R:World->World->Prop}{ps:List (Nat×(Value->World->Prop))}{l:List Value}(h:∀ x∈ps,∀ v W W',x.2 v W->R W W'->x.2 v W'):∀ i v W W',lh ps l i v W->R W W'->lh ps l i v W':=by
 intro i v W W' hm hb
 unfold lh at *
 cases hl:ps.lookup i with
 | none=>rw[hl] at hm;exact hm
 | some p=>
  rw[hl] at hm
  have:(i,p)∈ps:=by
   clear hm h
   induction ps with
   | nil=>cases hl
   | cons x ps ih=>
    obtain⟨k,q⟩:=x
    rw[List.lookup_cons] at hl
    by_cases e:i=k
    ·subst e;simp at hl;subst hl;exact List.mem_cons_self
    ·have e2:(i==k)=U:=by simpa using e
     rw[e2] at hl
     exact List.mem_cons_of_mem _ (ih hl)
  exact h _ this v W W' hm hb
theorem El (x:Int)(h0:0<=x)(h1:x<4294967296):bits .and .u32 x 4095=x % 4096:=by
 rw[u32_and x 4095 h0 h1 (by omega) (by omega),show (4095:Int).toNat=4095 from rfl,nat_mask12];omega
theorem E9 (g i:Int)(g0:0<=g)(g1:g<262144)(i0:0<=i)(i1:i<4096):bits .or .u32 (g*4096) i=g*4096+i:=by
 rw[u32_or _ _ (by omega) (by omega) (by omega) (by omega),nat_join 12 _ _ (by omega) (by omega)];omega
theorem yX (h:Int)(h0:0<=h)(h1:h<4294967296)(w:World):
 Calls Tryz.prog 124 #[O .u32 h] w fun e w'=>e=.returned (O Z (h % 4096))/\w=w':=by
 go_enter Tryz.func124,Tryz.ntmps124
 go_wp2
 go_ret
 exact⟨br (by rw[El h h0 h1,IntWalk.wrap64_in _ (by omega)]),rfl⟩
theorem Ec (i g:Int)(i0:0<=i)(i1:i<4096)(g0:0<=g)(g1:g<262144)(w:World):
 Calls Tryz.prog 149 #[O .u32 i,O .u32 g] w fun e w'=>e=.returned (O .u32 (g*4096+i))/\w=w':=by
 go_enter Tryz.func149,Tryz.ntmps149
 go_wp2
 go_ret
 exact⟨br (E9 g i g0 g1 i0 i1),rfl⟩
theorem xR (i g:Int)(i0:0<=i)(i1:i<4096)(g0:0<=g)(g1:g<262144)(w:World):
 Calls Tryz.prog 116 #[O Z i,O Z g] w fun e w'=>e=.returned (.tuple #[O .u32 (g*4096+i),O Z 0])/\w=w':=by
 go_enter Tryz.func116,Tryz.ntmps116
 go_wp2_with fail
 refine(Ec _ _ (by omega) (by omega) (by omega) (by omega) _).mono ?_
 rintro e w' ⟨rfl,rfl⟩
 go_wp2
 go_ret2
 exact⟨rfl,rfl⟩
theorem lO:(Tryz.prog.info? 3).map (fun i=>(i.zero,i.size,i.bytes))=T (T (O Z 0),1,8):=by kernel_rfl
def tD (ops:Array Oper)(st:List Nat)(i:Nat):Nat:=(st.filter fun s=>(bi ops i).contains s).length
def tH (ops:Array Oper)(st:List Nat)(i:Nat):Nat:=st.findIdx fun s=>(bi ops s).contains i
def ic (ops:Array Oper):List Nat->Bool
 | s :: t :: l=>(bi ops t).contains s && (decide (s<ops.size) && ic ops (t :: l))
 | [s]=>decide (s<ops.size)
 | []=>G
def ng (P:Program)(ops:Array Oper)(F:Nat->Value->World->Prop)(Wp:Nat->World->Prop)(Step:Nat->World->World->Prop)(lit:(Nat->Value)->Act)(st:List Nat):List Oper->Nat->Prop
 | [],_=>True
 | o :: l,i=>(match st.contains i with
  | true=>∀ (vs:Nat->Value) W,Wp (st.idxOf i) W->(∀ j∈bi ops i,F j (vs j) W)->db P ops (fun v W'=>F i v W'/\Wp (st.idxOf i+1) W'/\Step (st.idxOf i) W W') o (lit vs) W
  | false=>∀ (vs:Nat->Value) W k,tD ops st i<=k->k<=tH ops st i->Wp k W->(∀ j∈bi ops i,F j (vs j) W)->cX P ops (F i) o (lit vs) W)/\ng P ops F Wp Step lit st l (i+1)
theorem kO {P:Program}{ops:Array Oper}{F:Nat->Value->World->Prop}{Wp:Nat->World->Prop}{Step:Nat->World->World->Prop}{lit:(Nat->Value)->Act}{st:List Nat}:∀ (l:List Oper) (b i:Nat) (o:Oper),ng P ops F Wp Step lit st l b->l[i]?=T o->
 (st.contains (b+i)=G->∀ (vs:Nat->Value) W,Wp (st.idxOf (b+i)) W->(∀ j∈bi ops (b+i),F j (vs j) W)->db P ops (fun v W'=>F (b+i) v W'/\Wp (st.idxOf (b+i)+1) W'/\Step (st.idxOf (b+i)) W W') o (lit vs) W)/\
 (st.contains (b+i)=U->∀ (vs:Nat->Value) W k,tD ops st (b+i)<=k->k<=tH ops st (b+i)->Wp k W->(∀ j∈bi ops (b+i),F j (vs j) W)->cX P ops (F (b+i)) o (lit vs) W)
 | [],b,i,o,_,hi=>by simp at hi
 | x :: l,b,0,o,h,hi=>by
  simp only[List.getElem?_cons_zero,Option.some.injEq] at hi
  subst hi
  have h1:=h.1
  simp only[Nat.add_zero]
  constructor
  ·intro e;rw[e] at h1;exact h1
  ·intro e;rw[e] at h1;exact h1
 | x :: l,b,i+1,o,h,hi=>by
  have:=kO l (b+1) i o h.2 (by simpa using hi)
  rw[show b+1+i=b+(i+1) by omega] at this
  exact this
theorem kA {ops:Array Oper}:∀ (st:List Nat),ic ops st=G->∀ (j s t:Nat),st[j]?=T s->st[j+1]?=T t->s∈bi ops t
 | [],_,j,s,t,h,_=>by simp at h
 | [x],_,j,s,t,_,h=>by simp at h
 | x :: y :: l,h,0,s,t,h1,h2=>by
  simp at h1 h2
  subst h1;subst h2
  simp only[ic,Bool.and_eq_true] at h
  simpa using h.1
 | x :: y :: l,h,j+1,s,t,h1,h2=>by
  simp only[ic,Bool.and_eq_true] at h
  exact kA (y :: l) h.2.2 j s t (by simpa using h1) (by simpa using h2)
theorem kz {ops:Array Oper}:∀ (st:List Nat),ic ops st=G->∀ s∈st,s<ops.size
 | [],_,s,h=>by simp at h
 | [x],h,s,hs=>by simp at hs;subst hs;simpa [ic] using h
 | x :: y :: l,h,s,hs=>by
  simp only[ic,Bool.and_eq_true,decide_eq_true_eq] at h
  rcases List.mem_cons.1 hs with rfl | hs
  ·exact h.2.1
  ·exact kz (y :: l) h.2.2 s hs
theorem cN {P:Program}{l:List Oper}{Q:Exit->Act->World->Prop}{id:Nat}{a:Act}{w:World}(st:List Nat)(Wp:Nat->World->Prop)(Step:Nat->World->World->Prop)(lit:(Nat->Value)->Act)(F:Nat->Value->World->Prop)
 (hm:P.follows .mixedOrders=G) (hr:nB l.toArray=G) (hc:ic l.toArray st=G) (hnd:st.Nodup) (hlit:∀ vs,aF l.toArray a (fun _=>G) vs=lit vs)
 (h0:Wp 0 w)
 (hW:∀ k W W',Wp k W->Below W.heap.size W W'->Wp k W')
 (hF:∀ i v W W',F i v W->Below W.heap.size W W'->F i v W')
 (hS:∀ k W W',Wp k W->Step k W W'->∀ i v,F i v W->F i v W')
 (hop:ng P l.toArray F Wp Step lit st l 0)
 (hend:∀ (vs:Nat->Value) W,Wp st.length W->(∀ i,i<l.length->F i (vs i) W)->Q .normal (lit vs) W):(Code.region id l.toArray G).wp P Q a w:=by
 refine fi hm hr (fun d vs W=>∃ k,k<=st.length/\(∀ j s,st[j]?=T s->(d s=G↔j<k))/\(∀ i,d i=G->∀ j∈bi l.toArray i,d j=G)/\Wp k W/\∀ i,d i=G->F i (vs i) W) ?_ ?_ ?_
 ·exact⟨0,Nat.zero_le _,fun j s _=>by simp,(fun i h=>by cases h),hW 0 _ _ h0 (X _ _).drew,(fun i h=>by cases h)⟩
 ·rintro i o ho d vs W ⟨k,hk,hst,hcl,hWk,hFd⟩ hdi hdep
  have ho':l[i]?=T o:=by simpa using ho
  rw[hlit]
  obtain⟨e1,e2⟩:=kO l 0 i o hop ho'
  rw[Nat.zero_add] at e1 e2
  have hFdep:∀ j∈bi l.toArray i,F j (vs j) W:=fun j hj=>hFd j (hdep j hj)
  cases hci:st.contains i with
  | true=>
   have hmem:i∈st:=by simpa using hci
   have hidx:st.idxOf i<st.length:=List.idxOf_lt_length_iff.2 hmem
   have hat:st[st.idxOf i]?=T i:=by rw[List.getElem?_eq_getElem hidx,List.getElem_idxOf hidx]
   -- it is the next one
   have hki:st.idxOf i=k:=by
    have h1:¬ st.idxOf i<k:=fun h=>by
     have:=(hst _ i hat).2 h
     rw[hdi] at this;cases this
    rcases Nat.lt_or_eq_of_le (Nat.le_of_not_lt h1) with h2 | h2
    ·exfalso
     -- the one fY is done,so all fY are
     have hp:st.idxOf i-1+1=st.idxOf i:=by omega
     have hpl:st.idxOf i-1<st.length:=by omega
     have hs:=kA st hc (st.idxOf i-1) st[st.idxOf i-1] i (List.getElem?_eq_getElem hpl) (by rw[hp];exact hat)
     have hd:=hdep _ hs
     have:=(hst _ _ (List.getElem?_eq_getElem hpl)).1 hd
     omega
    ·exact h2.symm
   have h3:=e1 hci vs W (by rw[hki];exact hWk) hFdep
   refine gu h3 ?_
   rintro v W' ⟨hv,hW2,hstep⟩
   rw[hki] at hW2 hstep
   refine⟨k+1,by omega,fun j s hs=>?_,fun x hx j hj=>by
    by_cases e:x=i
    ·subst e;have h4:=hdep j hj;by_cases e2:j=x <;> simp[e2,h4]
    ·simp only[if_neg e] at hx;have h4:=hcl x hx j hj;by_cases e2:j=i <;> simp[e2,h4],hW2,fun j hj=>?_⟩
   ·by_cases e:s=i
    ·subst e
     have hj:j=k:=by
      rw[<-hki]
      have hjl:=(List.getElem?_eq_some_iff.1 hs).1
      have hsj:=(List.getElem?_eq_some_iff.1 hs).2
      have:=hnd.idxOf_getElem j hjl
      rw[hsj] at this
      exact this.symm
     simp;omega
    ·simp only[if_neg e]
     rw[hst j s hs]
     constructor
     ·omega
     ·intro h
      by_cases hj:j=k
      ·exfalso
       subst hj
       rw[<-hki,hat] at hs
       injection hs with hs
       exact e hs.symm
      ·omega
   ·by_cases e:j=i
    ·subst e;simp only[if_true];exact hv
    ·simp only[if_neg e] at hj ⊢
     exact hS k W W' hWk hstep j _ (hFd j hj)
  | false=>
   have hnm:i ∉ st:=by simpa using hci
   have hlo:tD l.toArray st i<=k:=by
    unfold tD
    have hsub:∀ (s:List Nat) (b:Nat),(∀ j x,s[j]?=T x->st[b+j]?=T x)->(s.filter fun x=>(bi l.toArray i).contains x).length<=k-b:=by
     intro s
     induction s with
     | nil=>intro b _;simp
     | cons x s ih=>
      intro b hb
      have hx:=hb 0 x (by simp)
      rw[Nat.add_zero] at hx
      have ih2:=ih (b+1) (fun j y hy=>by rw[show b+1+j=b+(j+1) by omega];exact hb (j+1) y (by simpa using hy))
      rw[List.filter_cons]
      split
      ·rename_i hcx
       have hd:=hdep x (by simpa using hcx)
       have:=(hst b x hx).1 hd
       simp only[List.length_cons]
       omega
      ·omega
    have:=hsub st 0 (fun j x h=>by rw[Nat.zero_add];exact h)
    omega
   have hhi:k<=tH l.toArray st i:=by
    unfold tH
    rcases Nat.lt_or_ge (st.findIdx fun s=>(bi l.toArray s).contains i) st.length with h | h
    ·refine Nat.le_of_not_lt fun hlt=>?_
     have hp:=List.findIdx_getElem (w:=h)
     have hd:=(hst _ _ (List.getElem?_eq_getElem h)).2 hlt
     -- what is done had all that it waits for done
     have:=hcl _ hd i (by simpa using hp)
     rw[hdi] at this
     cases this
    ·omega
   exact gm (e2 hci vs W k hlo hhi hWk hFdep) (fun v W' hv hb=>⟨k,hk,fun j s hs=>by
    have hne:s≠i:=fun e=>hnm (e ▸ List.mem_of_getElem? hs)
    simp only[if_neg hne]
    exact hst j s hs,fun x hx j hj=>by
    by_cases e:x=i
    ·subst e;have h4:=hdep j hj;by_cases e2:j=x <;> simp[e2,h4]
    ·simp only[if_neg e] at hx;have h4:=hcl x hx j hj;by_cases e2:j=i <;> simp[e2,h4],hW k W W' hWk hb,fun j hj=>by
    by_cases e:j=i
    ·subst e;simp only[if_true];exact hv
    ·simp only[if_neg e] at hj ⊢
     exact hF j _ W W' (hFd j hj) hb⟩)
 ·rintro d vs W ⟨k,hk,hst,hcl,hWk,hFd⟩ hall
  rw[hlit]
  have hks:k=st.length:=by
   rcases Nat.lt_or_eq_of_le hk with h | h
   ·exfalso
    have h1:=(hst k _ (List.getElem?_eq_getElem h))
    have h2:=hall st[k] (kz st hc _ (List.getElem_mem h))
    have:=h1.1 h2
    omega
   ·exact h
  rw[hks] at hWk
  exact hend vs W hWk (fun i hi=>hFd i (hall i (by simpa using hi)))
end
section
open Go.ChangeShapes Go.WideShapes Go.ChangeAt Go.RowKit Go.Sort
structure Lb (w:World):Prop where
 tab:Lib.TabIs Tryz.prog w "internal/strconv.uint64pow10" .u64 Lib.pow10Tab
 syn:∃ tp p,w.var? Tryz.prog "strconv.ErrSyntax" = T #[.iface tp p]
 rng:∃ tp p,w.var? Tryz.prog "strconv.ErrRange" = T #[.iface tp p]
 mx:∃ m,w.cell? ⟨0,0,V⟩=T (.int .i64 m)
 low:0<w.heap.size/\5<w.heap.size/\1<w.heap.size/\2<w.heap.size
theorem Lb.below {w w':World}(h:Lb w)(hb:Below w.heap.size w w'):Lb w':=by
 obtain⟨l0,l1,l2,l3⟩:=h.low
 have hz:=hb.size
 refine⟨?_,?_,?_,?_,by omega,by omega,by omega,by omega⟩
 ·exact var?_below hb (g:=5) (by kernel_rfl) (by omega) h.tab
 ·obtain⟨tp,p,e⟩:=h.syn
  exact⟨tp,p,var?_below hb (g:=1) (by kernel_rfl) (by omega) e⟩
 ·obtain⟨tp,p,e⟩:=h.rng
  exact⟨tp,p,var?_below hb (g:=2) (by kernel_rfl) (by omega) e⟩
 ·obtain⟨m,e⟩:=h.mx
  exact⟨m,(hb.cell (p:=⟨0,0,V⟩) (by show 0<_;omega)).trans e⟩
theorem Lb.wL {w:World}(h:Lb w)(g:gp w):Lb g.x:=h.below g.ok
theorem tj (w:World)(k:Nat)(os:Array Obj):Below w.heap.size w (grow (w.drewN k) os):=by
 refine⟨rfl,rfl,rfl,?_,fun j hj=>?_⟩
 ·show w.heap.size<=(w.heap++os).size
  simp
 ·show (w.heap++os)[j]?=w.heap[j]?
  rw[Array.getElem?_append_left hj]
theorem Eb (n:Int)(h0:-9223372036854775808<=n)(h1:n<=9223372036854775807)(w:World)(L:Lb w):
 Calls Tryz.prog 181 #[O Z n] w fun e w'=>e=.returned (bs (Lib.itoa n))/\Below w.heap.size w w':=
 (Any.strconv_Itoa Tryz.laysM171 n h0 h1 w L.tab).mono fun _ _ ⟨he,k,os,hw⟩=>⟨he,by rw[hw];exact tj w k os⟩
theorem D8 (s p:List UInt8)(w:World):
 Calls Tryz.prog 177 #[bs s,bs p] w fun e w'=>e=.returned (bs (Lib.trimPrefix s p))/\w=w':=
 (Any.strings_TrimPrefix Tryz.lays101 ⟨s.toArray⟩ ⟨p.toArray⟩ w).mono fun _ _ ⟨he,hw⟩=>⟨he,hw.symm⟩
theorem AE (s:List UInt8)(hl:s.length<=281474976710656)(v:Int)(h:Lib.atoiAll s=.ok v)(w:World):
 Calls Tryz.prog 176 #[bs s] w fun e w'=>e=.returned (.tuple #[O Z v,.nilIface])/\Below w.heap.size w w':=by
 have hs:(⟨s.toArray⟩:ByteArray).size=s.length:=by simp[ByteArray.size]
 refine(Any.strconv_Atoi_ok Tryz.laysC172 ⟨s.toArray⟩ (by omega) v h w).mono fun e w' ⟨he,hw⟩=>⟨he,?_⟩
 rcases hw with rfl | ⟨t,rfl⟩
 ·exact X _ _
 ·exact Lib.bytesWorld_below _ _ _
def C9 (w:World)(e:Ending)(w':World):Prop:=∃ (v:Int) (b:Nat),e=.returned (.tuple #[O Z v,.iface 287 (M (T ⟨b,0,V⟩))])/\Below w.heap.size w w'
theorem AF (s:List UInt8)(hl:s.length<=281474976710656)(h:∀ v,Lib.atoiAll s≠.ok v)(w:World)(L:Lb w):
 Calls Tryz.prog 176 #[bs s] w (C9 w):=by
 have hs:(⟨s.toArray⟩:ByteArray).size=s.length:=by simp[ByteArray.size]
 cases ha:Lib.atoiAll s with
 | ok v=>exact absurd ha (h v)
 | range=>
  obtain⟨tp,p,hv⟩:=L.rng
  exact(Any.strconv_Atoi_range_var Tryz.laysC172 ⟨s.toArray⟩ (by omega) ha tp p w hv).mono fun e w' ⟨N,he,_,_,hb⟩=>⟨_,N,he,hb⟩
 | _=>
  obtain⟨tp,p,hv⟩:=L.syn
  exact(Any.strconv_Atoi_syntax_var Tryz.laysC172 ⟨s.toArray⟩ (by omega) ha tp p w hv).mono fun e w' ⟨N,he,_,_,hb⟩=>⟨_,N,he,hb⟩
def fo (s:List UInt8):List (List UInt8):=Lib.splitN s [32] 9 -- 162
def wI (w:World)(v:Value)(ws:List (List UInt8)):Prop:=
 ∃ g cap,v=C (T ⟨g,0,V⟩) ws.length cap/\ws.length<=cap/\cap<=1000000/\g<w.heap.size/\∀ n,n<ws.length->w.cell? ⟨g,n,V⟩=T (bs (ws.getD n []))
theorem wI.below {w w':World}{v:Value}{ws:List (List UInt8)}(h:wI w v ws)(hb:Below w.heap.size w w'):wI w' v ws:=by
 obtain⟨g,cap,e,h1,h2,h3,h4⟩:=h
 exact⟨g,cap,e,h1,h2,Nat.lt_of_lt_of_le h3 hb.size,fun n hn=>(hb.cell (p:=⟨g,n,V⟩) h3).trans (h4 n hn)⟩
theorem CI (s:List UInt8)(hl:s.length<4294967281)(w:World)(L:Lb w):
 Calls Tryz.prog 162 #[bs s,bs [32],O Z 9] w fun e w'=>∃ v,e=.returned v/\wI w' v (fo s)/\Below w.heap.size w w':=by
 obtain⟨m,hm⟩:=L.mx
 have hs:(⟨s.toArray⟩:ByteArray).size=s.length:=by simp[ByteArray.size]
 refine(Any.strings_SplitN { Tryz.laysM147 with } Tryz.laysM147.i9 ⟨s.toArray⟩ ⟨#[32]⟩ 9 m w (by omega) hm (by decide) (by decide) (by decide)).mono fun e w' ⟨he,hw⟩=>?_
 have hdat:=Lib.splitB_data ⟨#[32]⟩ 0 (min 9 ((⟨s.toArray⟩:ByteArray).size+1)-1) ⟨s.toArray⟩
 have hle:=Lib.splitB_length_le ⟨#[32]⟩ 0 (min 9 ((⟨s.toArray⟩:ByteArray).size+1)-1) ⟨s.toArray⟩
 generalize hl2:Lib.splitB ⟨#[32]⟩ 0 (min 9 ((⟨s.toArray⟩:ByteArray).size+1)-1) ⟨s.toArray⟩=l at *
 have hlen:(fo s).length=l.length:=by
  unfold fo Lib.splitN
  rw[<-hs]
  have:=congrArg List.length hdat
  simpa using this.symm
 have hcap:min 9 ((⟨s.toArray⟩:ByteArray).size+1)<=9:=Nat.min_le_left _ _
 have hcap1:1<=min 9 ((⟨s.toArray⟩:ByteArray).size+1):=by omega
 subst hw
 refine⟨_,he,⟨w.heap.size,min 9 ((⟨s.toArray⟩:ByteArray).size+1),by rw[hlen],by omega,by omega,by simp,fun n hn=>?_⟩,(X _ _).alloc (Y _) _⟩
 rw[cell_of_row _ _ _ _ _ _ (heap_alloc_new w _)]
 rw[hlen] at hn
 have h1:(Lib.cellsOf l (min 9 ((⟨s.toArray⟩:ByteArray).size+1)))[n]?=T (.string l[n]):=by
  unfold Lib.cellsOf
  rw[List.getElem?_toArray,List.getElem?_append_left (by simpa using hn),List.getElem?_map,List.getElem?_eq_getElem hn]
  rfl
 rw[h1]
 have h2:(fo s).getD n []=l[n].data.toList:=by
  have h3:fo s=l.map (·.data.toList):=by rw[hdat];unfold fo Lib.splitN;rw[hs]
  rw[h3]
  simp[hn]
 rw[h2]
 rfl
end
section
open Go.ChangeShapes Go.WideShapes Go.ChangeAt Go.RowKit
def fY (c:UInt8):List (List UInt8)->List (List UInt8)
 | []=>[[c]]
 | l :: r=>(c :: l) :: r
def ah:List UInt8->List (List UInt8)
 | []=>[[]]
 | c :: r=>if c=32 then [] :: ah r else fY c (ah r)
theorem fR:∀ s,0<(ah s).length
 | []=>by simp[ah]
 | c :: r=>by
  unfold ah
  split
  ·simp
  ·have:=fR r
   generalize ah r=ws at *
   cases ws with
   | nil=>simp at this
   | cons a b=>simp[fY]
theorem cO:∀ t:List UInt8,(∀ c∈t,c≠32)->ah t=[t]
 | [],_=>rfl
 | c :: r,h=>by
  unfold ah
  rw[if_neg (h c List.mem_cons_self),cO r fun d hd=>h d (List.mem_cons_of_mem _ hd)]
  rfl
theorem fe:∀ (t r:List UInt8),(∀ c∈t,c≠32)->ah (t++32 :: r)=t :: ah r
 | [],r,_=>by simp[ah]
 | c :: t,r,h=>by
  have e:ah (c :: (t++32 :: r))=fY c (ah (t++32 :: r)):=by
   rw[ah,if_neg (h c List.mem_cons_self)]
  show ah (c :: (t++32 :: r))=_
  rw[e,fe t r fun d hd=>h d (List.mem_cons_of_mem _ hd)]
  rfl
theorem gQ:∀ s:List UInt8,(ah s).length<=s.length+1
 | []=>by simp[ah]
 | c :: r=>by
  have h:=gQ r
  unfold ah
  split
  ·simp;omega
  ·generalize ah r=ws at *
   cases ws with
   | nil=>simp[fY]
   | cons a b=>simp[fY] at *;omega
theorem jW:∀ s:List UInt8,∀ l∈ah s,l.length<=s.length
 | [],l,h=>by simp[ah] at h;subst h;simp
 | c :: r,l,h=>by
  have ih:=jW r
  unfold ah at h
  split at h
  ·rcases List.mem_cons.1 h with rfl | h
   ·simp
   ·have:=ih l h;simp;omega
  ·generalize ah r=ws at *
   cases ws with
   | nil=>simp[fY] at h;subst h;simp
   | cons a b=>
    simp only[fY] at h
    rcases List.mem_cons.1 h with rfl | h
    ·have:=ih a List.mem_cons_self;simp;omega
    ·have:=ih l (List.mem_cons_of_mem _ h);simp;omega
structure fQ (s:List UInt8)(out:List (List UInt8))(f i:Nat):Prop where
 le:f<=i
 no:∀ j,f<=j->j<i->s.getD j 0≠32
 all:out++ah (s.drop f)=ah s
 few:out.length<=f
theorem yZ {s:List UInt8}{f i:Nat}(hi:i<=s.length)(h:∀ j,f<=j->j<i->s.getD j 0≠32):∀ c∈(s.take i).drop f,c≠32:=by
 intro c hc
 obtain⟨n,hn,rfl⟩:=List.getElem_of_mem hc
 have h1:=h (f+n) (by omega) (by simp at hn;omega)
 simp at hn
 rw[List.getElem_drop,List.getElem_take]
 simpa [show f+n<s.length by omega] using h1
theorem fQ.blank {s:List UInt8}{out:List (List UInt8)}{f i:Nat}(h:fQ s out f i)(hi:i<s.length)(hc:s.getD i 0=32):fQ s (out++[(s.take i).drop f]) (i+1) (i+1):=by
 refine⟨Y _,fun j h1 h2=>by omega,?_,by have:=h.few;have:=h.le;simp;omega⟩
 rw[<-h.all,List.append_assoc]
 congr 1
 have e:s.drop f=(s.take i).drop f++32 :: s.drop (i+1):=by
  have e1:s=s.take i++32 :: s.drop (i+1):=by
   have hg:s[i]=32:=by simpa [hi] using hc
   rw[<-hg,<-List.drop_eq_getElem_cons hi,List.take_append_drop]
  have hle:f<=(s.take i).length:=by have:=h.le;simp;omega
  rw[<-List.drop_append_of_le_length hle,<-e1]
 rw[e,fe _ _ (yZ (by omega) h.no)]
 rfl
theorem fQ.last {s:List UInt8}{out:List (List UInt8)}{f:Nat}(h:fQ s out f s.length):out++[(s.take s.length).drop f]=ah s:=by
 rw[<-h.all]
 congr 1
 have:=yZ (Y _) h.no
 rw[List.take_length] at this ⊢
 rw[cO _ this]
theorem fQ.on {s:List UInt8}{out:List (List UInt8)}{f i:Nat}(h:fQ s out f i)(hc:s.getD i 0≠32):fQ s out f (i+1):=
 ⟨by have:=h.le;omega,fun j h1 h2=>by
  by_cases e:j=i
  ·subst e;exact hc
  ·exact h.no j h1 (by omega),h.all,h.few⟩
def BQ (ws:List (List UInt8)):List Value:=ws.map bs
theorem qx (ws:List (List UInt8))(l:List UInt8):BQ (ws++[l])=BQ ws++[.string ⟨l.toArray⟩]:=by simp[BQ,bs]
theorem yO (s:List UInt8)(hl:s.length<100000)(w:World):
 Calls Tryz.prog 101 #[bs s] w fun e w'=>∃ v,e=.returned v/\pP 9 w' v (BQ (ah s))/\Below w.heap.size w w':=by
 unfold bs
 go_enter Tryz.func101,Tryz.ntmps101
 go_wp2
 go_loopw [3,4,5] (fun o f i x=>∃ (out:List (List UInt8)) (fn n:Nat),i=O Z n/\f=O Z fn/\pP 9 x o (BQ out)/\Below w.heap.size w x/\(∀ g,o.ownBlock=T g->w.heap.size<=g)/\n<=s.length+1/\((n<=s.length/\fQ s out fn n)\/(n=s.length+1/\out=ah s))) (fun _ _ i _=>s.length+1-(intOf i).toNat)
 case atStart=>exact⟨[],0,0,rfl,rfl,pP.nil _ _,X _ _,(fun g e=>by cases e),by omega,.inl ⟨by omega,⟨Y _,fun j h1 h2=>by omega,rfl,Y _⟩⟩⟩
 case round=>
  obtain⟨out,fn,n,rfl,rfl,hV,hb,hown,hn,hW⟩:=hrel
  rcases hW with ⟨hle,hW⟩ | ⟨rfl,rfl⟩
  ·have hfew:=hW.few
   have hfl:=hW.le
   have hvl:(BQ out).length=out.length:=by simp[BQ]
   by_cases hend:n=s.length
   ·subst hend
    have hcut:=mQ s fn s.length hfl (Y _)
    have hlast:=hW.last
    generalize (s.take s.length).drop fn=wd at *
    have HL:=A hlast
    clear hlast
    have hle2:(s.length:Int)<=(s.length:Int):=by omega
    go_wp2_with (at_builtin;refine mA (by rfl) _ _ 144 (by rfl) (.string ⟨#[]⟩) 16 Tryz.underlying144 (by kernel_rfl) rfl (by decide) hV (by rfl) (.string ⟨wd.toArray⟩) rfl (by rfl) (by omega) ?_;intro v' x' hV' hg hloc)
    have hb2:Below w.heap.size w x':=hb.grown hg hb.size hown
    have hown2:∀ g,v'.ownBlock=T g->w.heap.size<=g:=by
     intro g e
     rcases hloc with h | h
     ·exact hown g (h ▸ e)
     ·rw[h] at e;injection e with e;have:=hb.size;omega
    go_roundw
    case rel=>exact⟨out++[wd],s.length+1,s.length+1,by go_num,by go_num,by rw[qx];exact hV',hb2,hown2,by omega,.inr ⟨rfl,HL.out⟩⟩
    case measure=>(simp[intOf] <;> omega)
   ·have hlt:n<s.length:=by omega
    have hidx:=eE s n hlt
    have dne:((n:Int)==(s.length:Int))=U:=by simp;omega
    have dle:(n:Int)<=(s.length:Int):=by omega
    by_cases hc:s.getD n 0=32
    ·have hW2:=hW.blank hlt hc
     have hcut:=mQ s fn n hfl hle
     rw[hc] at hidx
     have e32:(((32:UInt8).toNat:Nat):Int)=32:=rfl
     rw[e32] at hidx
     clear e32 hc
     generalize (s.take n).drop fn=wd at *
     go_wp2_with (at_builtin;refine mA (by rfl) _ _ 144 (by rfl) (.string ⟨#[]⟩) 16 Tryz.underlying144 (by kernel_rfl) rfl (by decide) hV (by rfl) (.string ⟨wd.toArray⟩) rfl (by rfl) (by omega) ?_;intro v' x' hV' hg hloc)
     have hb2:Below w.heap.size w x':=hb.grown hg hb.size hown
     have hown2:∀ g,v'.ownBlock=T g->w.heap.size<=g:=by
      intro g e
      rcases hloc with h | h
      ·exact hown g (h ▸ e)
      ·rw[h] at e;injection e with e;have:=hb.size;omega
     go_roundw
     case rel=>exact⟨out++[wd],n+1,n+1,by go_num,by go_num,by rw[qx];exact hV',hb2,hown2,by omega,.inl ⟨by omega,hW2⟩⟩
     case measure=>(simp[intOf] <;> omega)
    ·have hW2:=hW.on hc
     have dc:((((s.getD n 0).toNat:Nat):Int)==32)=U:=by
      have h:(s.getD n 0).toNat≠32:=fun e=>hc (UInt8.toNat_inj.1 e)
      generalize (s.getD n 0).toNat=c at *
      simp;omega
     generalize (s.getD n 0).toNat=c at *
     clear hc
     go_wp2
     go_roundw
     case rel=>exact⟨out,fn,n+1,by go_num,rfl,hV,hb,hown,by omega,.inl ⟨by omega,hW2⟩⟩
     case measure=>(simp[intOf] <;> omega)
  ·go_wp2
   go_ret
   exact⟨_,rfl,hV,hb⟩
end
section
def wD (l:List En)(t:Int):Int:=l.foldl (fun k x=>if x.th=t then x.kind else k) 0
def FC (l:List En)(i:Nat):Option Int:=match l[i]? with
 | some x=>if x.kind=2/\wD l x.th=2/\wD (l.drop (i+1)) x.th=0 then T x.th else V
 | none=>V
def Cq (l:List En):List Int:=(List.range l.length).filterMap (FC l)
def E8 (k:Int):Bool:=decide (k=3\/k=5\/k=8)
def Cu (l:List En):Int:=match l.reverse.find? (fun x=>E8 (wD l x.th)) with
 | some x=>x.th
 | none=>-1
def Dd (l:List En)(x:En):Prop:=0<=x.now/\match l.getLast? with
 | some y=>y.now<=x.now
 | none=>True
def zq (last:Int)(q:List Int)(ow:Int)(x:En):Prop:=
 (x.kind=1/\(last=0\/last=6\/last=7\/last=10))\/((x.kind=2\/x.kind=7)/\last=1)\/(x.kind=3/\last=2/\q.head?=T x.th/\ow=-1)\/(x.kind=4/\last=2)\/
 (x.kind=5/\last=3)\/(x.kind=6/\last=4)\/(x.kind=8/\last=5)\/(x.kind=9/\last=8)\/(x.kind=10/\last=9)
instance (last:Int) (q:List Int) (ow:Int) (x:En):Decidable (zq last q ow x):=by unfold zq;infer_instance
instance (l:List En) (x:En):Decidable (Dd l x):=by
 unfold Dd
 cases l.getLast? <;> infer_instance
def BI (n:Int)(l:List En)(x:En):Prop:=0<=x.th/\x.th<n/\Dd l x/\zq (wD l x.th) (Cq l) (Cu l) x
instance (n:Int) (l:List En) (x:En):Decidable (BI n l x):=by unfold BI;infer_instance
end
section
open Go.ChangeShapes Go.WideShapes Go.ChangeAt Go.RowKit
theorem oA {k:IntKind}{w:World}{b off:Nat}{xs:List Int}(hc:∀ i,i<xs.length->w.cell? ⟨b,off+i,V⟩=T (.int k (aG xs i))):
 ∀ j v,(xs.map (Value.int k))[j]?=T v->w.cell? ((⟨b,off,V⟩:Addr).add j)=T v:=by
 intro j v hj
 have hl:j<xs.length:=by have:=(List.getElem?_eq_some_iff.1 hj).1;simpa using this
 rw[List.getElem?_map,jK hl] at hj
 have e:(⟨b,off,V⟩:Addr).add j=⟨b,off+j,V⟩:=by unfold Addr.add;split <;> simp_all
 rw[e,hc j hl,<-hj];rfl
def Fs (w:World)(v:Value)(xs:List Int):Prop:=
 (v=C V 0 0/\xs=[])\/∃ g off cap cs,v=C (T ⟨g,off,V⟩) xs.length cap/\xs.length<=cap/\cap<=maxLen/\Bk w g 3 cs/\off+cap<=cs.size/\∀ i,i<xs.length->cs[off+i]?=T (O Z (aG xs i))
section
variable {w w':World}{v:Value}{xs:List Int}
theorem Fs.yT (h:eG .i64 3 w v xs):Fs w v xs:=by
 rcases h.2 with ⟨rfl,h0⟩ | ⟨g,cap,cur,rfl,hb,hg,hnc,hcm,hcs,htake⟩
 ·exact .inl ⟨rfl,List.eq_nil_of_length_eq_zero h0⟩
 ·refine .inr ⟨g,0,cap,cur,rfl,hnc,hcm,hg,by omega,fun i hi=>?_⟩
  have h1:=World.ownsRow.cellAt ⟨h.1,.inr ⟨g,cap,cur,rfl,hb,hg,hnc,hcm,hcs,htake⟩⟩ i (by omega)
  rw[List.getElem?_map,jK hi] at h1
  rw[Nat.zero_add,<-Bk.cell (cs:=cur) (t:=3) hg i,h1];rfl
theorem Fs.lt (h:Fs w v xs){g:Nat}(e:v.ownBlock=T g):g<w.heap.size:=by
 rcases h with ⟨rfl,_⟩ | ⟨g',off,cap,cs,rfl,_,_,hb,_⟩
 ·cases e
 ·simp only[Value.ownBlock,Option.some.injEq] at e;subst e;exact hb.lt
theorem Fs.bk (h:Fs w v xs){g:Nat}(e:v.ownBlock=T g):∃ cs,Bk w g 3 cs:=by
 rcases h with ⟨rfl,_⟩ | ⟨g',off,cap,cs,rfl,_,_,hb,_⟩
 ·cases e
 ·simp only[Value.ownBlock,Option.some.injEq] at e;subst e;exact⟨cs,hb⟩
theorem Fs.within {S:Nat->Prop}(h:Fs w v xs)(k:ab w w' S)(hn:∀ g,v.ownBlock=T g->¬ S g):Fs w' v xs:=by
 rcases h with ⟨rfl,rfl⟩ | ⟨g,off,cap,cs,rfl,h1,h2,hb,h3⟩
 ·exact .inl ⟨rfl,rfl⟩
 ·exact .inr ⟨g,off,cap,cs,rfl,h1,h2,hb.within k (hn g rfl),h3⟩
theorem Fs.Au (h:Fs w v xs):v.oneCell'=G:=by
 rcases h with ⟨rfl,_⟩ | ⟨g,off,cap,cs,rfl,_⟩ <;> rfl
theorem Fs.more {g off cap:Nat}{x:Int}(h:Fs w (C (T ⟨g,off,V⟩) xs.length cap) xs)(hr:xs.length+1<=cap):Fs (w.setCell ⟨g,off+xs.length,V⟩ (O Z x)) (C (T ⟨g,off,V⟩) (xs.length+1) cap) (xs++[x]):=by
 rcases h with ⟨h,_⟩ | ⟨g',off',cap',cs,e,h1,h2,hb,h3,h4⟩
 ·cases h
 ·simp only[Value.slice.injEq,Option.some.injEq,Addr.mk.injEq,and_true,true_and] at e
  obtain⟨⟨rfl,rfl⟩,rfl⟩:=e
  refine .inr ⟨g,off,cap,_,by simp,by simp;omega,h2,hb.put _ _,by simpa using h3,fun i hi=>?_⟩
  simp only[List.length_append,List.length_cons,List.length_nil] at hi
  rw[Array.getElem?_setIfInBounds]
  by_cases e:i=xs.length
  ·subst e
   rw[if_pos rfl,if_pos (by omega)]
   simp[aG]
  ·rw[if_neg (by omega),h4 i (by omega)]
   simp[aG,List.getD_eq_getElem?_getD,List.getElem?_append,show i<xs.length by omega]
end
end
section
def Nl (s:List UInt8):Prop:=∀ c∈s,c≠10
theorem Nl.app {a b:List UInt8}(ha:Nl a)(hb:Nl b):Nl (a++b):=fun c hc=>by
 rcases List.mem_append.1 hc with h | h
 ·exact ha c h
 ·exact hb c h
def Bf (l:List UInt8):Prop:=∀ c∈l,c≠32
theorem nk:∀ s:List UInt8,Bf s\/∃ t r,Bf t/\s=t++32 :: r
 | []=>.inl (by intro c h;cases h)
 | c :: s=>by
  by_cases h:c=32
  ·exact .inr ⟨[],s,(by intro c h;cases h),(by rw[h];rfl)⟩
  ·rcases nk s with h1 | ⟨t,r,h1,rfl⟩
   ·exact .inl (by intro d hd;rcases List.mem_cons.1 hd with rfl | hd;exact h;exact h1 d hd)
   ·exact .inr ⟨c :: t,r,(by intro d hd;rcases List.mem_cons.1 hd with rfl | hd;exact h;exact h1 d hd),rfl⟩
theorem qW:∀ t:List UInt8,Bf t->Lib.index t [32]=-1
 | [],_=>by simp[Lib.index]
 | c :: t,h=>by
  have h1:=qW t fun d hd=>h d (List.mem_cons_of_mem _ hd)
  have h2:c≠32:=h c List.mem_cons_self
  unfold Lib.index
  rw[if_neg (by simp[List.isPrefixOf];exact fun e=>h2 e.symm),h1]
  rfl
theorem qX:∀ (t r:List UInt8),Bf t->Lib.index (t++32 :: r) [32]=t.length
 | [],r,_=>by simp[Lib.index,List.isPrefixOf]
 | c :: t,r,h=>by
  have h1:=qX t r fun d hd=>h d (List.mem_cons_of_mem _ hd)
  have h2:c≠32:=h c List.mem_cons_self
  show Lib.index (c :: (t++32 :: r)) [32]=_
  unfold Lib.index
  rw[if_neg (by simp[List.isPrefixOf];exact fun e=>h2 e.symm),h1,if_neg (by simp <;> omega)]
  simp
def bt (w0:List UInt8)(ws:List (List UInt8)):List UInt8:=w0++ws.flatMap fun w=>32 :: w
theorem aT:∀ (ws:List (List UInt8)) (w0:List UInt8),Bf w0->(∀ w∈ws,Bf w)->ah (bt w0 ws)=w0 :: ws
 | [],w0,h,_=>by unfold bt;simp;exact cO w0 h
 | w :: ws,w0,h,hs=>by
  have ih:=aT ws w (hs w List.mem_cons_self) fun v hv=>hs v (List.mem_cons_of_mem _ hv)
  unfold bt at *
  simp only[List.flatMap_cons,List.cons_append]
  rw[fe w0 _ h,ih]
theorem kv:∀ (n:Nat),∀ c∈Lib.decDigits n,48<=c.toNat/\c.toNat<=57:=by
 intro n
 induction n using Nat.strongRecOn with
 | _ n ih=>
  intro c hc
  rw[Lib.decDigits] at hc
  by_cases h:n<10
  ·rw[dif_pos h] at hc
   obtain rfl:=List.mem_singleton.1 hc
   rw[UInt8.toNat_ofNat',Nat.mod_eq_of_lt (by omega)]
   omega
  ·rw[dif_neg h] at hc
   rcases List.mem_append.1 hc with hc | hc
   ·exact ih (n / 10) (by omega) c hc
   ·obtain rfl:=List.mem_singleton.1 hc
    rw[UInt8.toNat_ofNat',Nat.mod_eq_of_lt (by omega)]
    omega
theorem dC (n:Nat):Bf (Lib.decDigits n):=by
 intro c hc e
 have:=kv n c hc
 rw[e] at this
 exact absurd this (by decide)
theorem iz (n:Nat):∃ c r,Lib.decDigits n=c :: r/\48<=c.toNat/\c.toNat<=57/\(10<=n->49<=c.toNat):=by
 induction n using Nat.strongRecOn with
 | _ n ih=>
  rw[Lib.decDigits]
  by_cases h:n<10
  ·rw[dif_pos h]
   refine⟨_,[],rfl,?_⟩
   rw[UInt8.toNat_ofNat',Nat.mod_eq_of_lt (by omega)]
   omega
  ·rw[dif_neg h]
   obtain⟨c,r,e,h1,h2,h3⟩:=ih (n / 10) (by omega)
   rw[e]
   refine⟨c,_,rfl,h1,h2,fun _=>?_⟩
   by_cases h9:10<=n / 10
   ·exact h3 h9
   ·rw[Lib.decDigits,dif_pos (by omega)] at e
    injection e with e1 _
    rw[<-e1,UInt8.toNat_ofNat',Nat.mod_eq_of_lt (by omega)]
    omega
theorem nX:∀ (a b:List UInt8) (acc u:Nat),Lib.parseUint10 acc a=.ok u->Lib.parseUint10 acc (a++b)=Lib.parseUint10 u b
 | [],b,acc,u,h=>by simp[Lib.parseUint10] at h;subst h;rfl
 | c :: a,b,acc,u,h=>by
  simp only[Lib.parseUint10,List.cons_append] at h ⊢
  split at h
  ·split at h
   ·cases h
   ·split at h
    ·cases h
    ·rename_i h1 h2 h3
     rw[if_pos h1,if_neg h2,if_neg h3]
     exact nX a b _ u h
  ·cases h
theorem uS:∀ (n:Nat),n<18446744073709551616->Lib.parseUint10 0 (Lib.decDigits n)=.ok n:=by
 intro n
 induction n using Nat.strongRecOn with
 | _ n ih=>
  intro hn
  rw[Lib.decDigits]
  by_cases h:n<10
  ·rw[dif_pos h]
   have e:(UInt8.ofNat (48+n)).toNat=48+n:=by rw[UInt8.toNat_ofNat',Nat.mod_eq_of_lt (by omega)]
   simp only[Lib.parseUint10,e]
   rw[if_pos (by omega),if_neg (by omega),if_neg (by omega)]
   congr 1
   omega
  ·rw[dif_neg h,nX _ _ _ _ (ih (n / 10) (by omega) (by omega))]
   have e:(UInt8.ofNat (48+n % 10)).toNat=48+n % 10:=by rw[UInt8.toNat_ofNat',Nat.mod_eq_of_lt (by omega)]
   simp only[Lib.parseUint10,e]
   rw[if_pos (by omega),if_neg (by omega),if_neg (by omega)]
   congr 1
   omega
theorem ro (n:Nat)(h:n<9223372036854775808):Lib.atoiAll (Lib.decDigits n)=.ok n:=by
 obtain⟨c,r,e,h1,h2,-⟩:=iz n
 have hp:=uS n (by omega)
 rw[e] at hp ⊢
 unfold Lib.atoiAll Lib.parseMag
 simp only
 rw[if_neg (show ¬ (c.toNat=43\/c.toNat=45) by omega),if_neg (by simp),hp]
 simp only
 rw[if_neg (by omega),if_neg (by omega),if_neg (by omega)]
end
section
open Go.ChangeShapes Go.WideShapes Go.ChangeAt Go.RowKit
def ku (P:Program)(ops:Array Oper)(F:Nat->Nat->Value->World->Prop)(Wp:Nat->World->Prop)(Step:Nat->World->World->Prop)(lit:(Nat->Value)->Act)(st:List Nat):List Oper->Nat->Prop
 | [],_=>True
 | o :: l,i=>(match st.contains i with
  | true=>∀ (vs:Nat->Value) W,Wp (st.idxOf i) W->(∀ j∈bi ops i,F j (st.idxOf i) (vs j) W)->db P ops (fun v W'=>F i (st.idxOf i+1) v W'/\Wp (st.idxOf i+1) W'/\Step (st.idxOf i) W W') o (lit vs) W
  | false=>∀ (vs:Nat->Value) W k,tD ops st i<=k->k<=tH ops st i->Wp k W->(∀ j∈bi ops i,F j k (vs j) W)->cX P ops (F i k) o (lit vs) W)/\ku P ops F Wp Step lit st l (i+1)
theorem jf {P:Program}{ops:Array Oper}{F:Nat->Nat->Value->World->Prop}{Wp:Nat->World->Prop}{Step:Nat->World->World->Prop}{lit:(Nat->Value)->Act}{st:List Nat}:∀ (l:List Oper) (b i:Nat) (o:Oper),ku P ops F Wp Step lit st l b->l[i]?=T o->
 (st.contains (b+i)=G->∀ (vs:Nat->Value) W,Wp (st.idxOf (b+i)) W->(∀ j∈bi ops (b+i),F j (st.idxOf (b+i)) (vs j) W)->db P ops (fun v W'=>F (b+i) (st.idxOf (b+i)+1) v W'/\Wp (st.idxOf (b+i)+1) W'/\Step (st.idxOf (b+i)) W W') o (lit vs) W)/\
 (st.contains (b+i)=U->∀ (vs:Nat->Value) W k,tD ops st (b+i)<=k->k<=tH ops st (b+i)->Wp k W->(∀ j∈bi ops (b+i),F j k (vs j) W)->cX P ops (F (b+i) k) o (lit vs) W)
 | [],b,i,o,_,hi=>by simp at hi
 | x :: l,b,0,o,h,hi=>by
  simp only[List.getElem?_cons_zero,Option.some.injEq] at hi
  subst hi
  have h1:=h.1
  simp only[Nat.add_zero]
  constructor
  ·intro e;rw[e] at h1;exact h1
  ·intro e;rw[e] at h1;exact h1
 | x :: l,b,i+1,o,h,hi=>by
  have:=jf l (b+1) i o h.2 (by simpa using hi)
  rw[show b+1+i=b+(i+1) by omega] at this
  exact this
theorem fj {P:Program}{l:List Oper}{Q:Exit->Act->World->Prop}{id:Nat}{a:Act}{w:World}(st:List Nat)(Wp:Nat->World->Prop)(Step:Nat->World->World->Prop)(lit:(Nat->Value)->Act)(F:Nat->Nat->Value->World->Prop)
 (hm:P.follows .mixedOrders=G) (hr:nB l.toArray=G) (hc:ic l.toArray st=G) (hnd:st.Nodup) (hlit:∀ vs,aF l.toArray a (fun _=>G) vs=lit vs)
 (h0:Wp 0 w)
 (hW:∀ k W W',Wp k W->Below W.heap.size W W'->Wp k W')
 (hF:∀ i k v W W',F i k v W->Below W.heap.size W W'->F i k v W')
 (hS:∀ k W W',Wp k W->Step k W W'->∀ i v,F i k v W->F i (k+1) v W')
 (hop:ku P l.toArray F Wp Step lit st l 0)
 (hend:∀ (vs:Nat->Value) W,Wp st.length W->(∀ i,i<l.length->F i st.length (vs i) W)->Q .normal (lit vs) W):(Code.region id l.toArray G).wp P Q a w:=by
 refine fi hm hr (fun d vs W=>∃ k,k<=st.length/\(∀ j s,st[j]?=T s->(d s=G↔j<k))/\(∀ i,d i=G->∀ j∈bi l.toArray i,d j=G)/\Wp k W/\∀ i,d i=G->F i k (vs i) W) ?_ ?_ ?_
 ·exact⟨0,Nat.zero_le _,fun j s _=>by simp,(fun i h=>by cases h),hW 0 _ _ h0 (X _ _).drew,(fun i h=>by cases h)⟩
 ·rintro i o ho d vs W ⟨k,hk,hst,hcl,hWk,hFd⟩ hdi hdep
  have ho':l[i]?=T o:=by simpa using ho
  rw[hlit]
  obtain⟨e1,e2⟩:=jf l 0 i o hop ho'
  rw[Nat.zero_add] at e1 e2
  have hFdep:∀ j∈bi l.toArray i,F j k (vs j) W:=fun j hj=>hFd j (hdep j hj)
  cases hci:st.contains i with
  | true=>
   have hmem:i∈st:=by simpa using hci
   have hidx:st.idxOf i<st.length:=List.idxOf_lt_length_iff.2 hmem
   have hat:st[st.idxOf i]?=T i:=by rw[List.getElem?_eq_getElem hidx,List.getElem_idxOf hidx]
   -- it is the next one
   have hki:st.idxOf i=k:=by
    have h1:¬ st.idxOf i<k:=fun h=>by
     have:=(hst _ i hat).2 h
     rw[hdi] at this;cases this
    rcases Nat.lt_or_eq_of_le (Nat.le_of_not_lt h1) with h2 | h2
    ·exfalso
     -- the one fY is done,so all fY are
     have hp:st.idxOf i-1+1=st.idxOf i:=by omega
     have hpl:st.idxOf i-1<st.length:=by omega
     have hs:=kA st hc (st.idxOf i-1) st[st.idxOf i-1] i (List.getElem?_eq_getElem hpl) (by rw[hp];exact hat)
     have hd:=hdep _ hs
     have:=(hst _ _ (List.getElem?_eq_getElem hpl)).1 hd
     omega
    ·exact h2.symm
   have h3:=e1 hci vs W (by rw[hki];exact hWk) (by rw[hki];exact hFdep)
   refine gu h3 ?_
   rintro v W' ⟨hv,hW2,hstep⟩
   rw[hki] at hv hW2 hstep
   refine⟨k+1,by omega,fun j s hs=>?_,fun x hx j hj=>by
    by_cases e:x=i
    ·subst e;have h4:=hdep j hj;by_cases e2:j=x <;> simp[e2,h4]
    ·simp only[if_neg e] at hx;have h4:=hcl x hx j hj;by_cases e2:j=i <;> simp[e2,h4],hW2,fun j hj=>?_⟩
   ·by_cases e:s=i
    ·subst e
     have hj:j=k:=by
      rw[<-hki]
      have hjl:=(List.getElem?_eq_some_iff.1 hs).1
      have hsj:=(List.getElem?_eq_some_iff.1 hs).2
      have:=hnd.idxOf_getElem j hjl
      rw[hsj] at this
      exact this.symm
     simp;omega
    ·simp only[if_neg e]
     rw[hst j s hs]
     constructor
     ·omega
     ·intro h
      by_cases hj:j=k
      ·exfalso
       subst hj
       rw[<-hki,hat] at hs
       injection hs with hs
       exact e hs.symm
      ·omega
   ·by_cases e:j=i
    ·subst e;simp only[if_true];exact hv
    ·simp only[if_neg e] at hj ⊢
     exact hS k W W' hWk hstep j _ (hFd j hj)
  | false=>
   have hnm:i ∉ st:=by simpa using hci
   have hlo:tD l.toArray st i<=k:=by
    unfold tD
    have hsub:∀ (s:List Nat) (b:Nat),(∀ j x,s[j]?=T x->st[b+j]?=T x)->(s.filter fun x=>(bi l.toArray i).contains x).length<=k-b:=by
     intro s
     induction s with
     | nil=>intro b _;simp
     | cons x s ih=>
      intro b hb
      have hx:=hb 0 x (by simp)
      rw[Nat.add_zero] at hx
      have ih2:=ih (b+1) (fun j y hy=>by rw[show b+1+j=b+(j+1) by omega];exact hb (j+1) y (by simpa using hy))
      rw[List.filter_cons]
      split
      ·rename_i hcx
       have hd:=hdep x (by simpa using hcx)
       have:=(hst b x hx).1 hd
       simp only[List.length_cons]
       omega
      ·omega
    have:=hsub st 0 (fun j x h=>by rw[Nat.zero_add];exact h)
    omega
   have hhi:k<=tH l.toArray st i:=by
    unfold tH
    rcases Nat.lt_or_ge (st.findIdx fun s=>(bi l.toArray s).contains i) st.length with h | h
    ·refine Nat.le_of_not_lt fun hlt=>?_
     have hp:=List.findIdx_getElem (w:=h)
     have hd:=(hst _ _ (List.getElem?_eq_getElem h)).2 hlt
     -- what is done had all that it waits for done
     have:=hcl _ hd i (by simpa using hp)
     rw[hdi] at this
     cases this
    ·omega
   exact gm (e2 hci vs W k hlo hhi hWk hFdep) (fun v W' hv hb=>⟨k,hk,fun j s hs=>by
    have hne:s≠i:=fun e=>hnm (e ▸ List.mem_of_getElem? hs)
    simp only[if_neg hne]
    exact hst j s hs,fun x hx j hj=>by
    by_cases e:x=i
    ·subst e;have h4:=hdep j hj;by_cases e2:j=x <;> simp[e2,h4]
    ·simp only[if_neg e] at hx;have h4:=hcl x hx j hj;by_cases e2:j=i <;> simp[e2,h4],hW k W W' hWk hb,fun j hj=>by
    by_cases e:j=i
    ·subst e;simp only[if_true];exact hv
    ·simp only[if_neg e] at hj ⊢
     exact hF j _ _ W W' (hFd j hj) hb⟩)
 ·rintro d vs W ⟨k,hk,hst,hcl,hWk,hFd⟩ hall
  rw[hlit]
  have hks:k=st.length:=by
   rcases Nat.lt_or_eq_of_le hk with h | h
   ·exfalso
    have h1:=(hst k _ (List.getElem?_eq_getElem h))
    have h2:=hall st[k] (kz st hc _ (List.getElem_mem h))
    have:=h1.1 h2
    omega
   ·exact h
  subst hks
  exact hend vs W hWk (fun i hi=>hFd i (hall i (by simpa using hi)))
end
section
open Go.ChangeShapes Go.WideShapes Go.ChangeAt Go.RowKit Go.Shelf
attribute [local go_sem] Oper.semAt_some
def Br (c:UInt8):List (List UInt8)->List (List UInt8)
 | []=>[[c]]
 | x :: xs=>(c :: x) :: xs
def bD:List UInt8->List (List UInt8)
 | []=>[]
 | c :: r=>if c=10 then [10] :: bD r else Br c (bD r)
def em (text:List UInt8)(k:Nat):List UInt8:=(bD text).getD k []
theorem eC:∀ (s r:List UInt8),Nl s->bD (s++10 :: r)=(s++[10]) :: bD r
 | [],r,_=>by simp[bD]
 | c :: s,r,h=>by
  have ih:=eC s r fun d hd=>h d (List.mem_cons_of_mem _ hd)
  show bD (c :: (s++10 :: r))=_
  rw[bD,if_neg (h c List.mem_cons_self),ih]
  rfl
theorem eU:∀ s:List UInt8,Nl s->s≠[]->bD s=[s]
 | [],_,h=>absurd rfl h
 | [c],h,_=>by simp[bD,h c List.mem_cons_self,Br]
 | c :: d :: s,h,_=>by
  have ih:=eU (d :: s) (fun x hx=>h x (List.mem_cons_of_mem _ hx)) (by simp)
  rw[bD,if_neg (h c List.mem_cons_self),ih]
  rfl
theorem ki:∀ t:List UInt8,(bD t).length<=t.length
 | []=>Y _
 | c :: t=>by
  have ih:=ki t
  rw[bD]
  split
  ·simp;omega
  ·cases h:bD t with
   | nil=>simp[Br]
   | cons x y=>rw[h] at ih;simp[Br] at ih ⊢;omega
theorem jE:∀ t:List UInt8,Nl t\/∃ s r,Nl s/\t=s++10 :: r
 | []=>.inl (by unfold Nl;simp)
 | c :: t=>by
  by_cases hc:c=10
  ·exact .inr ⟨[],t,by unfold Nl;simp,by rw[hc];rfl⟩
  rcases jE t with h | ⟨s,r,hs,rfl⟩
  ·exact .inl fun d hd=>by
    rcases List.mem_cons.1 hd with rfl | hd
    ·exact hc
    ·exact h d hd
  ·exact .inr ⟨c :: s,r,fun d hd=>by
    rcases List.mem_cons.1 hd with rfl | hd
    ·exact hc
    ·exact hs d hd,rfl⟩
theorem qV:∀ t:List UInt8,Nl t->Lib.indexByte t 10=-1
 | [],_=>rfl
 | c :: t,h=>by
  have ih:=qV t fun d hd=>h d (List.mem_cons_of_mem _ hd)
  have hc:(c==10)=U:=by simpa using h c List.mem_cons_self
  rw[Lib.indexByte,hc,ih]
  simp
theorem ox:∀ s r:List UInt8,Nl s->Lib.indexByte (s++10 :: r) 10=s.length
 | [],r,_=>by simp[Lib.indexByte]
 | c :: s,r,h=>by
  have ih:=ox s r fun d hd=>h d (List.mem_cons_of_mem _ hd)
  have hc:(c==10)=U:=by simpa using h c List.mem_cons_self
  show Lib.indexByte (c :: (s++10 :: r)) 10=_
  rw[Lib.indexByte,hc,ih]
  have:((s.length:Int)==-1)=U:=by simp
  simp[this]
theorem CK (s:List UInt8)(w:World):
 Calls Tryz.prog 137 #[bs s,O .u8 10] w fun e w'=>e=.returned (O Z (Lib.indexByte s 10))/\w=w':=
 (Any.strings_IndexByte Tryz.lays137 ⟨s.toArray⟩ 10 w).mono fun _ _ ⟨he,hw⟩=>⟨he,hw.symm⟩
theorem Cj (s r:List UInt8)(w:World):(Instr.slice 9 (.string ⟨(s++10 :: r).toArray⟩) V (T (O Z ((s.length:Int)+1))) V).run Tryz.prog w=.ok (.string ⟨(s++[10]).toArray⟩) w:=by
 have hu:=Tryz.underlying9
 go_simp
 rw[if_pos ⟨by omega,by omega⟩]
 refine congrArg (fun x=>Result.ok (Value.string x) w) (ByteArray.ext ?_)
 rw[ByteArray.data_extract]
 apply Array.ext'
 simp
 rw[show s++10 :: r=(s++[10])++r by simp,show s.length+1=(s++[10]).length by simp,List.take_left]
theorem Ck (s r:List UInt8)(w:World):(Instr.slice 9 (.string ⟨(s++10 :: r).toArray⟩) (T (O Z ((s.length:Int)+1))) V V).run Tryz.prog w=.ok (.string ⟨r.toArray⟩) w:=by
 have hu:=Tryz.underlying9
 go_simp
 rw[if_pos ⟨by omega,by omega⟩]
 refine congrArg (fun x=>Result.ok (Value.string x) w) (ByteArray.ext ?_)
 rw[ByteArray.data_extract]
 apply Array.ext'
 simp
 exact List.take_of_length_le (by omega)
def tK (w:World)(b:Nat):Nat:=match w.cell? ⟨b,0,V⟩ with
 | some (.string s)=>s.size
 | _=>0
theorem kC {w:World}{b:Nat}{t:TypeId}{s:List UInt8}(h:Bk w b t #[bs s]):tK w b=s.length:=by
 unfold tK
 rw[h.cell 0]
 show s.toArray.size=_
 simp
theorem xN (text:List UInt8)(b l:Nat)(W1:World)(hb:Bk W1 b 9 #[bs text])(hlen:text.length<1000000000):
 Di Tryz.prog 136 #[M (T ⟨b,0,V⟩)] (fun k=>#[bs (em text k)]) (bD text).length l W1 (fun x=>x=b):=by
 intro J Jx hJ hJx hY h0
 refine callsIn_of_wp Tryz.func136 rfl trivial ?_ rfl
 simp only[Tryz.ntmps136,List.size_toArray,List.length_cons,List.length_nil,Nat.reduceAdd,Nat.reduceSub,Array.replicate_succ,Array.replicate_zero,List.push_toArray,List.append_toArray,List.nil_append,List.cons_append]
 gi_wp2
 gi_loopw [3] (fun p wr=>∃ (k:Nat) (t:List UInt8),k<=(bD text).length/\(bD text).drop k=bD t/\t.length<=text.length/\Bk wr b 9 #[bs t]/\J k wr) (fun p wr=>tK wr b)
 case atStart=>exact⟨0,text,Nat.zero_le _,rfl,Y _,hb,h0⟩
 case round=>
  obtain⟨k,t,hkl,hdr,hle,hbk,hj⟩:=hrel
  have hbl:=kC hbk
  have hc0:wr.cell? ⟨b,0,V⟩=T (.string ⟨t.toArray⟩):=hbk.cell 0
  have hfr:=hbk.free 0
  by_cases ht:t=[]
  ·subst ht
   have hk:k=(bD text).length:=by
    have:=congrArg List.length hdr
    simp[bD] at this
    omega
   subst hk
   gi_wp2
   go_end0
   exact⟨⟨_,rfl⟩,.inl hj⟩
  ·have hpos:(0:Int)<t.length:=by
    have:=List.length_pos_iff.2 ht
    omega
   have HI:=A (fun W=>callsIn_wide (n:=0) |>.2 (CK t W))
   rcases jE t with hn | ⟨s,r,hn,rfl⟩
   ·have hk1:k<(bD text).length:=by
     have:=congrArg List.length hdr
     rw[eU t hn ht] at this
     simp at this
     omega
    have hk2:(bD text).length=k+1:=by
     have:=congrArg List.length hdr
     rw[eU t hn ht] at this
     simp at this
     omega
    have hline:em text k=t:=by
     unfold em
     have:=congrArg List.head? hdr
     rw[eU t hn ht] at this
     simp[List.head?_drop] at this
     simp[List.getD_eq_getElem?_getD,this]
    have hi:=qV t hn
    have w1:ab wr (wr.setCell ⟨b,0,V⟩ (.string ⟨#[]⟩)) (fun x=>x=b):=(ab.refl _ _).put b 0 _ (.inl rfl)
    have b1:Bk (wr.setCell ⟨b,0,V⟩ (.string ⟨#[]⟩)) b 9 #[bs []]:=hbk.put 0 _
    have hj1:=hJ k _ _ hj w1
    obtain⟨fn,tmps,assign,body,hy,hR⟩:=hY k _ hk1 hj1 (by rintro x rfl;exact b1.lt)
    rw[hline] at hy
    unfold bs at hy
    gi_wp2
    refine⟨trivial,rfl,?_⟩
    refine(HI.out _).mono ?_
    rintro e w' ⟨rfl,rfl⟩
    rw[hi]
    gi_wp2
    refine⟨rfl,hR.mono ?_⟩
    rintro e W3 ⟨hh,(⟨rfl,hJ3⟩ | ⟨rfl,hJx3⟩)⟩
    ·gi_wp2
     have b3:Bk W3 b 9 #[bs []]:=(hh.2 b rfl).trans b1
     go_roundw
     case rel=>exact⟨k+1,[],by omega,by rw[List.drop_of_length_le (by omega)];rfl,by simp,b3,hJ3⟩
     case measure=>rw[kC b3,hbl];simp;omega
    ·gi_wp2
     refine bodyPost_ret (results_none rfl _ _ _) rfl ?_
     exact⟨⟨_,rfl⟩,.inr hJx3⟩
   ·have hk1:k<(bD text).length:=by
     have:=congrArg List.length hdr
     rw[eC s r hn] at this
     simp at this
     omega
    have hdr2:(bD text).drop (k+1)=bD r:=by
     have:=congrArg List.tail hdr
     rw[eC s r hn] at this
     simpa [List.tail_drop] using this
    have hline:em text k=s++[10]:=by
     unfold em
     have:=congrArg List.head? hdr
     rw[eC s r hn] at this
     simp[List.head?_drop] at this
     simp[List.getD_eq_getElem?_getD,this]
    have hi:=ox s r hn
    have hi0:(0:Int)<=s.length:=by omega
    have hwr:wrap64 ((s.length:Int)+1)=(s.length:Int)+1:=by
     simp at hle
     unfold wrap64
     omega
    have hcut1:∀ w,(Instr.slice 9 (.string ⟨(s++10 :: r).toArray⟩) V (T (O Z ((s.length:Int)+1))) V).run Tryz.prog w=.ok (.string ⟨(s++[10]).toArray⟩) w:=fun w=>Cj s r w
    have hcut2:∀ w,(Instr.slice 9 (.string ⟨(s++10 :: r).toArray⟩) (T (O Z ((s.length:Int)+1))) V V).run Tryz.prog w=.ok (.string ⟨r.toArray⟩) w:=fun w=>Ck s r w
    gi_wp2
    refine⟨trivial,rfl,?_⟩
    refine(HI.out _).mono ?_
    rintro e w' ⟨rfl,rfl⟩
    rw[hi]
    gi_wp2
    gi_region
    have w0:ab wr (wr.setCell ⟨b,0,V⟩ (.string ⟨r.toArray⟩)) (fun x=>x=b):=(ab.refl _ _).put b 0 _ (.inl rfl)
    have w1:ab wr (wr.setCell ⟨b,0,V⟩ (.string ⟨r.toArray⟩)).drew (fun x=>x=b):=⟨w0.os,w0.tape,w0.output,w0.size,w0.block⟩
    clear w0
    have b1:Bk (wr.setCell ⟨b,0,V⟩ (.string ⟨r.toArray⟩)).drew b 9 #[bs r]:=hbk.put 0 (.string ⟨r.toArray⟩)
    generalize (wr.setCell ⟨b,0,V⟩ (.string ⟨r.toArray⟩)).drew=W2 at *
    have hj1:=hJ k _ _ hj w1
    obtain⟨fn,tmps,assign,body,hy,hR⟩:=hY k _ hk1 hj1 (by rintro x rfl;exact b1.lt)
    rw[hline] at hy
    unfold bs at hy
    gi_wp2
    refine⟨rfl,hR.mono ?_⟩
    rintro e W3 ⟨hh,(⟨rfl,hJ3⟩ | ⟨rfl,hJx3⟩)⟩
    ·gi_wp2
     have b3:Bk W3 b 9 #[bs r]:=(hh.2 b rfl).trans b1
     go_roundw
     case rel=>exact⟨k+1,r,by omega,hdr2,by simp at hle;omega,b3,hJ3⟩
     case measure=>rw[kC b3,hbl];simp;omega
    ·gi_wp2
     refine bodyPost_ret (results_none rfl _ _ _) rfl ?_
     exact⟨⟨_,rfl⟩,.inr hJx3⟩
theorem CJ (s:List UInt8)(w:World):
 Calls Tryz.prog 94 #[bs s] w fun e w'=>e=.returned (.func (.func 136) #[] #[M (T ⟨w.heap.size,0,V⟩)])/\w'=w.alloc (.cells #[bs s] 9):=by
 unfold bs
 go_enter Tryz.func94,Tryz.ntmps94
 go_wp2
 go_ret
 exact⟨rfl,rfl⟩
theorem Df (s p:List UInt8)(hl:s.length<1000000)(w:World):
 Calls Tryz.prog 95 #[bs s,bs p] w fun e w'=>e=.returned (.tuple #[bs (Lib.trimSuffix s p),.bool (Lib.hasSuffix s p)])/\w=w':=
 (Any.strings_CutSuffix Tryz.lays104 ⟨s.toArray⟩ ⟨p.toArray⟩ w (by show s.toArray.size<=_;simp;omega)).mono fun _ _ ⟨he,hw⟩=>⟨he,hw.symm⟩
theorem lE (s:List UInt8)(c:UInt8):Lib.hasSuffix (s++[c]) [c]=G/\Lib.trimSuffix (s++[c]) [c]=s:=by
 have h:Lib.hasSuffix (s++[c]) [c]=G:=by
  unfold Lib.hasSuffix
  rw[List.isSuffixOf_iff_suffix]
  exact⟨s,rfl⟩
 refine⟨h,?_⟩
 unfold Lib.trimSuffix
 rw[if_pos h]
 simp
theorem pR {s:List UInt8}{c:UInt8}(h:∀ t,s≠t++[c]):Lib.hasSuffix s [c]=U/\Lib.trimSuffix s [c]=s:=by
 have h:Lib.hasSuffix s [c]=U:=by
  rw[Bool.eq_false_iff]
  intro e
  unfold Lib.hasSuffix at e
  rw[List.isSuffixOf_iff_suffix] at e
  obtain⟨t,ht⟩:=e
  exact h t ht.symm
 refine⟨h,?_⟩
 unfold Lib.trimSuffix
 rw[if_neg (by rw[h];simp)]
theorem Cf (s:List UInt8)(c:UInt8):(∃ t,s=t++[c])\/∀ t,s≠t++[c]:=by
 by_cases h:∃ t,s=t++[c]
 ·exact .inl h
 ·exact .inr fun t e=>h ⟨t,e⟩
end
