import Derived.Test.YtieiifdhdjhnoaaGreatDoorQMem
import Derived.Deep.QuietTactic
import Derived.BigQuiet
import Derived.StillTailTactics
import Derived.Deep.RegionHeld3
import Derived.RegionTactic
import Derived.Laws.Pointers
import Derived.Maps.OwnSet
set_option maxRecDepth 100000
open Go.Value renaming int->I
open Go.IntKind renaming i64->Q
open Option renaming none->N,some->O
open Bool renaming false->Z
namespace Go.Proofs.YtieiifdhdjhnoaaGreatDoor.RWord
open Go.ChangeShapes Go.WideShapes Go.ChangeAt Go.RowKit
abbrev C (x:Int):Value:=I .u32 x
def zF (f i n:Nat):Nat:=(f+i) % n
theorem vG {f i n:Nat}(h:0<n):zF f i n<n:=Nat.mod_lt _ h
theorem mq {f i n:Nat}(hf:f<n)(hi:i<=n):zF f i n=if f+i<n then f+i else f+i-n:=by
 unfold zF
 split
 ·exact Nat.mod_eq_of_lt (by omega)
 ·rw[Nat.mod_eq_sub_mod (by omega)];exact Nat.mod_eq_of_lt (by omega)
theorem Bl {f i j n:Nat}(hf:f<n)(hi:i<j)(hj:j<n):zF f i n≠zF f j n:=by
 rw[mq hf (by omega),mq hf (by omega)];split <;> split <;> omega
theorem Al {f i n:Nat}(hf:f<n)(hi:i+1<=n):zF (zF f 1 n) i n=zF f (i+1) n:=by
 rw[mq (f:=zF f 1 n) (vG (by omega)) (by omega),mq (i:=i+1) hf hi,mq (i:=1) hf (by omega)]
 repeat' split
 all_goals omega
theorem xu {f n:Nat}(hf:f<n):zF f 0 n=f:=by rw[mq hf (by omega),if_pos (by omega)];rfl
def Hd (w:World)(p:Nat)(a:Option Addr)(n f c r:Nat):Prop:=Bk w p 253 #[.slice a n n,I Q f,I Q c,I Q r]
section
variable {w:World}{p:Nat}{a:Option Addr}{n f c r:Nat}
theorem Hd.c0 (h:Hd w p a n f c r):w.cell? ⟨p,0,N⟩=O (.slice a n n):=by rw[Bk.cell h];rfl
theorem Hd.c1 (h:Hd w p a n f c r):w.cell? ⟨p,1,N⟩=O (I Q f):=by rw[Bk.cell h];rfl
theorem Hd.c2 (h:Hd w p a n f c r):w.cell? ⟨p,2,N⟩=O (I Q c):=by rw[Bk.cell h];rfl
theorem Hd.c3 (h:Hd w p a n f c r):w.cell? ⟨p,3,N⟩=O (I Q r):=by rw[Bk.cell h];rfl
end
structure In (w:World)(p:Nat)(og:Option Nat)(n f room:Nat)(cs vs:List Int):Prop where
 hd:Hd w p (og.map fun g=>⟨g,0,N⟩) n f vs.length room
 row:∀ g,og=O g->Bk w g 70 (zl C cs)
 len:cs.length=n
 fits:vs.length<=n
 most:n<=room
 few:room<=4096
 at_:∀ i,i<vs.length->qi 0 vs i=qi 0 cs (zF f i n)
 some_:∀ g,og=O g->f<n
 none_:og=N->n=0/\f=0
def Rg (w:World)(p:Nat)(og:Option Nat)(room:Nat)(vs:List Int):Prop:=∃ n f cs,In w p og n f room cs vs
section
variable {w w':World}{p:Nat}{og:Option Nat}{n f room:Nat}{cs vs:List Int}
theorem In.kr (h:In w p og n f room cs vs)(k:Nat):In (w.drewN k) p og n f room cs vs:=⟨h.hd,h.row,h.len,h.fits,h.most,h.few,h.at_,h.some_,h.none_⟩
theorem In.same (h:In w p og n f room cs vs)(e:w'.heap=w.heap):In w' p og n f room cs vs:=
 ⟨by have:=h.hd;unfold Hd Bk at *;rw[e];exact this,fun g k=>by have:=h.row g k;unfold Bk at *;rw[e];exact this,h.len,h.fits,h.most,h.few,h.at_,h.some_,h.none_⟩
theorem In.kept {S:Nat->Prop}(h:In w p og n f room cs vs)(k:ag w w' S)(h1:¬ S p)(h2:∀ g,og=O g->¬ S g):In w' p og n f room cs vs:=
 ⟨Bk.within h.hd k h1,fun g e=>Bk.within (h.row g e) k (h2 g e),h.len,h.fits,h.most,h.few,h.at_,h.some_,h.none_⟩
theorem In.ne {g:Nat}(h:In w p og n f room cs vs)(e:og=O g):p≠g:=Bk.av h.hd (h.row g e) (by decide)
theorem In.lt {g:Nat}(h:In w p og n f room cs vs)(e:og=O g):g<w.heap.size:=(h.row g e).lt
theorem Rg.kr (h:Rg w p og room vs)(k:Nat):Rg (w.drewN k) p og room vs:=by obtain⟨n,f,cs,h⟩:=h;exact⟨n,f,cs,h.kr k⟩
theorem Rg.kept {S:Nat->Prop}(h:Rg w p og room vs)(k:ag w w' S)(h1:¬ S p)(h2:∀ g,og=O g->¬ S g):Rg w' p og room vs:=by
 obtain⟨n,f,cs,h⟩:=h;exact⟨n,f,cs,h.kept k h1 h2⟩
theorem Rg.Gk (h:Rg w p og room vs):p<w.heap.size:=by obtain⟨n,f,cs,h⟩:=h;exact Bk.lt h.hd
theorem Rg.Gs {g:Nat}(h:Rg w p og room vs)(e:og=O g):g<w.heap.size:=by obtain⟨n,f,cs,h⟩:=h;exact h.lt e
theorem In.more {g:Nat}(h:In w p (O g) n f room cs vs)(hv:vs.length<n)(v:Int):
 In ((w.setCell ⟨g,zF f vs.length n,N⟩ (C v)).setCell ⟨p,2,N⟩ (I Q ((vs.length+1:Nat):Int))) p (O g) n f room (cs.set (zF f vs.length n) v) (vs++[v]):=by
 have hf:=h.some_ g rfl
 have hl:=h.len
 refine⟨?_,?_,by simpa using hl,by simp;omega,h.most,h.few,?_,h.some_,h.none_⟩
 ·have h1:=Bk.put (Bk.off h.hd (p:=⟨g,zF f vs.length n,N⟩) (h.ne rfl) (C v)) 2 (I Q ((vs.length+1:Nat):Int))
  unfold Hd
  rw[List.length_append]
  exact h1
 ·intro g' e
  obtain rfl:g=g':=by injection e
  have h1:=(h.row g rfl).put (zF f vs.length n) (C v)
  rw[px] at h1
  exact h1.off (p:=⟨p,2,N⟩) (h.ne rfl).symm _
 ·intro i hi
  simp only[List.length_append,List.length_cons,List.length_nil,Nat.zero_add] at hi
  rw[sY (by rw[hl];exact vG (by omega))]
  by_cases e:i=vs.length
  ·subst e;rw[if_pos rfl,mM]
  ·rw[if_neg (Bl hf (by omega) hv).symm,mL (by omega)]
   exact h.at_ i (by omega)
theorem In.less {g:Nat}{v:Int}(h:In w p (O g) n f room cs (v :: vs)):
 In (((w.setCell ⟨g,f,N⟩ (C 0)).setCell ⟨p,1,N⟩ (I Q (zF f 1 n))).setCell ⟨p,2,N⟩ (I Q vs.length)) p (O g) n (zF f 1 n) room (cs.set f 0) vs:=by
 have hf:=h.some_ g rfl
 have hl:=h.len
 have hfit:=h.fits
 simp only[List.length_cons] at hfit
 refine⟨?_,?_,by simpa using hl,by omega,h.most,h.few,?_,fun _ _=>vG (by omega),fun e=>(by cases e)⟩
 ·have h1:=Bk.put (Bk.put (Bk.off h.hd (p:=⟨g,f,N⟩) (h.ne rfl) (C 0)) 1 (I Q (zF f 1 n))) 2 (I Q vs.length)
  exact h1
 ·intro g' e
  obtain rfl:g=g':=by injection e
  have h1:=(h.row g rfl).put f (C 0)
  rw[px] at h1
  exact(h1.off (p:=⟨p,1,N⟩) (h.ne rfl).symm _).off (p:=⟨p,2,N⟩) (h.ne rfl).symm _
 ·intro i hi
  have h1:=h.at_ (i+1) (by simp;omega)
  have h2:=Bl (n:=n) hf (i:=0) (j:=i+1) (by omega) (by omega)
  rw[xu hf] at h2
  rw[Al hf (by omega),sY (by rw[hl];exact hf),if_neg h2,<-h1]
  simp[qi]
end
section
variable {w:World}{p:Nat}{a:Option Addr}{n f r:Nat}
def rI (x:Int):Nat:=if x<0 then 0 else if 4096<x then 4096 else x.toNat
end
end Go.Proofs.YtieiifdhdjhnoaaGreatDoor.RWord
namespace Go.Proofs.YtieiifdhdjhnoaaGreatDoor
open Go.ChangeShapes Go.WideShapes Go.ChangeAt Go.RowKit Go.Maps
theorem qU:Keyed Tryz.prog 70:=int_keyed Tryz.underlying70
theorem GN {x:Int}(h0:0<=x)(h1:x<4294967296):(Lit.int .u32 x).wf=true:=by
 simp[Lit.wf,IntKind.min,IntKind.max,IntKind.bits,IntKind.signed];omega
theorem DS {x:Int}(h0:0<=x)(h1:x<4294967296):keyOf Tryz.prog 70 (.int .u32 x)=O (.int .u32 x):=keyOf_int_mk Tryz.underlying70 (GN h0 h1)
theorem zP (w:World):(zeroValue 4).run Tryz.prog w=.ok (.bool Z) w:=by kernel_rfl
theorem wC (x:Int):WideAt.IsKeyLit (.int .u32 x):=by trivial
theorem s9 {x y:Int}(h:y≠x):(Lit.int .u32 y)≠.int .u32 x:=fun e=>h (by injection e)
def vB (os:Int->Bool)(x:Int)(v:Bool):Int->Bool:=fun y=>if y=x then v else os y
theorem pj (os:Int->Bool)(x:Int)(v:Bool):vB os x v x=v:=by simp[vB]
theorem nd {os:Int->Bool}{x y:Int}{v:Bool}(h:y≠x):vB os x v y=os y:=by simp[vB,h]
def iO (w:World)(b:Nat)(os:Int->Bool)(c:Nat):Prop:=
 ∃ D:DataW Unit,w.ownsMap Tryz.prog 70 (plainElem Tryz.prog 4) b c D/\size D=c/\
  ∀ x,0<=x->x<4294967296->Maps.has D (.int .u32 x)=os x/\D.atKey (.int .u32 x) (.lit (.bool Z))=.lit (.bool (os x))
section
variable {w w':World}{b c:Nat}{os:Int->Bool}
theorem iO.lt (h:iO w b os c):b<w.heap.size:=by obtain⟨D,h,_⟩:=h;exact h.lt
theorem iO.gX {g:Nat}{t:TypeId}{cs:Array Value}(h:iO w b os c)(k:Bk w g t cs):b≠g:=by
 obtain⟨D,⟨es,clock,hb,_⟩,_⟩:=h
 intro e;subst e;unfold Bk at k;rw[hb] at k;cases k
theorem iO.within {S:Nat->Prop}(h:iO w b os c)(k:ag w w' S)(hn:¬ S b):iO w' b os c:=by
 have hl:=h.lt
 obtain⟨D,⟨es,clock,hb,r⟩,r'⟩:=h
 exact⟨D,⟨es,clock,(k.block b hl hn).trans hb,r⟩,r'⟩
theorem iO.drewN (h:iO w b os c)(n:Nat):iO (w.drewN n) b os c:=h
theorem iO.made (w:World):iO (w.alloc (.map #[] 0)) w.heap.size (fun _=>Z) 0:=
 ⟨.map [],World.ownsMap_made w _ _ _,rfl,fun _ _ _=>⟨rfl,rfl⟩⟩
theorem iO.look (h:iO w b os c){x:Int}(h0:0<=x)(h1:x<4294967296):(Instr.lookup 170 (.map (O b)) (I .u32 x) Z).run Tryz.prog w=.ok (.bool (os x)) w:=by
 obtain⟨D,h,_,hk⟩:=h
 obtain⟨v,ps,hrun,hv⟩:=h.lookup qU Tryz.underlying170 (zP w) (plainElem_bool Tryz.underlying4 Z) (DS h0 h1)
 rw[(hk x h0 h1).2] at hv
 rw[hrun]
 unfold plainElem at hv
 rw[Tryz.underlying4] at hv
 cases v <;> simp at hv
 rw[hv.1]
theorem iO.len (h:iO w b os c)(ty:TypeId):(Builtin.len_ #[170] ty #[.map (O b)]).run Tryz.prog w=.ok (I Q c) w:=by
 obtain⟨D,h,hs,_⟩:=h
 rw[<-hs]
 exact h.len Tryz.underlying170 ty
theorem zQ {D:DataW Unit}{os:Int->Bool}(hD:IsMap D)(hk:∀ x,0<=x->x<4294967296->Maps.has D (.int .u32 x)=os x/\D.atKey (.int .u32 x) (.lit (.bool Z))=.lit (.bool (os x)))(k:Int):
 ∀ x,0<=x->x<4294967296->Maps.has (D.put (.int .u32 k) (.lit (.bool true))) (.int .u32 x)=vB os k true x/\(D.put (.int .u32 k) (.lit (.bool true))).atKey (.int .u32 x) (.lit (.bool Z))=.lit (.bool (vB os k true x)):=by
 intro x h0 h1
 by_cases e:x=k
 ·subst e;rw[pj];exact⟨has_put_same hD (wC _) _,atKey_put_same hD (wC _) _ _⟩
 ·rw[nd e,has_put_other (s9 e),atKey_put_other (s9 e)];exact hk x h0 h1
theorem iO.add (h:iO w b os c)(hc:c<1000000){k:Int}(h0:0<=k)(h1:k<4294967296)(hk:os k=Z):
 ∃ w',(Instr.mapUpdate 170 (.map (O b)) (I .u32 k) (.bool true)).run Tryz.prog w=.ok () w'/\iO w' b (vB os k true) (c+1)/\zC w w' b:=by
 obtain⟨D,h,hs,hh⟩:=h
 obtain⟨w',hrun,ho,hg⟩:=h.update qU Tryz.underlying170 (by unfold maxLen;omega) (DS h0 h1) (plainElem_bool (H:=Unit) Tryz.underlying4 true)
 refine⟨w',hrun,⟨_,ho,?_,zQ h.isMap hh k⟩,hg⟩
 rw[size_put (h.tidy qU),(hh k h0 h1).1,hk,hs];simp
end
