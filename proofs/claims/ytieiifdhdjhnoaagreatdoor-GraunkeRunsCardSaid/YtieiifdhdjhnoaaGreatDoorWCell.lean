import Derived.Test.YtieiifdhdjhnoaaGreatDoorWMem
import Derived.Laws.LoneSync
import Derived.Laws.Pointers
import Derived.Test.YtieiifdhdjhnoaaGreatDoorProg
import Derived.Lib.Hide
import Derived.WalkKit
import Derived.ProofKit
import Derived.WalkLawsBesides
import Derived.Lib.ItoaNum
import Derived.Lib.Strings
import Derived.Deep.RegionLaw
import Derived.Laws.IdiomStrings
import Derived.Laws.BitsAllLaws
import Derived.Test.YtieiifdhdjhnoaaGreatDoorRows
import Derived.Test.YtieiifdhdjhnoaaGreatDoorShelf
import Derived.Lib.AtoiErrMem
import Derived.Lib.AtoiAll
import Derived.ArgAppend
import Derived.Deep.RegionLawGrows
import Derived.Deep.RegionHeld3
import Derived.Deep.Onto
import Derived.Lib.SmallJoins
set_option linter.unusedVariables false
set_option maxHeartbeats 1000000
set_option maxRecDepth 100000
open Go.Value renaming int->O,slice->D,pointer->C
open Go.IntKind renaming i64->Z,u32->V
open Option renaming none->T,some->U
open Bool renaming false->J,true->G
open Go.Obj renaming cells->M
open Go.Lib renaming hid->A
open Go.RowKit.Below renaming refl->X
open Nat renaming le_refl->Y
namespace Go.Proofs.YtieiifdhdjhnoaaGreatDoor
section
open Go.ChangeShapes Go.WideShapes Go.ChangeAt Go.RowKit
theorem nE {P:Program}{f:FuncId}{fn:Func}(hf:P.funcs[f]?=U fn)(hname:(fn.name== "runtime.NumGoroutine")=J)(hb:fn.body.isNone=G)(hn:Extern.findNext fn=T)(k:IntKind)
 (he:Extern.find fn=U (Extern.Atomic.swapT (.int k))) {a:Addr} {x y:Int} {w:World} (hc:w.cell? a=U (.int k x)) (hz:w.frozen? a=J):
 (callFunc f #[.pointer (U a),.int k y]).run P w=.ok (.value (.int k x)) (w.setCell a (.int k y)):=by
 rw[run_callFunc_extern hf hname hb hn he]
 change(Sem.run P (asAddr (.pointer (U a)) >>= fun b=>Extern.Atomic.read (.int k) b >>= fun old=>store b (.int k y) .atomic >>= fun _=>pure old) w).andThen _=_
 simp[Extern.Atomic.read,asAddr,hc,hz,run_store P w a (.int k y) .atomic rfl,Result.andThen]
structure nS (w:World)(p g:Nat)(xs:List Int):Prop where
 ptr:Bk w p 221 #[D (U ⟨g,0,T⟩) xs.length xs.length]
 row:Bk w g 225 (words xs)
 rng:fC xs
 few:xs.length<=8192
theorem nS.ne {w:World}{p g:Nat}{xs:List Int}(h:nS w p g xs):p≠g:=h.ptr.aj h.row (by decide)
theorem nS.alloc {w:World}{p g:Nat}{xs:List Int}(h:nS w p g xs)(o:Obj):nS (w.alloc o) p g xs:=⟨h.ptr.alloc o,h.row.alloc o,h.rng,h.few⟩
theorem nS.drewN {w:World}{p g:Nat}{xs:List Int}(h:nS w p g xs)(n:Nat):nS (w.drewN n) p g xs:=⟨h.ptr,h.row,h.rng,h.few⟩
theorem nS.kept {w w':World}{p g:Nat}{xs:List Int}(h:nS w p g xs){r:Option Nat}(hg:w.grownBy w' r)(h1:U p≠r)(h2:U g≠r):nS w' p g xs:=
 ⟨h.ptr.grown hg h1,h.row.grown hg h2,h.rng,h.few⟩
theorem nS.put {w:World}{p g:Nat}{xs:List Int}(h:nS w p g xs)(i:Nat)(v:Int)(hv:0<=v/\v<4294967296):
 nS (w.setCell ⟨g,i,T⟩ (O V v)) p g (xs.set i v):=by
 refine⟨?_,?_,h.rng.set i v hv,by simpa using h.few⟩
 ·simpa using h.ptr.off (p:=⟨g,i,T⟩) h.ne (O V v)
 ·simpa [fN] using h.row.put i (O V v)
section
variable {w:World}{p g:Nat}{xs:List Int}
theorem nS.c0 (h:nS w p g xs):w.cell? ⟨p,0,T⟩=U (D (U ⟨g,0,T⟩) xs.length xs.length):=by rw[h.ptr.cell];rfl
theorem nS.at_ (h:nS w p g xs){i:Nat}(hi:i<xs.length):w.cell? ⟨g,i,T⟩=U (O V (aF xs i)):=by rw[h.row.cell,fo xs i hi]
theorem wZ (h:nS w p g xs)(a:Nat)(ha:a<xs.length):
 Calls Tryz.prog 114 #[C (U ⟨p,0,T⟩),O Z a] w fun e w'=>e=.returned (.bool G)/\w=w':=by
 have h0:=h.c0
 have hf:=h.few
 go_enter Tryz.func114,Tryz.ntmps114
 go_wp2
 go_ret
 exact⟨rfl,rfl⟩
theorem Cg (b i:Nat)(x:Int)(w:World)(hc:w.cell? ⟨b,i,T⟩=U (O V x)):
 Calls Tryz.prog 135 #[C (U ⟨b,i,T⟩)] w fun e w'=>e=.returned (O V x)/\w=w':=by
 have hl:=run_call_load (P:=Tryz.prog) Tryz.func158 (by kernel_rfl) (by kernel_rfl) (by kernel_rfl) .u32 (by kernel_rfl) hc
 go_enter Tryz.func135,Tryz.ntmps135
 go_wp2
 go_ret
 exact⟨rfl,rfl⟩
theorem DB (b i:Nat)(x y:Int)(w:World)(hc:w.cell? ⟨b,i,T⟩=U (O V x))(hz:w.frozen? ⟨b,i,T⟩=J):
 Calls Tryz.prog 115 #[C (U ⟨b,i,T⟩),O V y] w fun e w'=>e=.returned (.tuple #[])/\w'=w.setCell ⟨b,i,T⟩ (O V y):=by
 have hl:=run_call_store (P:=Tryz.prog) Tryz.func149 (by kernel_rfl) (by kernel_rfl) (by kernel_rfl) (by kernel_rfl) (k:=.u32) (y:=y) hc hz
 go_enter Tryz.func115,Tryz.ntmps115
 go_wp2
 go_end0
 exact⟨rfl,rfl⟩
theorem EX (b i:Nat)(x y:Int)(w:World)(hc:w.cell? ⟨b,i,T⟩=U (O V x))(hz:w.frozen? ⟨b,i,T⟩=J):
 Calls Tryz.prog 155 #[C (U ⟨b,i,T⟩),O V y] w fun e w'=>e=.returned (O V x)/\w'=w.setCell ⟨b,i,T⟩ (O V y):=by
 have hl:=nE (P:=Tryz.prog) Tryz.func168 (by kernel_rfl) (by kernel_rfl) (by kernel_rfl) .u32 (by kernel_rfl) (y:=y) hc hz
 go_enter Tryz.func155,Tryz.ntmps155
 go_wp2
 go_ret
 exact⟨rfl,rfl⟩
theorem BG (b i:Nat)(x y:Int)(w:World)(hc:w.cell? ⟨b,i,T⟩=U (O V x))(hz:w.frozen? ⟨b,i,T⟩=J):
 Calls Tryz.prog 156 #[C (U ⟨b,i,T⟩),O V x,O V y] w fun e w'=>e=.returned (.bool G)/\w'=w.setCell ⟨b,i,T⟩ (O V y):=by
 have hl:=run_call_cas_hit (P:=Tryz.prog) Tryz.func169 (by kernel_rfl) (by kernel_rfl) (by kernel_rfl) .u32 (by kernel_rfl) (y:=y) hc hz
 go_enter Tryz.func156,Tryz.ntmps156
 go_wp2
 go_ret
 exact⟨rfl,rfl⟩
theorem yT (b i:Nat)(x o y:Int)(hne:¬ x=o)(w:World)(hc:w.cell? ⟨b,i,T⟩=U (O V x))(hz:w.frozen? ⟨b,i,T⟩=J):
 Calls Tryz.prog 156 #[C (U ⟨b,i,T⟩),O V o,O V y] w fun e w'=>e=.returned (.bool J)/\w=w':=by
 have hl:=run_call_cas_miss (P:=Tryz.prog) Tryz.func169 (by kernel_rfl) (by kernel_rfl) (by kernel_rfl) .u32 (by kernel_rfl) (y:=y) hc hz hne
 go_enter Tryz.func156,Tryz.ntmps156
 go_wp2
 go_ret
 exact⟨rfl,rfl⟩
theorem BF (x y:Int)(w:World):(Op.intArith .add .u32 x y).run Tryz.prog w=.ok (O V ((x+y) % 4294967296)) w:=by
 simp[Op.intArith,IntKind.wrap,IntKind.signed,IntKind.bits]
theorem FO (b i:Nat)(x y:Int)(w:World)(hc:w.cell? ⟨b,i,T⟩=U (O V x))(hz:w.frozen? ⟨b,i,T⟩=J):
 Calls Tryz.prog 157 #[C (U ⟨b,i,T⟩),O V y] w fun e w'=>e=.returned (O V ((x+y) % 4294967296))/\w'=w.setCell ⟨b,i,T⟩ (O V ((x+y) % 4294967296)):=by
 have hl:=run_call_add (P:=Tryz.prog) Tryz.func170 (by kernel_rfl) (by kernel_rfl) (by kernel_rfl) .u32 (by kernel_rfl) (y:=y) hc hz (BF x y w)
 go_enter Tryz.func157,Tryz.ntmps157
 go_wp2
 go_ret
 exact⟨rfl,rfl⟩
def lG (n:Int):Int:=n % 4294967296
theorem Ag (n:Int):0<=lG n/\lG n<4294967296:=by unfold lG;omega
theorem EO (h:nS w p g xs)(a:Nat)(ha:a<xs.length):
 Calls Tryz.prog 126 #[C (U ⟨p,0,T⟩),O Z a] w fun e w'=>e=.returned (O V (aF xs a))/\w=w':=by
 have h0:=h.c0
 have h1:=h.at_ ha
 have hf:=h.few
 go_enter Tryz.func126,Tryz.ntmps126
 go_wp2_with fail
 refine(wZ h a ha).mono ?_
 rintro e w' ⟨rfl,rfl⟩
 go_wp2_with fail
 refine(Cg g a (aF xs a) w h1).mono ?_
 rintro e w' ⟨rfl,rfl⟩
 go_wp2
 go_ret
 exact⟨rfl,rfl⟩
def Fv (w:World)(p g:Nat)(v:Value)(ys:List Int)(e:Ending)(w':World):Prop:=e=.returned v/\nS w' p g ys/\fD w w' g
theorem zw (h:nS w p g xs)(a:Nat)(ha:a<xs.length)(v:Int)(hv:0<=v/\v<4294967296):
 Calls Tryz.prog 76 #[C (U ⟨p,0,T⟩),O Z a,O V v] w (Fv w p g (.tuple #[]) (xs.set a v)):=by
 have h0:=h.c0
 have h1:=h.at_ ha
 have hf:=h.few
 go_enter Tryz.func76,Tryz.ntmps76
 go_wp2_with fail
 refine(wZ h a ha).mono ?_
 rintro e w' ⟨rfl,rfl⟩
 go_wp2_with fail
 refine(DB g a (aF xs a) v w h1 (h.row.free _)).mono ?_
 rintro e w' ⟨rfl,rfl⟩
 go_wp2
 go_end0
 exact⟨rfl,h.put a v hv,cY _ _ _ _⟩
theorem EL (h:nS w p g xs)(a:Nat)(ha:a<xs.length)(v:Int)(hv:0<=v/\v<4294967296):
 Calls Tryz.prog 127 #[C (U ⟨p,0,T⟩),O Z a,O V v] w (Fv w p g (O V (aF xs a)) (xs.set a v)):=by
 have h0:=h.c0
 have h1:=h.at_ ha
 have hf:=h.few
 go_enter Tryz.func127,Tryz.ntmps127
 go_wp2_with fail
 refine(wZ h a ha).mono ?_
 rintro e w' ⟨rfl,rfl⟩
 go_wp2_with fail
 refine(EX g a (aF xs a) v w h1 (h.row.free _)).mono ?_
 rintro e w' ⟨rfl,rfl⟩
 go_wp2
 go_ret
 exact⟨rfl,h.put a v hv,cY _ _ _ _⟩
theorem FJ (h:nS w p g xs)(a:Nat)(ha:a<xs.length)(v:Int)(_:0<=v/\v<4294967296):
 Calls Tryz.prog 129 #[C (U ⟨p,0,T⟩),O Z a,O V v] w (Fv w p g (O V (aF xs a)) (xs.set a (lG (aF xs a+v)))):=by
 have h0:=h.c0
 have h1:=h.at_ ha
 have hf:=h.few
 have hx:=h.rng.at_ a
 have hp:=h.put a (lG (aF xs a+v)) (Ag _)
 have ho:=cY w g a (O V (lG (aF xs a+v)))
 go_enter Tryz.func129,Tryz.ntmps129
 go_wp2_with fail
 refine(wZ h a ha).mono ?_
 rintro e w' ⟨rfl,rfl⟩
 go_wp2_with fail
 refine(FO g a (aF xs a) v w h1 (h.row.free _)).mono ?_
 rintro e w' ⟨rfl,rfl⟩
 go_wp2
 go_ret
 exact⟨bu (by omega),hp,ho⟩
theorem Bx (h:nS w p g xs)(a:Nat)(ha:a<xs.length)(v:Int)(hv:0<=v/\v<4294967296):
 Calls Tryz.prog 128 #[C (U ⟨p,0,T⟩),O Z a,O V (aF xs a),O V v] w (Fv w p g (.bool G) (xs.set a v)):=by
 have h0:=h.c0
 have h1:=h.at_ ha
 have hf:=h.few
 have hp:=h.put a v hv
 go_enter Tryz.func128,Tryz.ntmps128
 go_wp2_with fail
 refine(wZ h a ha).mono ?_
 rintro e w' ⟨rfl,rfl⟩
 go_wp2_with fail
 refine(BG g a (aF xs a) v w h1 (h.row.free _)).mono ?_
 rintro e w' ⟨rfl,rfl⟩
 go_wp2
 go_ret
 exact⟨rfl,hp,cY _ _ _ _⟩
theorem yI (h:nS w p g xs)(a:Nat)(ha:a<xs.length)(o v:Int)(hne:¬ aF xs a=o):
 Calls Tryz.prog 128 #[C (U ⟨p,0,T⟩),O Z a,O V o,O V v] w (Fv w p g (.bool J) xs):=by
 have h0:=h.c0
 have h1:=h.at_ ha
 have hf:=h.few
 go_enter Tryz.func128,Tryz.ntmps128
 go_wp2_with fail
 refine(wZ h a ha).mono ?_
 rintro e w' ⟨rfl,rfl⟩
 go_wp2_with fail
 refine(yT g a (aF xs a) o v hne w h1 (h.row.free _)).mono ?_
 rintro e w' ⟨rfl,rfl⟩
 go_wp2
 go_ret
 exact⟨rfl,h,cP _ _⟩
end
theorem BH:(Tryz.prog.info? 225).map (fun i=>(i.zero,i.size,i.bytes))=U (U (.agg #[O V 0]),1,4):=by kernel_rfl
def FT (w:World)(n:Nat)(e:Ending)(w':World):Prop:=
 ∃ p g,e=.returned (.tuple #[C (U ⟨p,0,T⟩),O Z 0])/\nS w' p g (List.replicate n 0)/\w.heap.size<=p/\w.heap.size<=g/\w.grownBy w' T
theorem FI (n:Nat)(hn:n<=8192)(w:World):Calls Tryz.prog 75 #[O Z n] w (FT w n):=by
 obtain⟨i0,hi0,hz0,hz1,hz2⟩:=info_parts BH
 have hmk:=fun W:World=>run_make (P:=Tryz.prog) W 219 225 i0 _ Tryz.underlying219 hi0 hz0 .i64 .i64 n n (by omega) (by omega) (by rw[hz2];omega) (by omega)
 rw[hz1] at hmk
 clear hi0 hz0 hz1 hz2
 go_enter Tryz.func75,Tryz.ntmps75
 go_wp2
 go_ret2
 refine⟨w.heap.size+1,w.heap.size,rfl,?_,by omega,Y _,?_⟩
 ·rw[g9]
  refine⟨?_,(Bk.made _ _ _).alloc _,fC.ga n,by simpa using hn⟩
  have:=Bk.made (w.alloc (M (words (List.replicate n 0)) 225)) 221 #[D (U ⟨w.heap.size,0,T⟩) n n]
  simpa using this
 ·exact aU (bi _ _ _) (bi _ _ T) (.inl rfl)
def Fh (w:World)(p g:Nat)(xs:List Int)(e:Ending)(w':World):Prop:=
 ∃ q,e=.returned (D (U ⟨q,0,T⟩) xs.length xs.length)/\Bk w' q 70 (words xs)/\nS w' p g xs/\w.heap.size<=q/\w.grownBy w' T
def mD (xs:List Int)(k:Nat):List Int:=xs.take k++List.replicate (xs.length-k) 0
theorem jT (xs:List Int)(k:Nat)(h:k<=xs.length):(mD xs k).length=xs.length:=by simp[mD];omega
theorem ze (xs:List Int):mD xs 0=List.replicate xs.length 0:=by simp[mD]
theorem qO (xs:List Int):mD xs xs.length=xs:=by simp[mD]
theorem qN (xs:List Int)(k:Nat)(h:k<xs.length):(mD xs k).set k (aF xs k)=mD xs (k+1):=by
 apply List.ext_getElem?
 intro i
 simp only[mD,List.getElem?_set,List.getElem?_append,List.length_append,List.length_take,List.length_replicate,List.getElem?_replicate,List.getElem?_take]
 by_cases e:k=i
 ·subst e
  have h1:k<min (k+1) xs.length:=by omega
  simp[h,h1,aF]
  omega
 ·by_cases h2:i<k
  ·have h3:i<min k xs.length:=by omega
   have h4:i<min (k+1) xs.length:=by omega
   simp[e,h2,h3,h4];omega
  ·have h3:¬ i<min k xs.length:=by omega
   have h4:¬ i<min (k+1) xs.length:=by omega
   have h5:(i-min k xs.length<xs.length-k)↔(i-min (k+1) xs.length<xs.length-(k+1)):=by omega
   simp only[e,h3,h4,if_false,h5]
def nw (w:World)(p g q:Nat)(xs:List Int)(k:Nat)(wr:World):Prop:=
 Bk wr q 70 (words (mD xs k))/\nS wr p g xs/\w.grownBy wr T
theorem rS {w wr:World}{p g q k:Nat}{xs:List Int}(hq:w.heap.size<=q)(hk:k<xs.length)(h:nw w p g q xs k wr):
 nw w p g q xs (k+1) (wr.setCell ⟨q,k,T⟩ (O V (aF xs k))):=by
 obtain⟨h1,h2,h3⟩:=h
 refine⟨?_,h2.kept (cY wr q k _) (fun e=>?_) (fun e=>?_),aU h3 (cY wr q k _) (.inr fun x e=>by injection e with e;omega)⟩
 ·have:=h1.put k (O V (aF xs k))
  rwa [fN,qN xs k hk] at this
 ·injection e with e;exact h2.ptr.aj h1 (by decide) e
 ·injection e with e;exact h2.row.aj h1 (by decide) e
theorem Ds {w:World}{p g:Nat}{xs:List Int}(h:nS w p g xs):
 Calls Tryz.prog 92 #[C (U ⟨p,0,T⟩)] w (Fh w p g xs):=by
 obtain⟨i0,hi0,hz0,hz1,hz2⟩:=info_parts tV
 have hf:=h.few
 have hmk:=fun W:World=>run_make (P:=Tryz.prog) W 26 70 i0 _ Tryz.underlying26 hi0 hz0 .i64 .i64 xs.length xs.length (by omega) (by omega) (by rw[hz2];omega) (by omega)
 rw[hz1] at hmk
 clear hi0 hz0 hz1 hz2
 have h0:=h.c0
 go_enter Tryz.func92,Tryz.ntmps92
 go_wp2
 clear hmk
 go_loopw [13] (fun i wr=>∃ k:Nat,k<=xs.length/\i=O Z k/\nw w p g w.heap.size xs k wr) (fun i _=>xs.length-(intOf i).toNat)
 case atStart=>
  refine⟨0,Nat.zero_le _,rfl,?_,h.alloc _,bi _ _ _⟩
  rw[g9,ze]
  exact Bk.made _ _ _
 case round=>
  obtain⟨k,hk,rfl,hr⟩:=hrel
  by_cases hlt:k<xs.length
  ·have hc:=hr.2.1
   have h0':=hc.c0
   have hx:=hc.at_ hlt
   have hq:=hr.1.cell k
   rw[fo _ _ (by rw[jT xs k hk];exact hlt)] at hq
   have hz:=hr.1.free k
   have hs:=rS (Y _) hlt hr
   have HS:=A hs
   clear hs hr h0
   go_wp2_with fail
   refine(Cg g k (aF xs k) _ hx).mono ?_
   rintro e w' ⟨rfl,rfl⟩
   go_wp2
   go_roundw
   case rel=>exact⟨k+1,by omega,by go_num,HS.out⟩
   case measure=>simp[intOf];omega
  ·obtain rfl:k=xs.length:=by omega
   obtain⟨h1,h2,h3⟩:=hr
   rw[qO] at h1
   go_wp2
   go_ret
   exact⟨w.heap.size,rfl,h1,h2,Y _,h3⟩
structure En where
 kind:Int
 th:Int
 now:Int
theorem En.ext {x y:En}(h1:x.kind=y.kind)(h2:x.th=y.th)(h3:x.now=y.now):x=y:=by cases x;cases y;simp_all
structure En.Wf (x:En):Prop where
 k0:-9223372036854775808<=x.kind
 k1:x.kind<=9223372036854775807
 t0:-9223372036854775808<=x.th
 t1:x.th<=9223372036854775807
 n0:-9223372036854775808<=x.now
 n1:x.now<=9223372036854775807
theorem uh {α:Type}{P:Nat->α->Prop}:∀ n:Nat,(∀ i,i<n->∃ x,P i x)->∃ l:List α,l.length=n/\∀ (k:Nat) x,l[k]?=U x->P k x
 | 0,_=>⟨[],rfl,by simp⟩
 | n+1,h=>by
  obtain⟨l,hl,hp⟩:=uh n fun i hi=>h i (by omega)
  obtain⟨x,hx⟩:=h n (by omega)
  refine⟨l++[x],by simp[hl],fun k y hk=>?_⟩
  by_cases hkn:k<n
  ·rw[List.getElem?_append_left (by omega)] at hk
   exact hp k y hk
  ·have hlt:=(List.getElem?_eq_some_iff.1 hk).1
   simp[hl] at hlt
   obtain rfl:k=n:=by omega
   rw[List.getElem?_append_right (by omega),hl,Nat.sub_self] at hk
   simp at hk
   subst hk
   exact hx
theorem ay {w w':World}(h:Below w.heap.size w w'):ab w w' (fun _=>False):=⟨h.os,h.tape,h.output,h.size,fun i hi _=>h.block i hi⟩
def dE (y:World)(g:Nat)(a b c:Value):World:=((y.setCell ⟨g,0,T⟩ a).setCell ⟨g,1,T⟩ b).setCell ⟨g,2,T⟩ c
theorem ed {y:World}{g:Nat}{t:TypeId}{x0 x1 x2:Value}(h:Bk y g t #[x0,x1,x2])(a b c:Value):Bk (dE y g a b c) g t #[a,b,c]:=by
 have h8:=((h.put 0 a).put 1 b).put 2 c
 unfold dE
 simpa only[List.setIfInBounds_toArray,List.set_cons_zero,List.set_cons_succ] using h8
theorem bO {B:Nat}{w y:World}{g:Nat}(h:Below B w y)(hg:B<=g)(a b c:Value):Below B w (dE y g a b c):=((h.setCell hg _).setCell hg _).setCell hg _
def bs (l:List UInt8):Value:=.string ⟨l.toArray⟩
theorem eE (hs:List UInt8)(n:Nat)(h:n<hs.length)(w:World):(Instr.index 9 (.string ⟨hs.toArray⟩) (O Z n)).run Tryz.prog w=.ok (O .u8 ((hs.getD n 0).toNat:Int)) w:=by
 have hu:=Tryz.underlying9
 have h2:(n:Int)<(hs.length:Int):=by omega
 go_simp
 rfl
theorem cW (a b:List UInt8):(⟨a.toArray⟩:ByteArray)++⟨b.toArray⟩=⟨(a++b).toArray⟩:=by
 apply ByteArray.ext
 simp
theorem iZ (a b:List UInt8)(h:a.length+b.length<1000000)(w:World):(binOp .add 9 (.string ⟨a.toArray⟩) (.string ⟨b.toArray⟩)).run Tryz.prog w=.ok (.string ⟨(a++b).toArray⟩) w:=by
 have hu:=Tryz.underlying9
 go_simp
 rw[if_neg (by omega),cW]
theorem bQ {a b:List UInt8}(h:a=b):Ending.returned (.string ⟨a.toArray⟩)=.returned (bs b):=by rw[h];rfl
theorem nj (n:Int)(h0:-9223372036854775808<=n)(h1:n<=9223372036854775807):(Lib.itoa n).length<=30:=by
 have wS:∀ (m u:Nat),u<10 ^ (m+1)->(Lib.decDigits u).length<=m+1:=by
  intro m
  induction m with
  | zero=>intro u hu;rw[Lib.decDigits,dif_pos (by simpa using hu)];simp
  | succ m ih=>
   intro u hu
   rw[Lib.decDigits]
   by_cases h:u<10
   ·rw[dif_pos h];simp
   ·rw[dif_neg h]
    have h2:u / 10<10 ^ (m+1):=by
     rw[Nat.div_lt_iff_lt_mul (by decide)]
     rw[Nat.pow_succ] at hu
     exact hu
    have:=ih _ h2
    simp
    omega
 have e:(10:Nat) ^ (19+1)=100000000000000000000:=by decide
 unfold Lib.itoa
 split
 ·have:=wS 19 n.natAbs (by rw[e];omega)
  simp;omega
 ·have:=wS 19 n.toNat (by rw[e];omega)
  omega
theorem qG (W:World)(b:Nat)(c:UInt8)(h:W.cell? ⟨b,0,T⟩=U (O .u8 (c.toNat:Int))):
 (convert 270 9 (D (U ⟨b,0,T⟩) 1 1)).run Tryz.prog W=.ok (.string ⟨#[c]⟩) W:=
 run_convert_bytes_back W 270 9 5 ⟨b,0,T⟩ 1 [c] Tryz.underlying270 Tryz.underlying5 Tryz.underlying9 (fun j hj=>by
  simp only[List.length_cons,List.length_nil] at hj
  obtain rfl:j=0:=by omega
  have e:(⟨b,0,T⟩:Addr).add 0=⟨b,0,T⟩:=by unfold Addr.add;simp
  rw[e]
  exact h)
theorem nr (n:Nat)(h:n<5000000000000000):(Lib.decDigits n).length<=30:=by
 have:=nj n (by omega) (by omega)
 unfold Lib.itoa at this
 rw[if_neg (by omega)] at this
 simpa using this
theorem Es:∀ (n:Nat) (w:World),n<5000000000000000->Calls Tryz.prog 165 #[O Z n] w fun e w'=>e=.returned (bs (Lib.decDigits n))/\Below w.heap.size w w':=by
 intro n
 induction n using Nat.strongRecOn with
 | _ n ih=>
  intro w hn
  by_cases h:n<10
  ·have E:=A (show Lib.decDigits n=[UInt8.ofNat (48+n)] by rw[Lib.decDigits,dif_pos h])
   clear ih
   have hi:(n:Int)<10:=by omega
   have hc:((UInt8.ofNat (48+n)).toNat:Int)=48+(n:Int):=by
    rw[UInt8.toNat_ofNat',Nat.mod_eq_of_lt (by omega)];omega
   have hcv:=qG (w.alloc (M #[O .u8 (48+(n:Int))] 5)) w.heap.size (UInt8.ofNat (48+n)) (by rw[hc];exact Bk.cell (Bk.made w _ _) 0)
   clear hc
   generalize UInt8.ofNat (48+n)=c at *
   go_enter Tryz.func165,Tryz.ntmps165
   go_wp2
   go_ret
   exact⟨by rw[E.out];rfl,(X _ _).alloc (Y _) _⟩
  ·have E:=A (show Lib.decDigits n=Lib.decDigits (n / 10)++[UInt8.ofNat (48+n % 10)] by rw[Lib.decDigits,dif_neg h])
   have hsz:¬ 9223372036854775807<(Lib.decDigits (n / 10)).length+1:=by have:=nr (n / 10) (by omega);omega
   have HI:=A (fun W=>ih (n / 10) (by omega) W (by omega))
   clear ih
   have hm:n % 10<10:=by omega
   have hl:=nr (n / 10) (by omega)
   have hc:((UInt8.ofNat (48+n % 10)).toNat:Int)=48+((n % 10:Nat):Int):=by
    rw[UInt8.toNat_ofNat',Nat.mod_eq_of_lt (by omega)];omega
   have hcv:∀ W b,W.cell? ⟨b,0,T⟩=U (O .u8 (48+((n % 10:Nat):Int)))->(convert 270 9 (D (U ⟨b,0,T⟩) 1 1)).run Tryz.prog W=.ok (.string ⟨#[UInt8.ofNat (48+n % 10)]⟩) W:=fun W b h=>qG W b _ (by rw[hc];exact h)
   have hd:¬ (n:Int)<10:=by omega
   have hcat:=cW (Lib.decDigits (n / 10)) [UInt8.ofNat (48+n % 10)]
   have hq1:(n:Int) / 10=((n / 10:Nat):Int):=by omega
   have hq2:(n:Int) % 10=((n % 10:Nat):Int):=by omega
   have hq3:(n:Int).tmod 10=((n % 10:Nat):Int):=by rw[Int.tmod_eq_emod_of_nonneg (by omega)];omega
   have hw1:IntKind.i64.wrap ((n / 10:Nat):Int)=((n / 10:Nat):Int):=IntWalk.i64_in _ (by omega)
   have hw2:IntKind.i64.wrap ((n % 10:Nat):Int)=((n % 10:Nat):Int):=IntWalk.i64_in _ (by omega)
   have hw3:IntKind.i64.wrap (48+((n % 10:Nat):Int))=48+((n % 10:Nat):Int):=IntWalk.i64_in _ (by omega)
   have hw4:IntKind.u8.wrap (48+((n % 10:Nat):Int))=48+((n % 10:Nat):Int):=by simp[IntKind.wrap,IntKind.signed,IntKind.bits];omega
   clear hc
   generalize UInt8.ofNat (48+n % 10)=c at *
   generalize Lib.decDigits (n / 10)=l at *
   generalize hmm:n % 10=m at *
   generalize hqq:n / 10=q at *
   clear hmm hqq
   go_enter Tryz.func165,Tryz.ntmps165
   go_wp2
   go_region_law (first | (go_simp;go_at_call 165;refine(HI.out _).mono ?_;rintro e y ⟨rfl,hy⟩;have hcy:∀ b o,b<_->y.cell? ⟨b,o,T⟩=_:=fun b o h=>hy.cell (p:=⟨b,o,T⟩) h;unfold bs))
   all_goals
    clear hq1 hq2 hq3 hw1 hw2 hw3 hw4 hcv
    go_wp2
    go_ret
    refine⟨by rw[E.out];rfl,?_⟩
    first | exact(((X _ _).alloc (Y _) _).drew).trans (hy.mono (by simp)) | exact(dj hy).alloc (dj hy).size _
theorem cC (n:Nat)(h:n<5000000000):(Lib.decDigits n).length<=30:=nr n (by omega)
theorem tX (n:Nat)(w:World)(h:n<5000000000):Calls Tryz.prog 165 #[O Z n] w fun e w'=>e=.returned (bs (Lib.decDigits n))/\Below w.heap.size w w':=Es n w (by omega)
theorem aE (n:Nat):Lib.itoa (n:Int)=Lib.decDigits n:=by
 unfold Lib.itoa
 rw[if_neg (by omega)]
 rfl
theorem jf (n:Nat)(w:World)(h:n<5000000000):Calls Tryz.prog 165 #[O Z n] w fun e w'=>e=.returned (.string ⟨(Lib.decDigits n).toArray⟩)/\Below w.heap.size w w':=tX n w h
theorem bK (a b:List UInt8)(m n:Nat)(ha:a.length<=m)(hb:b.length<=n)(hm:m<=1000:=by decide)(hn:n<=1000:=by decide):
 ∃ z,z=a++b/\(⟨a.toArray⟩:ByteArray)++⟨b.toArray⟩=⟨z.toArray⟩/\¬ 9223372036854775807<a.length+b.length/\z.length<=m+n:=
 ⟨a++b,rfl,cW a b,by omega,by simp;omega⟩
theorem mV (s:List UInt8)(f i:Nat)(h:f<=i)(hi:i<=s.length)(w:World):(Instr.slice 9 (.string ⟨s.toArray⟩) (U (O Z f)) (U (O Z i)) T).run Tryz.prog w=.ok (.string ⟨((s.take i).drop f).toArray⟩) w:=by
 have hu:=Tryz.underlying9
 go_simp
 apply ByteArray.ext
 rw[ByteArray.data_extract]
 apply Array.ext'
 simp[List.drop_take]
def gG (P:Program)(K:Value->World->Prop):Result Next->Prop
 | .ok (.value v) W'=>K v W'
 | .ok .skip W'=>K undef W'
 | .ok (.enter f args) W'=>Calls P f args W' fun e W2=>∃ v,e=.returned v/\K v W2
 | _=>False
def dk (P:Program)(ops:Array Oper)(K:Value->World->Prop)(o:Oper)(a:Act)(W:World):Prop:=
 if Region.wanted o (yielded ops a.tmps)=G then gG P K ((execOp a.eval o).run P W) else K undef W
theorem gu {P:Program}{ops:Array Oper}{F:Value->World->Prop}{K:Value->World->Prop}{o:Oper}{a:Act}{W:World}(h:cZ P ops F o a W)(hK:∀ v W',F v W'->Below W.heap.size W W'->K v W'):dk P ops K o a W:=by
 unfold cZ at h
 unfold dk
 by_cases hw:Region.wanted o (yielded ops a.tmps)=G
 ·rw[if_pos hw] at h ⊢
  generalize (execOp a.eval o).run P W=r at *
  cases r with
  | ok x W'=>
   cases x <;> simp only[lu,gG] at h ⊢
   ·exact hK _ _ h.1 h.2
   ·exact hK _ _ h.1 h.2
   ·exact h.mono fun e W2 ⟨v,he,h1,h2⟩=>⟨v,he,hK _ _ h1 h2⟩
  | halt x W'=>simp only[lu] at h
 ·rw[if_neg hw] at h ⊢
  exact hK _ _ h (X _ _)
theorem aM {P:Program}{ops:Array Oper}{K:Value->World->Prop}{o:Oper}{a:Act}{W:World}(hg:o.guard=T)(h:gG P K ((execOp a.eval o).run P W)):dk P ops K o a W:=by
 unfold dk
 rw[if_pos (by simp[Region.wanted,hg])]
 exact h
theorem gz {P:Program}{ops:Array Oper}{K K':Value->World->Prop}{o:Oper}{a:Act}{W:World}(h:dk P ops K o a W)(hK:∀ v W',K v W'->K' v W'):dk P ops K' o a W:=by
 unfold dk at *
 by_cases hw:Region.wanted o (yielded ops a.tmps)=G
 ·rw[if_pos hw] at h ⊢
  generalize (execOp a.eval o).run P W=r at *
  cases r with
  | ok x W'=>
   cases x <;> simp only[gG] at h ⊢
   ·exact hK _ _ h
   ·exact hK _ _ h
   ·exact h.mono fun e W2 ⟨v,he,h1⟩=>⟨v,he,hK _ _ h1⟩
  | halt x W'=>simp only[gG] at h
 ·rw[if_neg hw] at h ⊢
  exact hK _ _ h
theorem fi {P:Program}{ops:Array Oper}{Q:Exit->Act->World->Prop}{id:Nat}{a:Act}{w:World}(hm:P.follows .mixedOrders=G)(hr:nL ops=G)(I:(Nat->Bool)->(Nat->Value)->World->Prop)
 (h0:I (fun _=>J) (fun _=>undef) w.drew)
 (hop:∀ i o,ops[i]?=U o->∀ (d:Nat->Bool) (vs:Nat->Value) W,I d vs W->d i=J->(∀ j∈bm ops i,d j=G)->dk P ops (fun v W'=>I (fun j=>if j=i then G else d j) (fun j=>if j=i then v else vs j) W') o (aH ops a (fun _=>G) vs) W)
 (hend:∀ (d:Nat->Bool) (vs:Nat->Value) W,I d vs W->(∀ i,i<ops.size->d i=G)->Q .normal (aH ops a (fun _=>G) vs) W):(Code.region id ops G).wp P Q a w:=by
 have hR:∀ i o,ops[i]?=U o->rI o.op=G/\(∀ t∈o.looksAt ops,∀ j,fb ops t=U j->j∈bm ops i)/\(∀ x,o.dst=U x->fb ops x=U i)/\∀ j∈bm ops i,j<i:=by
  intro i o ho
  have hi:i<ops.size:=(Array.getElem?_eq_some_iff.1 ho).1
  unfold nL at hr
  have h:=List.all_eq_true.1 hr i (List.mem_range.2 hi)
  rw[ho] at h
  simp only[Bool.and_eq_true] at h
  refine⟨h.1.1.1,fun t ht j hj=>?_,fun x hx=>?_,fun j hj=>?_⟩
  ·have:=List.all_eq_true.1 h.1.1.2 t ht
   rw[hj] at this
   simpa using this
  ·have:=h.1.2
   rw[hx] at this
   simpa using this
  ·have:=List.all_eq_true.1 h.2 j hj
   simpa using this
 have hN:∀ t i o,ops[i]?=U o->fb ops t=U i->o.dst=U t:=by
  intro t i o ho h
  have:=List.find?_some h
  simp only[zL,ho,Option.bind_some,beq_iff_eq] at this
  exact this
 refine nD hm (fun listed a' W=>∃ vs:Nat->Value,listed.size=ops.size/\a'=aH ops a (fun i=>listed.getD i J) vs/\I (fun i=>listed.getD i J) vs W) ?_ ?_ ?_
 ·have e:(fun i=>(Array.replicate ops.size J).getD i J)=fun _=>J:=by
   funext i
   rw[Array.getD_eq_getD_getElem?,Array.getElem?_replicate]
   split <;> rfl
  refine⟨fun _=>undef,by simp,?_,?_⟩
  ·rw[e,mt]
  ·rw[e];exact h0
 ·rintro listed a' W i ⟨vs,hsz,rfl,hI⟩ hi
  have hfree:=gY hi
  have hready:=hi
  unfold Region.ready at hready
  rw[List.mem_filter,List.mem_range] at hready
  obtain⟨hlt,hc⟩:=hready
  simp only[Bool.and_eq_true] at hc
  have hc2:=hc.2
  have ho:ops[i]?=U ops[i]:=Array.getElem?_eq_getElem hlt
  rw[ho] at hc2
  simp only[Option.map_some,Option.getD_some] at hc2
  rw[<-Array.all_toList,List.all_eq_true] at hc2
  generalize ops[i]=o at *
  obtain⟨r1,r2,r3,r4⟩:=hR i o ho
  have hdep:∀ j∈bm ops i,listed.getD j J=G:=by
   intro j hj
   unfold bm at hj
   rw[ho] at hj
   simp only[List.mem_map,List.mem_filter] at hj
   obtain⟨e,⟨he,hb⟩,rfl⟩:=hj
   have:=hc2 e he
   simpa [hb] using this
  obtain⟨s1,s2⟩:=jm ops a (fun i=>listed.getD i J) vs o r1 fun t ht j hj=>hdep j (r2 t ht j hj)
  have hif:listed.getD i J=J:=by
   rw[Array.getD_eq_getD_getElem?,<-Array.getElem?_toList,hfree];rfl
  have hl:=hop i o ho (fun i=>listed.getD i J) vs W hI hif hdep
  have eg:(fun j=>(listed.setIfInBounds i G).getD j J)=fun j=>if j=i then G else listed.getD j J:=by
   funext j
   rw[Array.getD_eq_getD_getElem?,Array.getElem?_setIfInBounds,Array.getD_eq_getD_getElem?]
   by_cases e:j=i
   ·subst e
    simp[hsz,hlt]
   ·rw[if_neg (fun e2=>e e2.symm),if_neg e]
  have next:∀ v W',I (fun j=>if j=i then G else listed.getD j J) (fun j=>if j=i then v else vs j) W'->∃ vs':Nat->Value,(listed.setIfInBounds i G).size=ops.size/\(aH ops a (fun i=>listed.getD i J) vs).put o.dst v=aH ops a (fun j=>(listed.setIfInBounds i G).getD j J) vs'/\I (fun j=>(listed.setIfInBounds i G).getD j J) vs' W':=by
   intro v W' hK
   refine⟨fun j=>if j=i then v else vs j,by simpa using hsz,?_,?_⟩
   ·rw[eg]
    exact oG ops a _ vs i o ho r3 (fun t ht=>hN t i o ho ht) hif v
   ·rw[eg];exact hK
  unfold wpOp
  rw[ho]
  simp only
  unfold dk at hl
  rw[s2]
  by_cases hw:Region.wanted o (yielded ops (aH ops a (fun _=>G) vs).tmps)=G
  ·rw[if_pos hw] at hl ⊢
   refine .inl ?_
   unfold Oper.wp
   rw[s1]
   generalize (execOp (aH ops a (fun _=>G) vs).eval o).run P W=r at *
   cases r with
   | ok x W'=>
    cases x <;> simp only[gG] at hl
    ·rw[Oper.upon_value];exact next _ _ hl
    ·rw[Oper.upon_skip];exact next _ _ hl
    ·rw[Oper.upon_enter]
     refine hl.mono ?_
     rintro e W2 ⟨v,rfl,h1⟩
     exact next _ _ h1
   | halt x W'=>simp only[gG] at hl
  ·rw[if_neg hw] at hl ⊢
   exact next _ _ hl
 ·rintro listed a' W ⟨vs,hsz,rfl,hI⟩ he
  have hall:∀ n i,i<n->i<ops.size->listed.getD i J=G:=by
   intro n
   induction n with
   | zero=>intro i h;omega
   | succ n ih=>
    intro i h hi
    by_cases hin:i<n
    ·exact ih i hin hi
    ·obtain rfl:i=n:=by omega
     cases hl:listed.getD i J with
     | true=>rfl
     | false=>
      exfalso
      have hm2:i∈Region.ready .any ops listed:=by
       unfold Region.ready
       rw[List.mem_filter,List.mem_range]
       refine⟨hi,?_⟩
       have ho:ops[i]?=U ops[i]:=Array.getElem?_eq_getElem hi
       have hd:=(hR i _ ho).2.2.2
       rw[ho]
       simp only[Option.map_some,Option.getD_some,Bool.and_eq_true]
       constructor
       ·rw[Array.getD_eq_getD_getElem?] at hl ⊢
        rw[Array.getElem?_eq_getElem (by omega)] at hl ⊢
        simp at hl ⊢
        exact hl
       ·rw[<-Array.all_toList,List.all_eq_true]
        intro e he
        by_cases hb:Region.binds .any e=G
        ·have hmem:e.on∈bm ops i:=by
          unfold bm
          rw[ho]
          simp only[List.mem_map,List.mem_filter]
          exact⟨e,⟨he,hb⟩,rfl⟩
         have hlt:=hd _ hmem
         rw[ih e.on hlt (by omega)]
         simp
        ·simp[hb]
      rw[he] at hm2
      cases hm2
  have e:aH ops a (fun i=>listed.getD i J) vs=aH ops a (fun _=>G) vs:=by
   have wS:(aH ops a (fun i=>listed.getD i J) vs).tmps=(aH ops a (fun _=>G) vs).tmps:=by
    apply Array.ext_getElem?
    intro t
    rw[fy,fy]
    cases h2:fb ops t with
    | none=>rfl
    | some i=>
     have hlt:i<ops.size:=List.mem_range.1 (List.mem_of_find?_eq_some h2)
     simp[hall (i+1) i (by omega) hlt]
   have e1:aH ops a (fun i=>listed.getD i J) vs=⟨(aH ops a (fun i=>listed.getD i J) vs).tmps,a.defers⟩:=rfl
   have e2:aH ops a (fun _=>G) vs=⟨(aH ops a (fun _=>G) vs).tmps,a.defers⟩:=rfl
   rw[e1,e2,wS]
  rw[e]
  exact hend _ vs W hI fun i hi=>hall (i+1) i (by omega) hi
def pJ (P:Program)(ops:Array Oper)(F:Nat->Value->World->Prop)(lit:(Nat->Value)->Act)(w:World)(sk:Nat->Bool):List Oper->Nat->Prop
 | [],_=>True
 | o :: rest,i=>(sk i=J->∀ (vs:Nat->Value) W,Below w.heap.size w W->(∀ j∈bm ops i,sk j=J->F j (vs j) W)->cZ P ops (F i) o (lit vs) W)/\pJ P ops F lit w sk rest (i+1)
theorem mu {P:Program}{ops:Array Oper}{F:Nat->Value->World->Prop}{lit:(Nat->Value)->Act}{w:World}{sk:Nat->Bool}:∀ (l:List Oper) (n:Nat),pJ P ops F lit w sk l n->∀ i o,l[i]?=U o->sk (n+i)=J->∀ (vs:Nat->Value) W,Below w.heap.size w W->(∀ j∈bm ops (n+i),sk j=J->F j (vs j) W)->cZ P ops (F (n+i)) o (lit vs) W
 | [],n,_,i,o,h=>by simp at h
 | x :: l,n,hx,0,o,h=>by
  simp at h
  subst h
  exact hx.1
 | x :: l,n,hx,i+1,o,h=>by
  have:=mu l (n+1) hx.2 i o (by simpa using h)
  rw[show n+1+i=n+(i+1) by omega] at this
  exact this
theorem ja {P:Program}{l:List Oper}{Q:Exit->Act->World->Prop}{id:Nat}{a:Act}{w:World}(na ns:Nat)(t:TypeId)(cs0:Array Value)(put:World->Nat->World)(done:World->Nat->Prop)(lit:(Nat->Value)->Act)(F:Nat->Value->World->Prop)
 (hm:P.follows .mixedOrders=G) (hr:nL l.toArray=G) (hns:(na != ns && (bm l.toArray ns).contains na)=G) (hlen:(decide (na<l.length) && decide (ns<l.length))=G) (hlit:∀ vs,aH l.toArray a (fun _=>G) vs=lit vs)
 (hst:∀ i v W W',F i v W->Below W.heap.size W W'->F i v W')
 (hst2:∀ i v W b,F i v W->Bk W b t cs0->F i v (put W b))
 (hd1:∀ W W' b,done W b->Below W.heap.size W W'->done W' b)
 (hbel:∀ W b,w.heap.size<=b->Below w.heap.size w W->Below w.heap.size w (put W b))
 (hdone:∀ W b,Bk W b t cs0->done (put W b) b)
 (hnew:∀ o,l[na]?=U o->∀ (vs:Nat->Value) W,Below w.heap.size w W->cZ P l.toArray (fun v W'=>∃ b,v=C (U ⟨b,0,T⟩)/\w.heap.size<=b/\Bk W' b t cs0) o (lit vs) W)
 (hsto:∀ o,l[ns]?=U o->∀ (vs:Nat->Value) W b,Below w.heap.size w W->(∀ j∈bm l.toArray ns,(decide (j=na) || decide (j=ns))=J->F j (vs j) W)->vs na=C (U ⟨b,0,T⟩)->Bk W b t cs0->dk P l.toArray (fun _ W'=>W'=put W b) o (lit vs) W)
 (hop:pJ P l.toArray F lit w (fun j=>decide (j=na) || decide (j=ns)) l 0)
 (hend:∀ (vs:Nat->Value) W b,Below w.heap.size w W->(∀ i,i<l.length->(decide (i=na) || decide (i=ns))=J->F i (vs i) W)->vs na=C (U ⟨b,0,T⟩)->w.heap.size<=b->done W b->Q .normal (lit vs) W):(Code.region id l.toArray G).wp P Q a w:=by
 simp only[Bool.and_eq_true,bne_iff_ne,ne_eq,List.contains_iff_mem,decide_eq_true_eq] at hns hlen
 obtain⟨hne,hdn⟩:=hns
 refine fi hm hr (fun d vs W=>Below w.heap.size w W/\(∀ i,d i=G->(decide (i=na) || decide (i=ns))=J->F i (vs i) W)/\(d na=G->∃ b,vs na=C (U ⟨b,0,T⟩)/\w.heap.size<=b/\((d ns=J/\Bk W b t cs0)\/(d ns=G/\done W b)))/\(d ns=G->d na=G)) ?_ ?_ ?_
 ·exact⟨(X _ _).drew,(fun i h=>by cases h),(fun h=>by cases h),(fun h=>by cases h)⟩
 ·rintro i o ho d vs W ⟨hB,hF,hA,hS⟩ hdi hdep
  have ho':l[i]?=U o:=by simpa using ho
  rw[hlit]
  by_cases hina:i=na
  ·subst hina
   have hdns:d ns=J:=by
    cases e:d ns with
    | false=>rfl
    | true=>rw[hS e] at hdi;cases hdi
   refine gu (hnew o ho' vs W hB) ?_
   rintro v W' ⟨b,hv,hb,hk⟩ hbw
   dsimp only
   refine⟨hB.trans (hbw.mono hB.size),fun j hj hsk=>?_,fun _=>⟨b,by rw[if_pos rfl];exact hv,hb,.inl ⟨by rw[if_neg (fun e=>hne e.symm)];exact hdns,hk⟩⟩,fun _=>by rw[if_pos rfl]⟩
   have hji:j≠i:=fun e=>by subst e;simp at hsk
   rw[if_neg hji] at hj ⊢
   exact hst j _ _ _ (hF j hj hsk) hbw
  ·by_cases hins:i=ns
   ·subst hins
    have hdna:=hdep na hdn
    obtain⟨b,hv,hb,⟨_,hk⟩ | ⟨h,_⟩⟩:=hA hdna
    ·refine gz (hsto o ho' vs W b hB (fun j hj hsk=>hF j (hdep j hj) hsk) hv hk) ?_
     rintro v W' rfl
     dsimp only
     refine⟨hbel W b hb hB,fun j hj hsk=>?_,fun _=>⟨b,by rw[if_neg hne];exact hv,hb,.inr ⟨by rw[if_pos rfl],hdone W b hk⟩⟩,fun _=>by rw[if_neg hne];exact hdna⟩
     have hji:j≠i:=fun e=>by subst e;simp at hsk
     rw[if_neg hji] at hj ⊢
     exact hst2 j _ _ _ (hF j hj hsk) hk
    ·rw[hdi] at h;cases h
   ·have hsk0:(decide (i=na) || decide (i=ns))=J:=by simp[hina,hins]
    have:=mu l 0 hop i o ho' (by rw[Nat.zero_add];exact hsk0) vs W hB (by rw[Nat.zero_add];exact fun j hj hsk=>hF j (hdep j hj) hsk)
    rw[Nat.zero_add] at this
    refine gu this ?_
    intro v W' hv hbw
    dsimp only
    refine⟨hB.trans (hbw.mono hB.size),fun j hj hsk=>?_,fun h=>?_,fun h=>?_⟩
    ·by_cases e:j=i
     ·subst e;rw[if_pos rfl];exact hv
     ·rw[if_neg e] at hj ⊢
      exact hst j _ _ _ (hF j hj hsk) hbw
    ·rw[if_neg (fun e=>hina e.symm)] at h ⊢
     obtain⟨b,h1,h2,h3⟩:=hA h
     rw[if_neg (fun e=>hins e.symm)]
     refine⟨b,h1,h2,?_⟩
     rcases h3 with ⟨h3,h4⟩ | ⟨h3,h4⟩
     ·exact .inl ⟨h3,(hbw.block b h4.lt).trans h4⟩
     ·exact .inr ⟨h3,hd1 _ _ _ h4 hbw⟩
    ·rw[if_neg (fun e=>hins e.symm)] at h
     rw[if_neg (fun e=>hina e.symm)]
     exact hS h
 ·rintro d vs W ⟨hB,hF,hA,hS⟩ hall
  rw[hlit]
  obtain⟨b,h1,h2,⟨h3,_⟩ | ⟨_,h4⟩⟩:=hA (hall na (by simpa using hlen.1))
  ·rw[hall ns (by simpa using hlen.2)] at h3;cases h3
  ·exact hend vs W b hB (fun i hi hsk=>hF i (hall i (by simpa using hi)) hsk) h1 h2 h4
theorem gN {R:World->World->Prop}{ps:List (Nat×(Value->World->Prop))}{l:List Value}(h:∀ x∈ps,∀ v W W',x.2 v W->R W W'->x.2 v W'):∀ i v W W',lE ps l i v W->R W W'->lE ps l i v W':=by
 intro i v W W' hm hb
 unfold lE at *
 cases hl:ps.lookup i with
 | none=>rw[hl] at hm;exact hm
 | some p=>
  rw[hl] at hm
  have:(i,p)∈ps:=by
   clear hm h
   induction ps with
   | nil=>cases hl
   | cons x ps ih=>
    obtain⟨k,q⟩:=x
    rw[List.lookup_cons] at hl
    by_cases e:i=k
    ·subst e;simp at hl;subst hl;exact List.mem_cons_self
    ·have e2:(i==k)=J:=by simpa using e
     rw[e2] at hl
     exact List.mem_cons_of_mem _ (ih hl)
  exact h _ this v W W' hm hb
theorem Cf (x:Int)(h0:0<=x)(h1:x<4294967296):bits .and .u32 x 4095=x % 4096:=by
 rw[u32_and x 4095 h0 h1 (by omega) (by omega),show (4095:Int).toNat=4095 from rfl,nat_mask12];omega
theorem EW (x:Int)(h0:0<=x)(h1:x<4294967296):bits .and .u32 x 262143=x % 262144:=by
 rw[u32_and x 262143 h0 h1 (by omega) (by omega),show (262143:Int).toNat=262143 from rfl,nat_mask18];omega
theorem FE (g i:Int)(g0:0<=g)(g1:g<262144)(i0:0<=i)(i1:i<4096):bits .or .u32 (g*4096) i=g*4096+i:=by
 rw[u32_or _ _ (by omega) (by omega) (by omega) (by omega),nat_join 12 _ _ (by omega) (by omega)];omega
theorem nB (h:Int)(h0:0<=h)(h1:h<4294967296)(w:World):
 Calls Tryz.prog 125 #[O V h] w fun e w'=>e=.returned (O Z (h % 4096))/\w=w':=by
 go_enter Tryz.func125,Tryz.ntmps125
 go_wp2
 go_ret
 exact⟨bu (by rw[Cf h h0 h1,IntWalk.wrap64_in _ (by omega)]),rfl⟩
theorem B3 (i g:Int)(i0:0<=i)(i1:i<4096)(g0:0<=g)(g1:g<262144)(w:World):
 Calls Tryz.prog 150 #[O V i,O V g] w fun e w'=>e=.returned (O V (g*4096+i))/\w=w':=by
 go_enter Tryz.func150,Tryz.ntmps150
 go_wp2
 go_ret
 exact⟨bu (FE g i g0 g1 i0 i1),rfl⟩
theorem EH (h:Int)(h0:0<=h)(h1:h<4294967296)(w:World):
 Calls Tryz.prog 124 #[O V h] w fun e w'=>e=.returned (O V ((h / 4096+1) % 262144*4096+h % 4096))/\w=w':=by
 go_enter Tryz.func124,Tryz.ntmps124
 go_wp2_with fail
 rw[Cf h h0 h1,EW (h / 4096+1) (by omega) (by omega)]
 refine(B3 _ _ (by omega) (by omega) (by omega) (by omega) _).mono ?_
 rintro e w' ⟨rfl,rfl⟩
 go_wp2
 go_ret
 exact⟨rfl,rfl⟩
theorem xT (i g:Int)(i0:0<=i)(i1:i<4096)(g0:0<=g)(g1:g<262144)(w:World):
 Calls Tryz.prog 117 #[O Z i,O Z g] w fun e w'=>e=.returned (.tuple #[O V (g*4096+i),O Z 0])/\w=w':=by
 go_enter Tryz.func117,Tryz.ntmps117
 go_wp2_with fail
 refine(B3 _ _ (by omega) (by omega) (by omega) (by omega) _).mono ?_
 rintro e w' ⟨rfl,rfl⟩
 go_wp2
 go_ret2
 exact⟨rfl,rfl⟩
theorem lZ:(Tryz.prog.info? 3).map (fun i=>(i.zero,i.size,i.bytes))=U (U (O Z 0),1,8):=by kernel_rfl
def iv (i:aN):Value:=.agg #[O Z i.op,O Z i.d,O Z i.s,O Z i.t,O Z i.u,O Z i.a,O V i.k,O Z i.pl]
theorem xz (a b c d:List UInt8)(h1:a=c)(h2:b=d):Ending.returned (.tuple #[.string ⟨a.toArray⟩,.string ⟨b.toArray⟩])=.returned (.tuple #[bs c,bs d]):=by rw[h1,h2];rfl
theorem yG (op:Int)(h:op<1\/13<op)(w:World):
 Calls Tryz.prog 147 #[O Z op] w fun e w'=>e=.returned (.tuple #[bs (bD op),bs (cM op)])/\w=w':=by
 rcases cq op with rfl|rfl|rfl|rfl|rfl|rfl|rfl|rfl|rfl|rfl|rfl|rfl|rfl|rfl|rfl|rfl|rfl|rfl|rfl|rfl|rfl | hn
 rotate_right
 ·obtain⟨n1,n2,n3,n4,n5,n6,n7,n8,n9,n10,n11,n12,n13,n16,n17,n18,n19,n20,n21,n22,n23⟩:=hn
  have en:bD op=[]:=by unfold bD;simp[*]
  have eh:cM op=[]:=by unfold cM;simp[*]
  have E:=A en
  have F:=A eh
  clear en eh
  have b16:(op==16)=J:=by simpa using n16
  have b17:(op==17)=J:=by simpa using n17
  have b18:(op==18)=J:=by simpa using n18
  have b19:(op==19)=J:=by simpa using n19
  have b20:(op==20)=J:=by simpa using n20
  have b21:(op==21)=J:=by simpa using n21
  have b22:(op==22)=J:=by simpa using n22
  have b23:(op==23)=J:=by simpa using n23
  clear n1 n2 n3 n4 n5 n6 n7 n8 n9 n10 n11 n12 n13 n16 n17 n18 n19 n20 n21 n22 n23
  go_enter Tryz.func147,Tryz.ntmps147
  go_wp2
  go_ret2
  exact⟨xz _ _ _ _ E.out.symm F.out.symm,rfl⟩
 all_goals first | (exfalso;omega) | skip
 all_goals
  go_enter Tryz.func147,Tryz.ntmps147
  go_wp2
  go_ret2
  exact⟨rfl,rfl⟩
theorem wK (op:Int)(w:World):
 Calls Tryz.prog 110 #[O Z op] w fun e w'=>e=.returned (.tuple #[bs (bD op),bs (cM op)])/\w=w':=by
 by_cases h:op<1\/13<op
 ·have hm:=A (yG op h w)
  have b1:(op==1)=J:=by simp;omega
  have b2:(op==2)=J:=by simp;omega
  have b3:(op==3)=J:=by simp;omega
  have b4:(op==4)=J:=by simp;omega
  have b5:(op==5)=J:=by simp;omega
  have b6:(op==6)=J:=by simp;omega
  have b7:(op==7)=J:=by simp;omega
  have b8:(op==8)=J:=by simp;omega
  have b9:(op==9)=J:=by simp;omega
  have b10:(op==10)=J:=by simp;omega
  have b11:(op==11)=J:=by simp;omega
  have b12:(op==12)=J:=by simp;omega
  have b13:(op==13)=J:=by simp;omega
  go_enter Tryz.func110,Tryz.ntmps110
  go_wp2_with fail
  refine hm.out.mono ?_
  rintro e w' ⟨rfl,rfl⟩
  go_wp2
  go_ret2
  exact⟨rfl,rfl⟩
 ·rcases cq op with rfl|rfl|rfl|rfl|rfl|rfl|rfl|rfl|rfl|rfl|rfl|rfl|rfl|rfl|rfl|rfl|rfl|rfl|rfl|rfl|rfl | hn
  rotate_right
  ·exfalso;omega
  all_goals first | (exfalso;omega) | skip
  all_goals
   go_enter Tryz.func110,Tryz.ntmps110
   go_wp2
   go_ret2
   exact⟨rfl,rfl⟩
theorem yJ (op:Int)(p:Int)(w:World):
 Calls Tryz.prog 148 #[O Z op] w fun e w'=>e=.returned (.tuple #[O Z (eR op 75),O Z (ep op 75 p)])/\w=w':=by
 by_cases h:op=5\/op=6\/op=12\/op=13\/op=21
 ·rcases h with rfl|rfl|rfl|rfl|rfl
  all_goals
   go_enter Tryz.func148,Tryz.ntmps148
   go_wp2
   go_ret2
   exact⟨rfl,rfl⟩
 ·have b5:(op==5)=J:=by simp;omega
  have b6:(op==6)=J:=by simp;omega
  have b12:(op==12)=J:=by simp;omega
  have b13:(op==13)=J:=by simp;omega
  have b21:(op==21)=J:=by simp;omega
  have E:=A (show eR op 75=0 by unfold eR;simp;omega)
  have F:=A (show ep op 75 p=4294967296 by unfold ep;simp;omega)
  go_enter Tryz.func148,Tryz.ntmps148
  go_wp2
  go_ret2
  exact⟨by rw[E.out,F.out];rfl,rfl⟩
theorem By (op c p:Int)(hc:BO c)(w:World):
 Calls Tryz.prog 111 #[O Z op,O .u8 c,O Z p] w fun e w'=>e=.returned (.tuple #[O Z (eR op c),O Z (ep op c p)])/\w=w':=by
 rcases hc with rfl|rfl|rfl|rfl|rfl|rfl|rfl
 rotate_right
 ·by_cases h:op=21
  ·subst h
   by_cases hp:p<0
   ·have E:=A (show ep 21 80 p=0 by unfold ep;simp[hp])
    have hq:¬ (0:Int)<=p:=by omega
    go_enter Tryz.func111,Tryz.ntmps111
    go_wp2
    go_ret2
    exact⟨by rw[E.out];first | rfl | (rw[Int.max_eq_right (show p<=0 by omega)];rfl),rfl⟩
   ·have E:=A (show ep 21 80 p=p by unfold ep;simp;omega)
    have hq:(0:Int)<=p:=by omega
    go_enter Tryz.func111,Tryz.ntmps111
    go_wp2
    go_ret2
    exact⟨by rw[E.out];first | rfl | (rw[Int.max_eq_left (show 0<=p by omega)];rfl),rfl⟩
  ·have b21:(op==21)=J:=by simpa using h
   have E:=A (show ep op 80 p=p by unfold ep;simp[h])
   have F:=A (show eR op 80=0 by unfold eR;simp[h])
   go_enter Tryz.func111,Tryz.ntmps111
   go_wp2
   go_ret2
   exact⟨by rw[E.out,F.out];rfl,rfl⟩
 rotate_right
 ·have H:=A (yJ op p w)
  go_enter Tryz.func111,Tryz.ntmps111
  go_wp2_with fail
  refine H.out.mono ?_
  rintro e w' ⟨rfl,rfl⟩
  go_wp2
  go_ret2
  exact⟨rfl,rfl⟩
 all_goals
  go_enter Tryz.func111,Tryz.ntmps111
  go_wp2
  go_ret2
  exact⟨rfl,rfl⟩
theorem Fd (i:aN)(c:Int)(hc:BO c)(k0:0<=i.k)(k1:i.k<4294967296)(w:World):
 Calls Tryz.prog 112 #[iv i,O .u8 c] w fun e w'=>e=.returned (O Z (aZ i c))/\Below w.heap.size w w':=by
 obtain⟨op,d,s,t,u,a,k,pl⟩:=i
 simp only at k0 k1
 unfold iv
 rcases hc with rfl|rfl|rfl|rfl|rfl|rfl|rfl
 all_goals
  go_enter Tryz.func112,Tryz.ntmps112
  go_wp2
  go_ret
  exact⟨rfl,(X _ _).alloc (Y _) _⟩
theorem Fc (i:aN)(c v:Int)(hc:BO c)(w:World):
 Calls Tryz.prog 113 #[iv i,O .u8 c,O Z v] w fun e w'=>e=.returned (iv (cH i c v))/\Below w.heap.size w w':=by
 obtain⟨op,d,s,t,u,a,k,pl⟩:=i
 unfold iv
 rcases hc with rfl|rfl|rfl|rfl|rfl|rfl|rfl
 ·go_enter Tryz.func113,Tryz.ntmps113
  go_wp2
  refine bodyPost_ret (v:=.agg #[O Z op,O Z v,O Z s,O Z t,O Z u,O Z a,O V k,O Z pl]) (by simp[results,Tryz.results113,go_sem]) rfl ⟨rfl,?_⟩
  exact((X _ _).alloc (Y _) _).alloc (by simp) _
 ·go_enter Tryz.func113,Tryz.ntmps113
  go_wp2
  refine bodyPost_ret (v:=.agg #[O Z op,O Z d,O Z v,O Z t,O Z u,O Z a,O V k,O Z pl]) (by simp[results,Tryz.results113,go_sem]) rfl ⟨rfl,?_⟩
  exact((X _ _).alloc (Y _) _).alloc (by simp) _
 ·go_enter Tryz.func113,Tryz.ntmps113
  go_wp2
  refine bodyPost_ret (v:=.agg #[O Z op,O Z d,O Z s,O Z v,O Z u,O Z a,O V k,O Z pl]) (by simp[results,Tryz.results113,go_sem]) rfl ⟨rfl,?_⟩
  exact((X _ _).alloc (Y _) _).alloc (by simp) _
 ·go_enter Tryz.func113,Tryz.ntmps113
  go_wp2
  refine bodyPost_ret (v:=.agg #[O Z op,O Z d,O Z s,O Z t,O Z v,O Z a,O V k,O Z pl]) (by simp[results,Tryz.results113,go_sem]) rfl ⟨rfl,?_⟩
  exact((X _ _).alloc (Y _) _).alloc (by simp) _
 ·go_enter Tryz.func113,Tryz.ntmps113
  go_wp2
  refine bodyPost_ret (v:=.agg #[O Z op,O Z d,O Z s,O Z t,O Z u,O Z v,O V k,O Z pl]) (by simp[results,Tryz.results113,go_sem]) rfl ⟨rfl,?_⟩
  exact((X _ _).alloc (Y _) _).alloc (by simp) _
 ·go_enter Tryz.func113,Tryz.ntmps113
  go_wp2
  refine bodyPost_ret (v:=.agg #[O Z op,O Z d,O Z s,O Z t,O Z u,O Z a,O V (v % 4294967296),O Z pl]) (by simp[results,Tryz.results113,go_sem]) rfl ⟨rfl,?_⟩
  exact((X _ _).alloc (Y _) _).alloc (by simp) _
 ·go_enter Tryz.func113,Tryz.ntmps113
  go_wp2
  refine bodyPost_ret (v:=.agg #[O Z op,O Z d,O Z s,O Z t,O Z u,O Z a,O V k,O Z v]) (by simp[results,Tryz.results113,go_sem]) rfl ⟨rfl,?_⟩
  exact((X _ _).alloc (Y _) _).alloc (by simp) _
def cX (op:Int):Bool:=decide (16<=op) && decide (op<=23)
theorem kg (i:aN)(w:World):
 Calls Tryz.prog 80 #[iv i] w fun e w'=>e=.returned (.bool (cX i.op))/\Below w.heap.size w w':=by
 obtain⟨op,d,s,t,u,a,k,pl⟩:=i
 unfold iv
 by_cases h:16<=op
 ·by_cases h2:op<=23
  ·have E:=A (show cX op=G by simp[cX,h,h2])
   go_enter Tryz.func80,Tryz.ntmps80
   go_wp2
   go_ret
   exact⟨by rw[E.out];rfl,(X _ _).alloc (Y _) _⟩
  ·have E:=A (show cX op=J by simp[cX,h2])
   have h3:decide (op<=23)=J:=by simp[h2]
   go_enter Tryz.func80,Tryz.ntmps80
   go_wp2
   go_ret
   exact⟨by rw[E.out];rfl,(X _ _).alloc (Y _) _⟩
 ·have E:=A (show cX op=J by simp[cX,h])
  have h3:decide (op>=16)=J:=by simp;omega
  go_enter Tryz.func80,Tryz.ntmps80
  go_wp2
  go_ret
  exact⟨by rw[E.out];rfl,(X _ _).alloc (Y _) _⟩
end
section
def wH (l:List En)(t:Int):Int:=l.foldl (fun k x=>if x.th=t then x.kind else k) 0
def Gd (l:List En)(i:Nat):Option Int:=match l[i]? with
 | some x=>if x.kind=2/\wH l x.th=2/\wH (l.drop (i+1)) x.th=0 then U x.th else T
 | none=>T
def CN (l:List En):List Int:=(List.range l.length).filterMap (Gd l)
def FD (k:Int):Bool:=decide (k=3\/k=5\/k=8)
def CR (l:List En):Int:=match l.reverse.find? (fun x=>FD (wH l x.th)) with
 | some x=>x.th
 | none=>-1
def DJ (l:List En)(x:En):Prop:=0<=x.now/\match l.getLast? with
 | some y=>y.now<=x.now
 | none=>True
def zJ (last:Int)(q:List Int)(ow:Int)(x:En):Prop:=
 (x.kind=1/\(last=0\/last=6\/last=7\/last=10))\/((x.kind=2\/x.kind=7)/\last=1)\/(x.kind=3/\last=2/\q.head?=U x.th/\ow=-1)\/(x.kind=4/\last=2)\/
 (x.kind=5/\last=3)\/(x.kind=6/\last=4)\/(x.kind=8/\last=5)\/(x.kind=9/\last=8)\/(x.kind=10/\last=9)
instance (last:Int) (q:List Int) (ow:Int) (x:En):Decidable (zJ last q ow x):=by unfold zJ;infer_instance
instance (l:List En) (x:En):Decidable (DJ l x):=by
 unfold DJ
 cases l.getLast? <;> infer_instance
def B8 (n:Int)(l:List En)(x:En):Prop:=0<=x.th/\x.th<n/\DJ l x/\zJ (wH l x.th) (CN l) (CR l) x
instance (n:Int) (l:List En) (x:En):Decidable (B8 n l x):=by unfold B8;infer_instance
end
section
open Go.ChangeShapes Go.WideShapes Go.ChangeAt Go.RowKit Go.Sort
structure Lb (w:World):Prop where
 tab:Lib.TabIs Tryz.prog w "internal/strconv.uint64pow10" .u64 Lib.pow10Tab
 syn:∃ tp p,w.var? Tryz.prog "strconv.ErrSyntax" = U #[.iface tp p]
 rng:∃ tp p,w.var? Tryz.prog "strconv.ErrRange" = U #[.iface tp p]
 mx:∃ m,w.cell? ⟨0,0,T⟩=U (.int .i64 m)
 low:0<w.heap.size/\5<w.heap.size/\1<w.heap.size/\2<w.heap.size
theorem Lb.below {w w':World}(h:Lb w)(hb:Below w.heap.size w w'):Lb w':=by
 obtain⟨l0,l1,l2,l3⟩:=h.low
 have hz:=hb.size
 refine⟨?_,?_,?_,?_,by omega,by omega,by omega,by omega⟩
 ·exact var?_below hb (g:=5) (by kernel_rfl) (by omega) h.tab
 ·obtain⟨tp,p,e⟩:=h.syn
  exact⟨tp,p,var?_below hb (g:=1) (by kernel_rfl) (by omega) e⟩
 ·obtain⟨tp,p,e⟩:=h.rng
  exact⟨tp,p,var?_below hb (g:=2) (by kernel_rfl) (by omega) e⟩
 ·obtain⟨m,e⟩:=h.mx
  exact⟨m,(hb.cell (p:=⟨0,0,T⟩) (by show 0<_;omega)).trans e⟩
theorem Lb.wT {w:World}(h:Lb w)(g:fZ w):Lb g.x:=h.below g.ok
theorem tB (w:World)(k:Nat)(os:Array Obj):Below w.heap.size w (grow (w.drewN k) os):=by
 refine⟨rfl,rfl,rfl,?_,fun j hj=>?_⟩
 ·show w.heap.size<=(w.heap++os).size
  simp
 ·show (w.heap++os)[j]?=w.heap[j]?
  rw[Array.getElem?_append_left hj]
theorem EG (n:Int)(h0:-9223372036854775808<=n)(h1:n<=9223372036854775807)(w:World)(L:Lb w):
 Calls Tryz.prog 182 #[O Z n] w fun e w'=>e=.returned (bs (Lib.itoa n))/\Below w.heap.size w w':=
 (Any.strconv_Itoa Tryz.laysM171 n h0 h1 w L.tab).mono fun _ _ ⟨he,k,os,hw⟩=>⟨he,by rw[hw];exact tB w k os⟩
theorem ED (s p:List UInt8)(w:World):
 Calls Tryz.prog 178 #[bs s,bs p] w fun e w'=>e=.returned (bs (Lib.trimPrefix s p))/\w=w':=
 (Any.strings_TrimPrefix Tryz.lays101 ⟨s.toArray⟩ ⟨p.toArray⟩ w).mono fun _ _ ⟨he,hw⟩=>⟨he,hw.symm⟩
theorem AZ (s:List UInt8)(hl:s.length<=281474976710656)(v:Int)(h:Lib.atoiAll s=.ok v)(w:World):
 Calls Tryz.prog 177 #[bs s] w fun e w'=>e=.returned (.tuple #[O Z v,.nilIface])/\Below w.heap.size w w':=by
 have hs:(⟨s.toArray⟩:ByteArray).size=s.length:=by simp[ByteArray.size]
 refine(Any.strconv_Atoi_ok Tryz.laysC172 ⟨s.toArray⟩ (by omega) v h w).mono fun e w' ⟨he,hw⟩=>⟨he,?_⟩
 rcases hw with rfl | ⟨t,rfl⟩
 ·exact X _ _
 ·exact Lib.bytesWorld_below _ _ _
def DE (w:World)(e:Ending)(w':World):Prop:=∃ (v:Int) (b:Nat),e=.returned (.tuple #[O Z v,.iface 285 (C (U ⟨b,0,T⟩))])/\Below w.heap.size w w'
theorem A1 (s:List UInt8)(hl:s.length<=281474976710656)(h:∀ v,Lib.atoiAll s≠.ok v)(w:World)(L:Lb w):
 Calls Tryz.prog 177 #[bs s] w (DE w):=by
 have hs:(⟨s.toArray⟩:ByteArray).size=s.length:=by simp[ByteArray.size]
 cases ha:Lib.atoiAll s with
 | ok v=>exact absurd ha (h v)
 | range=>
  obtain⟨tp,p,hv⟩:=L.rng
  exact(Any.strconv_Atoi_range_var Tryz.laysC172 ⟨s.toArray⟩ (by omega) ha tp p w hv).mono fun e w' ⟨N,he,_,_,hb⟩=>⟨_,N,he,hb⟩
 | _=>
  obtain⟨tp,p,hv⟩:=L.syn
  exact(Any.strconv_Atoi_syntax_var Tryz.laysC172 ⟨s.toArray⟩ (by omega) ha tp p w hv).mono fun e w' ⟨N,he,_,_,hb⟩=>⟨_,N,he,hb⟩
def fp (s:List UInt8):List (List UInt8):=Lib.splitN s [32] 9
def wN (w:World)(v:Value)(ws:List (List UInt8)):Prop:=
 ∃ g cap,v=D (U ⟨g,0,T⟩) ws.length cap/\ws.length<=cap/\cap<=1000000/\g<w.heap.size/\∀ n,n<ws.length->w.cell? ⟨g,n,T⟩=U (bs (ws.getD n []))
theorem wN.below {w w':World}{v:Value}{ws:List (List UInt8)}(h:wN w v ws)(hb:Below w.heap.size w w'):wN w' v ws:=by
 obtain⟨g,cap,e,h1,h2,h3,h4⟩:=h
 exact⟨g,cap,e,h1,h2,Nat.lt_of_lt_of_le h3 hb.size,fun n hn=>(hb.cell (p:=⟨g,n,T⟩) h3).trans (h4 n hn)⟩
theorem C4 (s:List UInt8)(hl:s.length<4294967281)(w:World)(L:Lb w):
 Calls Tryz.prog 163 #[bs s,bs [32],O Z 9] w fun e w'=>∃ v,e=.returned v/\wN w' v (fp s)/\Below w.heap.size w w':=by
 obtain⟨m,hm⟩:=L.mx
 have hs:(⟨s.toArray⟩:ByteArray).size=s.length:=by simp[ByteArray.size]
 refine(Any.strings_SplitN { Tryz.laysM147 with } Tryz.laysM147.i9 ⟨s.toArray⟩ ⟨#[32]⟩ 9 m w (by omega) hm (by decide) (by decide) (by decide)).mono fun e w' ⟨he,hw⟩=>?_
 have hdat:=Lib.splitB_data ⟨#[32]⟩ 0 (min 9 ((⟨s.toArray⟩:ByteArray).size+1)-1) ⟨s.toArray⟩
 have hle:=Lib.splitB_length_le ⟨#[32]⟩ 0 (min 9 ((⟨s.toArray⟩:ByteArray).size+1)-1) ⟨s.toArray⟩
 generalize hl2:Lib.splitB ⟨#[32]⟩ 0 (min 9 ((⟨s.toArray⟩:ByteArray).size+1)-1) ⟨s.toArray⟩=l at *
 have hlen:(fp s).length=l.length:=by
  unfold fp Lib.splitN
  rw[<-hs]
  have:=congrArg List.length hdat
  simpa using this.symm
 have hcap:min 9 ((⟨s.toArray⟩:ByteArray).size+1)<=9:=Nat.min_le_left _ _
 have hcap1:1<=min 9 ((⟨s.toArray⟩:ByteArray).size+1):=by omega
 subst hw
 refine⟨_,he,⟨w.heap.size,min 9 ((⟨s.toArray⟩:ByteArray).size+1),by rw[hlen],by omega,by omega,by simp,fun n hn=>?_⟩,(X _ _).alloc (Y _) _⟩
 rw[cell_of_row _ _ _ _ _ _ (heap_alloc_new w _)]
 rw[hlen] at hn
 have h1:(Lib.cellsOf l (min 9 ((⟨s.toArray⟩:ByteArray).size+1)))[n]?=U (.string l[n]):=by
  unfold Lib.cellsOf
  rw[List.getElem?_toArray,List.getElem?_append_left (by simpa using hn),List.getElem?_map,List.getElem?_eq_getElem hn]
  rfl
 rw[h1]
 have h2:(fp s).getD n []=l[n].data.toList:=by
  have h3:fp s=l.map (·.data.toList):=by rw[hdat];unfold fp Lib.splitN;rw[hs]
  rw[h3]
  simp[hn]
 rw[h2]
 rfl
end
section
open Go.ChangeShapes Go.WideShapes Go.ChangeAt Go.RowKit
def iE (c:UInt8):List (List UInt8)->List (List UInt8)
 | []=>[[c]]
 | l :: r=>(c :: l) :: r
def ah:List UInt8->List (List UInt8)
 | []=>[[]]
 | c :: r=>if c=32 then [] :: ah r else iE c (ah r)
theorem fT:∀ s,0<(ah s).length
 | []=>by simp[ah]
 | c :: r=>by
  unfold ah
  split
  ·simp
  ·have:=fT r
   generalize ah r=ws at *
   cases ws with
   | nil=>simp at this
   | cons a b=>simp[iE]
theorem cN:∀ t:List UInt8,(∀ c∈t,c≠32)->ah t=[t]
 | [],_=>rfl
 | c :: r,h=>by
  unfold ah
  rw[if_neg (h c List.mem_cons_self),cN r fun d hd=>h d (List.mem_cons_of_mem _ hd)]
  rfl
theorem fe:∀ (t r:List UInt8),(∀ c∈t,c≠32)->ah (t++32 :: r)=t :: ah r
 | [],r,_=>by simp[ah]
 | c :: t,r,h=>by
  have e:ah (c :: (t++32 :: r))=iE c (ah (t++32 :: r)):=by
   rw[ah,if_neg (h c List.mem_cons_self)]
  show ah (c :: (t++32 :: r))=_
  rw[e,fe t r fun d hd=>h d (List.mem_cons_of_mem _ hd)]
  rfl
theorem gW:∀ s:List UInt8,(ah s).length<=s.length+1
 | []=>by simp[ah]
 | c :: r=>by
  have h:=gW r
  unfold ah
  split
  ·simp;omega
  ·generalize ah r=ws at *
   cases ws with
   | nil=>simp[iE]
   | cons a b=>simp[iE] at *;omega
theorem kv:∀ s:List UInt8,∀ l∈ah s,l.length<=s.length
 | [],l,h=>by simp[ah] at h;subst h;simp
 | c :: r,l,h=>by
  have ih:=kv r
  unfold ah at h
  split at h
  ·rcases List.mem_cons.1 h with rfl | h
   ·simp
   ·have:=ih l h;simp;omega
  ·generalize ah r=ws at *
   cases ws with
   | nil=>simp[iE] at h;subst h;simp
   | cons a b=>
    simp only[iE] at h
    rcases List.mem_cons.1 h with rfl | h
    ·have:=ih a List.mem_cons_self;simp;omega
    ·have:=ih l (List.mem_cons_of_mem _ h);simp;omega
structure fS (s:List UInt8)(out:List (List UInt8))(f i:Nat):Prop where
 le:f<=i
 no:∀ j,f<=j->j<i->s.getD j 0≠32
 all:out++ah (s.drop f)=ah s
 few:out.length<=f
theorem zv {s:List UInt8}{f i:Nat}(hi:i<=s.length)(h:∀ j,f<=j->j<i->s.getD j 0≠32):∀ c∈(s.take i).drop f,c≠32:=by
 intro c hc
 obtain⟨n,hn,rfl⟩:=List.getElem_of_mem hc
 have h1:=h (f+n) (by omega) (by simp at hn;omega)
 simp at hn
 rw[List.getElem_drop,List.getElem_take]
 simpa [show f+n<s.length by omega] using h1
theorem fS.blank {s:List UInt8}{out:List (List UInt8)}{f i:Nat}(h:fS s out f i)(hi:i<s.length)(hc:s.getD i 0=32):fS s (out++[(s.take i).drop f]) (i+1) (i+1):=by
 refine⟨Y _,fun j h1 h2=>by omega,?_,by have:=h.few;have:=h.le;simp;omega⟩
 rw[<-h.all,List.append_assoc]
 congr 1
 have e:s.drop f=(s.take i).drop f++32 :: s.drop (i+1):=by
  have e1:s=s.take i++32 :: s.drop (i+1):=by
   have hg:s[i]=32:=by simpa [hi] using hc
   rw[<-hg,<-List.drop_eq_getElem_cons hi,List.take_append_drop]
  have hle:f<=(s.take i).length:=by have:=h.le;simp;omega
  rw[<-List.drop_append_of_le_length hle,<-e1]
 rw[e,fe _ _ (zv (by omega) h.no)]
 rfl
theorem fS.last {s:List UInt8}{out:List (List UInt8)}{f:Nat}(h:fS s out f s.length):out++[(s.take s.length).drop f]=ah s:=by
 rw[<-h.all]
 congr 1
 have:=zv (Y _) h.no
 rw[List.take_length] at this ⊢
 rw[cN _ this]
theorem fS.on {s:List UInt8}{out:List (List UInt8)}{f i:Nat}(h:fS s out f i)(hc:s.getD i 0≠32):fS s out f (i+1):=
 ⟨by have:=h.le;omega,fun j h1 h2=>by
  by_cases e:j=i
  ·subst e;exact hc
  ·exact h.no j h1 (by omega),h.all,h.few⟩
def Ci (ws:List (List UInt8)):List Value:=ws.map bs
theorem qE (ws:List (List UInt8))(l:List UInt8):Ci (ws++[l])=Ci ws++[.string ⟨l.toArray⟩]:=by simp[Ci,bs]
theorem yY (s:List UInt8)(hl:s.length<100000)(w:World):
 Calls Tryz.prog 102 #[bs s] w fun e w'=>∃ v,e=.returned v/\pY 9 w' v (Ci (ah s))/\Below w.heap.size w w':=by
 unfold bs
 go_enter Tryz.func102,Tryz.ntmps102
 go_wp2
 go_loopw [3,4,5] (fun o f i x=>∃ (out:List (List UInt8)) (fn n:Nat),i=O Z n/\f=O Z fn/\pY 9 x o (Ci out)/\Below w.heap.size w x/\(∀ g,o.ownBlock=U g->w.heap.size<=g)/\n<=s.length+1/\((n<=s.length/\fS s out fn n)\/(n=s.length+1/\out=ah s))) (fun _ _ i _=>s.length+1-(intOf i).toNat)
 case atStart=>exact⟨[],0,0,rfl,rfl,pY.nil _ _,X _ _,(fun g e=>by cases e),by omega,.inl ⟨by omega,⟨Y _,fun j h1 h2=>by omega,rfl,Y _⟩⟩⟩
 case round=>
  obtain⟨out,fn,n,rfl,rfl,hV,hb,hown,hn,hW⟩:=hrel
  rcases hW with ⟨hle,hW⟩ | ⟨rfl,rfl⟩
  ·have hfew:=hW.few
   have hfl:=hW.le
   have hvl:(Ci out).length=out.length:=by simp[Ci]
   by_cases hend:n=s.length
   ·subst hend
    have hcut:=mV s fn s.length hfl (Y _)
    have hlast:=hW.last
    generalize (s.take s.length).drop fn=wd at *
    have HL:=A hlast
    clear hlast
    have hle2:(s.length:Int)<=(s.length:Int):=by omega
    go_wp2_with (at_builtin;refine mF (by rfl) _ _ 142 (by rfl) (.string ⟨#[]⟩) 16 Tryz.underlying142 (by kernel_rfl) rfl (by decide) hV (by rfl) (.string ⟨wd.toArray⟩) rfl (by rfl) (by omega) ?_;intro v' x' hV' hg hloc)
    have hb2:Below w.heap.size w x':=hb.grown hg hb.size hown
    have hown2:∀ g,v'.ownBlock=U g->w.heap.size<=g:=by
     intro g e
     rcases hloc with h | h
     ·exact hown g (h ▸ e)
     ·rw[h] at e;injection e with e;have:=hb.size;omega
    go_roundw
    case rel=>exact⟨out++[wd],s.length+1,s.length+1,by go_num,by go_num,by rw[qE];exact hV',hb2,hown2,by omega,.inr ⟨rfl,HL.out⟩⟩
    case measure=>(simp[intOf] <;> omega)
   ·have hlt:n<s.length:=by omega
    have hidx:=eE s n hlt
    have dne:((n:Int)==(s.length:Int))=J:=by simp;omega
    have dle:(n:Int)<=(s.length:Int):=by omega
    by_cases hc:s.getD n 0=32
    ·have hW2:=hW.blank hlt hc
     have hcut:=mV s fn n hfl hle
     rw[hc] at hidx
     have e32:(((32:UInt8).toNat:Nat):Int)=32:=rfl
     rw[e32] at hidx
     clear e32 hc
     generalize (s.take n).drop fn=wd at *
     go_wp2_with (at_builtin;refine mF (by rfl) _ _ 142 (by rfl) (.string ⟨#[]⟩) 16 Tryz.underlying142 (by kernel_rfl) rfl (by decide) hV (by rfl) (.string ⟨wd.toArray⟩) rfl (by rfl) (by omega) ?_;intro v' x' hV' hg hloc)
     have hb2:Below w.heap.size w x':=hb.grown hg hb.size hown
     have hown2:∀ g,v'.ownBlock=U g->w.heap.size<=g:=by
      intro g e
      rcases hloc with h | h
      ·exact hown g (h ▸ e)
      ·rw[h] at e;injection e with e;have:=hb.size;omega
     go_roundw
     case rel=>exact⟨out++[wd],n+1,n+1,by go_num,by go_num,by rw[qE];exact hV',hb2,hown2,by omega,.inl ⟨by omega,hW2⟩⟩
     case measure=>(simp[intOf] <;> omega)
    ·have hW2:=hW.on hc
     have dc:((((s.getD n 0).toNat:Nat):Int)==32)=J:=by
      have h:(s.getD n 0).toNat≠32:=fun e=>hc (UInt8.toNat_inj.1 e)
      generalize (s.getD n 0).toNat=c at *
      simp;omega
     generalize (s.getD n 0).toNat=c at *
     clear hc
     go_wp2
     go_roundw
     case rel=>exact⟨out,fn,n+1,by go_num,rfl,hV,hb,hown,by omega,.inl ⟨by omega,hW2⟩⟩
     case measure=>(simp[intOf] <;> omega)
  ·go_wp2
   go_ret
   exact⟨_,rfl,hV,hb⟩
def tK (ops:Array Oper)(st:List Nat)(i:Nat):Nat:=(st.filter fun s=>(bm ops i).contains s).length
def tO (ops:Array Oper)(st:List Nat)(i:Nat):Nat:=st.findIdx fun s=>(bm ops s).contains i
def ip (ops:Array Oper):List Nat->Bool
 | s :: t :: l=>(bm ops t).contains s && (decide (s<ops.size) && ip ops (t :: l))
 | [s]=>decide (s<ops.size)
 | []=>G
def np (P:Program)(ops:Array Oper)(F:Nat->Value->World->Prop)(Wp:Nat->World->Prop)(Step:Nat->World->World->Prop)(lit:(Nat->Value)->Act)(st:List Nat):List Oper->Nat->Prop
 | [],_=>True
 | o :: l,i=>(match st.contains i with
  | true=>∀ (vs:Nat->Value) W,Wp (st.idxOf i) W->(∀ j∈bm ops i,F j (vs j) W)->dk P ops (fun v W'=>F i v W'/\Wp (st.idxOf i+1) W'/\Step (st.idxOf i) W W') o (lit vs) W
  | false=>∀ (vs:Nat->Value) W k,tK ops st i<=k->k<=tO ops st i->Wp k W->(∀ j∈bm ops i,F j (vs j) W)->cZ P ops (F i) o (lit vs) W)/\np P ops F Wp Step lit st l (i+1)
theorem lh {P:Program}{ops:Array Oper}{F:Nat->Value->World->Prop}{Wp:Nat->World->Prop}{Step:Nat->World->World->Prop}{lit:(Nat->Value)->Act}{st:List Nat}:∀ (l:List Oper) (b i:Nat) (o:Oper),np P ops F Wp Step lit st l b->l[i]?=U o->
 (st.contains (b+i)=G->∀ (vs:Nat->Value) W,Wp (st.idxOf (b+i)) W->(∀ j∈bm ops (b+i),F j (vs j) W)->dk P ops (fun v W'=>F (b+i) v W'/\Wp (st.idxOf (b+i)+1) W'/\Step (st.idxOf (b+i)) W W') o (lit vs) W)/\
 (st.contains (b+i)=J->∀ (vs:Nat->Value) W k,tK ops st (b+i)<=k->k<=tO ops st (b+i)->Wp k W->(∀ j∈bm ops (b+i),F j (vs j) W)->cZ P ops (F (b+i)) o (lit vs) W)
 | [],b,i,o,_,hi=>by simp at hi
 | x :: l,b,0,o,h,hi=>by
  simp only[List.getElem?_cons_zero,Option.some.injEq] at hi
  subst hi
  have h1:=h.1
  simp only[Nat.add_zero]
  constructor
  ·intro e;rw[e] at h1;exact h1
  ·intro e;rw[e] at h1;exact h1
 | x :: l,b,i+1,o,h,hi=>by
  have:=lh l (b+1) i o h.2 (by simpa using hi)
  rw[show b+1+i=b+(i+1) by omega] at this
  exact this
theorem kR {ops:Array Oper}:∀ (st:List Nat),ip ops st=G->∀ (j s t:Nat),st[j]?=U s->st[j+1]?=U t->s∈bm ops t
 | [],_,j,s,t,h,_=>by simp at h
 | [x],_,j,s,t,_,h=>by simp at h
 | x :: y :: l,h,0,s,t,h1,h2=>by
  simp at h1 h2
  subst h1;subst h2
  simp only[ip,Bool.and_eq_true] at h
  simpa using h.1
 | x :: y :: l,h,j+1,s,t,h1,h2=>by
  simp only[ip,Bool.and_eq_true] at h
  exact kR (y :: l) h.2.2 j s t (by simpa using h1) (by simpa using h2)
theorem kQ {ops:Array Oper}:∀ (st:List Nat),ip ops st=G->∀ s∈st,s<ops.size
 | [],_,s,h=>by simp at h
 | [x],h,s,hs=>by simp at hs;subst hs;simpa [ip] using h
 | x :: y :: l,h,s,hs=>by
  simp only[ip,Bool.and_eq_true,decide_eq_true_eq] at h
  rcases List.mem_cons.1 hs with rfl | hs
  ·exact h.2.1
  ·exact kQ (y :: l) h.2.2 s hs
theorem cg {P:Program}{l:List Oper}{Q:Exit->Act->World->Prop}{id:Nat}{a:Act}{w:World}(st:List Nat)(Wp:Nat->World->Prop)(Step:Nat->World->World->Prop)(lit:(Nat->Value)->Act)(F:Nat->Value->World->Prop)
 (hm:P.follows .mixedOrders=G) (hr:nL l.toArray=G) (hc:ip l.toArray st=G) (hnd:st.Nodup) (hlit:∀ vs,aH l.toArray a (fun _=>G) vs=lit vs)
 (h0:Wp 0 w)
 (hW:∀ k W W',Wp k W->Below W.heap.size W W'->Wp k W')
 (hF:∀ i v W W',F i v W->Below W.heap.size W W'->F i v W')
 (hS:∀ k W W',Wp k W->Step k W W'->∀ i v,F i v W->F i v W')
 (hop:np P l.toArray F Wp Step lit st l 0)
 (hend:∀ (vs:Nat->Value) W,Wp st.length W->(∀ i,i<l.length->F i (vs i) W)->Q .normal (lit vs) W):(Code.region id l.toArray G).wp P Q a w:=by
 refine fi hm hr (fun d vs W=>∃ k,k<=st.length/\(∀ j s,st[j]?=U s->(d s=G↔j<k))/\(∀ i,d i=G->∀ j∈bm l.toArray i,d j=G)/\Wp k W/\∀ i,d i=G->F i (vs i) W) ?_ ?_ ?_
 ·exact⟨0,Nat.zero_le _,fun j s _=>by simp,(fun i h=>by cases h),hW 0 _ _ h0 (X _ _).drew,(fun i h=>by cases h)⟩
 ·rintro i o ho d vs W ⟨k,hk,hst,hcl,hWk,hFd⟩ hdi hdep
  have ho':l[i]?=U o:=by simpa using ho
  rw[hlit]
  obtain⟨e1,e2⟩:=lh l 0 i o hop ho'
  rw[Nat.zero_add] at e1 e2
  have hFdep:∀ j∈bm l.toArray i,F j (vs j) W:=fun j hj=>hFd j (hdep j hj)
  cases hci:st.contains i with
  | true=>
   have hmem:i∈st:=by simpa using hci
   have hidx:st.idxOf i<st.length:=List.idxOf_lt_length_iff.2 hmem
   have hat:st[st.idxOf i]?=U i:=by rw[List.getElem?_eq_getElem hidx,List.getElem_idxOf hidx]
   have hki:st.idxOf i=k:=by
    have h1:¬ st.idxOf i<k:=fun h=>by
     have:=(hst _ i hat).2 h
     rw[hdi] at this;cases this
    rcases Nat.lt_or_eq_of_le (Nat.le_of_not_lt h1) with h2 | h2
    ·exfalso
     have hp:st.idxOf i-1+1=st.idxOf i:=by omega
     have hpl:st.idxOf i-1<st.length:=by omega
     have hs:=kR st hc (st.idxOf i-1) st[st.idxOf i-1] i (List.getElem?_eq_getElem hpl) (by rw[hp];exact hat)
     have hd:=hdep _ hs
     have:=(hst _ _ (List.getElem?_eq_getElem hpl)).1 hd
     omega
    ·exact h2.symm
   have h3:=e1 hci vs W (by rw[hki];exact hWk) hFdep
   refine gz h3 ?_
   rintro v W' ⟨hv,hW2,hstep⟩
   rw[hki] at hW2 hstep
   refine⟨k+1,by omega,fun j s hs=>?_,fun x hx j hj=>by
    by_cases e:x=i
    ·subst e;have h4:=hdep j hj;by_cases e2:j=x <;> simp[e2,h4]
    ·simp only[if_neg e] at hx;have h4:=hcl x hx j hj;by_cases e2:j=i <;> simp[e2,h4],hW2,fun j hj=>?_⟩
   ·by_cases e:s=i
    ·subst e
     have hj:j=k:=by
      rw[<-hki]
      have hjl:=(List.getElem?_eq_some_iff.1 hs).1
      have hsj:=(List.getElem?_eq_some_iff.1 hs).2
      have:=hnd.idxOf_getElem j hjl
      rw[hsj] at this
      exact this.symm
     simp;omega
    ·simp only[if_neg e]
     rw[hst j s hs]
     constructor
     ·omega
     ·intro h
      by_cases hj:j=k
      ·exfalso
       subst hj
       rw[<-hki,hat] at hs
       injection hs with hs
       exact e hs.symm
      ·omega
   ·by_cases e:j=i
    ·subst e;simp only[if_true];exact hv
    ·simp only[if_neg e] at hj ⊢
     exact hS k W W' hWk hstep j _ (hFd j hj)
  | false=>
   have hnm:i ∉ st:=by simpa using hci
   have hlo:tK l.toArray st i<=k:=by
    unfold tK
    have hsub:∀ (s:List Nat) (b:Nat),(∀ j x,s[j]?=U x->st[b+j]?=U x)->(s.filter fun x=>(bm l.toArray i).contains x).length<=k-b:=by
     intro s
     induction s with
     | nil=>intro b _;simp
     | cons x s ih=>
      intro b hb
      have hx:=hb 0 x (by simp)
      rw[Nat.add_zero] at hx
      have ih2:=ih (b+1) (fun j y hy=>by rw[show b+1+j=b+(j+1) by omega];exact hb (j+1) y (by simpa using hy))
      rw[List.filter_cons]
      split
      ·rename_i hcx
       have hd:=hdep x (by simpa using hcx)
       have:=(hst b x hx).1 hd
       simp only[List.length_cons]
       omega
      ·omega
    have:=hsub st 0 (fun j x h=>by rw[Nat.zero_add];exact h)
    omega
   have hhi:k<=tO l.toArray st i:=by
    unfold tO
    rcases Nat.lt_or_ge (st.findIdx fun s=>(bm l.toArray s).contains i) st.length with h | h
    ·refine Nat.le_of_not_lt fun hlt=>?_
     have hp:=List.findIdx_getElem (w:=h)
     have hd:=(hst _ _ (List.getElem?_eq_getElem h)).2 hlt
     have:=hcl _ hd i (by simpa using hp)
     rw[hdi] at this
     cases this
    ·omega
   exact gu (e2 hci vs W k hlo hhi hWk hFdep) (fun v W' hv hb=>⟨k,hk,fun j s hs=>by
    have hne:s≠i:=fun e=>hnm (e ▸ List.mem_of_getElem? hs)
    simp only[if_neg hne]
    exact hst j s hs,fun x hx j hj=>by
    by_cases e:x=i
    ·subst e;have h4:=hdep j hj;by_cases e2:j=x <;> simp[e2,h4]
    ·simp only[if_neg e] at hx;have h4:=hcl x hx j hj;by_cases e2:j=i <;> simp[e2,h4],hW k W W' hWk hb,fun j hj=>by
    by_cases e:j=i
    ·subst e;simp only[if_true];exact hv
    ·simp only[if_neg e] at hj ⊢
     exact hF j _ W W' (hFd j hj) hb⟩)
 ·rintro d vs W ⟨k,hk,hst,hcl,hWk,hFd⟩ hall
  rw[hlit]
  have hks:k=st.length:=by
   rcases Nat.lt_or_eq_of_le hk with h | h
   ·exfalso
    have h1:=(hst k _ (List.getElem?_eq_getElem h))
    have h2:=hall st[k] (kQ st hc _ (List.getElem_mem h))
    have:=h1.1 h2
    omega
   ·exact h
  rw[hks] at hWk
  exact hend vs W hWk (fun i hi=>hFd i (hall i (by simpa using hi)))
theorem oF {k:IntKind}{w:World}{b off:Nat}{xs:List Int}(hc:∀ i,i<xs.length->w.cell? ⟨b,off+i,T⟩=U (.int k (aF xs i))):
 ∀ j v,(xs.map (Value.int k))[j]?=U v->w.cell? ((⟨b,off,T⟩:Addr).add j)=U v:=by
 intro j v hj
 have hl:j<xs.length:=by have:=(List.getElem?_eq_some_iff.1 hj).1;simpa using this
 rw[List.getElem?_map,j9 hl] at hj
 have e:(⟨b,off,T⟩:Addr).add j=⟨b,off+j,T⟩:=by unfold Addr.add;split <;> simp_all
 rw[e,hc j hl,<-hj];rfl
def Fs (w:World)(v:Value)(xs:List Int):Prop:=
 (v=D T 0 0/\xs=[])\/∃ g off cap cs,v=D (U ⟨g,off,T⟩) xs.length cap/\xs.length<=cap/\cap<=maxLen/\Bk w g 3 cs/\off+cap<=cs.size/\∀ i,i<xs.length->cs[off+i]?=U (O Z (aF xs i))
section
variable {w w':World}{v:Value}{xs:List Int}
theorem Fs.zh (h:eH .i64 3 w v xs):Fs w v xs:=by
 rcases h.2 with ⟨rfl,h0⟩ | ⟨g,cap,cur,rfl,hb,hg,hnc,hcm,hcs,htake⟩
 ·exact .inl ⟨rfl,List.eq_nil_of_length_eq_zero h0⟩
 ·refine .inr ⟨g,0,cap,cur,rfl,hnc,hcm,hg,by omega,fun i hi=>?_⟩
  have h1:=World.ownsRow.cellAt ⟨h.1,.inr ⟨g,cap,cur,rfl,hb,hg,hnc,hcm,hcs,htake⟩⟩ i (by omega)
  rw[List.getElem?_map,j9 hi] at h1
  rw[Nat.zero_add,<-Bk.cell (cs:=cur) (t:=3) hg i,h1];rfl
theorem Fs.lt (h:Fs w v xs){g:Nat}(e:v.ownBlock=U g):g<w.heap.size:=by
 rcases h with ⟨rfl,_⟩ | ⟨g',off,cap,cs,rfl,_,_,hb,_⟩
 ·cases e
 ·simp only[Value.ownBlock,Option.some.injEq] at e;subst e;exact hb.lt
theorem Fs.bk (h:Fs w v xs){g:Nat}(e:v.ownBlock=U g):∃ cs,Bk w g 3 cs:=by
 rcases h with ⟨rfl,_⟩ | ⟨g',off,cap,cs,rfl,_,_,hb,_⟩
 ·cases e
 ·simp only[Value.ownBlock,Option.some.injEq] at e;subst e;exact⟨cs,hb⟩
theorem Fs.within {S:Nat->Prop}(h:Fs w v xs)(k:ab w w' S)(hn:∀ g,v.ownBlock=U g->¬ S g):Fs w' v xs:=by
 rcases h with ⟨rfl,rfl⟩ | ⟨g,off,cap,cs,rfl,h1,h2,hb,h3⟩
 ·exact .inl ⟨rfl,rfl⟩
 ·exact .inr ⟨g,off,cap,cs,rfl,h1,h2,hb.within k (hn g rfl),h3⟩
theorem Fs.AQ (h:Fs w v xs):v.oneCell'=G:=by
 rcases h with ⟨rfl,_⟩ | ⟨g,off,cap,cs,rfl,_⟩ <;> rfl
theorem Fs.more {g off cap:Nat}{x:Int}(h:Fs w (D (U ⟨g,off,T⟩) xs.length cap) xs)(hr:xs.length+1<=cap):Fs (w.setCell ⟨g,off+xs.length,T⟩ (O Z x)) (D (U ⟨g,off,T⟩) (xs.length+1) cap) (xs++[x]):=by
 rcases h with ⟨h,_⟩ | ⟨g',off',cap',cs,e,h1,h2,hb,h3,h4⟩
 ·cases h
 ·simp only[Value.slice.injEq,Option.some.injEq,Addr.mk.injEq,and_true,true_and] at e
  obtain⟨⟨rfl,rfl⟩,rfl⟩:=e
  refine .inr ⟨g,off,cap,_,by simp,by simp;omega,h2,hb.put _ _,by simpa using h3,fun i hi=>?_⟩
  simp only[List.length_append,List.length_cons,List.length_nil] at hi
  rw[Array.getElem?_setIfInBounds]
  by_cases e:i=xs.length
  ·subst e
   rw[if_pos rfl,if_pos (by omega)]
   simp[aF]
  ·rw[if_neg (by omega),h4 i (by omega)]
   simp[aF,List.getD_eq_getElem?_getD,List.getElem?_append,show i<xs.length by omega]
end
structure im where
 l:List aN
 lo:Int
 un:Int
def im.zero:im:=⟨[],0,0⟩
def p9 (c:im):Bool:=decide (1<=c.l.length) && (decide (c.l.length<=64) && (decide (0<=c.lo) && (decide (0<=c.un) && (decide (c.lo<c.l.length) && (decide (c.un<c.l.length) && c.l.all fun i=>au i c.l.length)))))
theorem AK (c:im)(h1:1<=c.l.length)(h2:c.l.length<=64):p9 c=((c.l.all fun i=>au i c.l.length) && ((decide (0<=c.lo) && decide (c.lo<c.l.length)) && (decide (0<=c.un) && decide (c.un<c.l.length)))):=by
 unfold p9
 simp only[h1,h2,decide_true,Bool.true_and]
 generalize (c.l.all fun i=>au i c.l.length)=x
 generalize decide (0<=c.lo)=a
 generalize decide (0<=c.un)=b
 generalize decide (c.lo<c.l.length)=d
 generalize decide (c.un<c.l.length)=e
 cases a <;> cases b <;> cases d <;> cases e <;> cases x <;> rfl
theorem qK {c:im}(h:¬ (1<=c.l.length/\c.l.length<=64)):p9 c=J:=by
 unfold p9
 by_cases h1:1<=c.l.length
 ·have h2:¬ c.l.length<=64:=fun h2=>h ⟨h1,h2⟩
  simp[h2]
 ·simp[h1]
def ju (i:aN):List Value:=[O Z i.op,O Z i.d,O Z i.s,O Z i.t,O Z i.u,O Z i.a,O V i.k,O Z i.pl]
theorem jW (i:aN):(ju i).length=8:=rfl
def bE (l:List aN):List Value:=l.flatMap ju
theorem mo (l:List aN)(i:aN):bE (l++[i])=bE l++ju i:=by simp[bE]
theorem iO:∀ l:List aN,(bE l).length=l.length*8
 | []=>rfl
 | i :: l=>by
  have:=iO l
  unfold bE at *
  simp[this,jW]
  omega
theorem nk (i:aN):∀ u∈ju i,u.oneCell'=G:=by
 intro u hu
 simp only[ju,List.mem_cons,List.not_mem_nil,or_false] at hu
 rcases hu with rfl|rfl|rfl|rfl|rfl|rfl|rfl|rfl <;> rfl
theorem ur:(Tryz.prog.info? 117).map (fun i=>(i.zero,i.size,i.bytes))=U (U (.agg #[O Z 0,O Z 0,O Z 0,O Z 0,O Z 0,O Z 0,O V 0,O Z 0]),8,64):=by kernel_rfl
theorem l8 {α:Type}(f:α->List Value)(n:Nat)(hf:∀ x,(f x).length=n):∀ (l:List α) (k j:Nat) (x:α),l[k]?=U x->j<n->(l.flatMap f)[k*n+j]?=(f x)[j]?
 | [],k,j,x,h,_=>by simp at h
 | y :: l,0,j,x,h,hj=>by
  simp at h
  subst h
  simp[List.getElem?_append,hf,hj]
 | y :: l,k+1,j,x,h,hj=>by
  have ih:=l8 f n hf l k j x (by simpa using h) hj
  rw[<-ih]
  have e:(k+1)*n+j=n+(k*n+j):=by rw[Nat.add_mul];omega
  rw[e,List.flatMap_cons,List.getElem?_append_right (by rw[hf];omega),hf]
  congr 1
  omega
theorem m6 {l:List aN}{k:Nat}{i:aN}(h:l[k]?=U i){j:Nat}(hj:j<8):(bE l)[k*8+j]?=(ju i)[j]?:=l8 ju 8 jW l k j i h hj
def Pg (w:World)(base:Nat)(v:Value)(c:im):Prop:=∃ sl,v=.agg #[sl,O Z c.lo,O Z c.un]/\w.ownsRow base 117 8 sl c.l.length (bE c.l)
theorem Ap (i j:aN)(w:World):(binOp .eql 117 (iv i) (iv j)).run Tryz.prog w=.ok (.bool (du i j)) w:=by
 unfold iv
 have hu:=Tryz.underlying117
 go_simp
 unfold du
 repeat' split
 all_goals simp[*]
def Ib (w:World)(g:Nat)(i:aN):Prop:=Bk w g 117 #[O Z i.op,O Z i.d,O Z i.s,O Z i.t,O Z i.u,O Z i.a,O V i.k,O Z i.pl]
theorem Ib.cells {w:World}{g:Nat}{i:aN}(h:Ib w g i):
 w.cell? ⟨g,0,T⟩=U (O Z i.op)/\w.cell? ⟨g,1,T⟩=U (O Z i.d)/\w.cell? ⟨g,2,T⟩=U (O Z i.s)/\w.cell? ⟨g,3,T⟩=U (O Z i.t)/\
 w.cell? ⟨g,4,T⟩=U (O Z i.u)/\w.cell? ⟨g,5,T⟩=U (O Z i.a)/\w.cell? ⟨g,6,T⟩=U (O V i.k)/\w.cell? ⟨g,7,T⟩=U (O Z i.pl):=
 ⟨Bk.cell h 0,Bk.cell h 1,Bk.cell h 2,Bk.cell h 3,Bk.cell h 4,Bk.cell h 5,Bk.cell h 6,Bk.cell h 7⟩
theorem Ib.below {w w':World}{g:Nat}{i:aN}(h:Ib w g i)(hb:Below w.heap.size w w'):Ib w' g i:=(hb.block g (Bk.lt h)).trans h
theorem Ib.wT {w:World}{b:Nat}{i:aN}(h:Ib w b i):
 (∀ g:fZ w,g.x.cell? ⟨b,0,T⟩=U (O Z i.op))/\(∀ g:fZ w,g.x.cell? ⟨b,1,T⟩=U (O Z i.d))/\(∀ g:fZ w,g.x.cell? ⟨b,2,T⟩=U (O Z i.s))/\(∀ g:fZ w,g.x.cell? ⟨b,3,T⟩=U (O Z i.t))/\
 (∀ g:fZ w,g.x.cell? ⟨b,4,T⟩=U (O Z i.u))/\(∀ g:fZ w,g.x.cell? ⟨b,5,T⟩=U (O Z i.a))/\(∀ g:fZ w,g.x.cell? ⟨b,6,T⟩=U (O V i.k))/\(∀ g:fZ w,g.x.cell? ⟨b,7,T⟩=U (O Z i.pl)):=by
 obtain⟨c0,c1,c2,c3,c4,c5,c6,c7⟩:=h.cells
 exact⟨fun g=>g.cell c0,fun g=>g.cell c1,fun g=>g.cell c2,fun g=>g.cell c3,fun g=>g.cell c4,fun g=>g.cell c5,fun g=>g.cell c6,fun g=>g.cell c7⟩
theorem Ib.made (w:World)(op d s t u a k pl:Int):Ib (w.alloc (M #[O Z op,O Z d,O Z s,O Z t,O Z u,O Z a,O V k,O Z pl] 117)) w.heap.size ⟨op,d,s,t,u,a,k,pl⟩:=Bk.made _ _ _
theorem zM {w x:World}{op d s t u a k pl:Int}(h:Below (w.alloc (M #[O Z op,O Z d,O Z s,O Z t,O Z u,O Z a,O V k,O Z pl] 117)).heap.size (w.alloc (M #[O Z op,O Z d,O Z s,O Z t,O Z u,O Z a,O V k,O Z pl] 117)) x):Ib x w.heap.size ⟨op,d,s,t,u,a,k,pl⟩/\Below w.heap.size w x:=
 ⟨(Ib.made w op d s t u a k pl).below h,((X _ _).alloc (Y _) _).trans (h.mono (by simp))⟩
def eA (y:World)(g:Nat)(i:aN):World:=((((((((y.setCell ⟨g,0,T⟩ (O Z i.op)).setCell ⟨g,1,T⟩ (O Z i.d)).setCell ⟨g,2,T⟩ (O Z i.s)).setCell ⟨g,3,T⟩ (O Z i.t)).setCell ⟨g,4,T⟩ (O Z i.u)).setCell ⟨g,5,T⟩ (O Z i.a)).setCell ⟨g,6,T⟩ (O V i.k)).setCell ⟨g,7,T⟩ (O Z i.pl))
theorem dJ {y:World}{g:Nat}{i j:aN}(h:Ib y g j):Ib (eA y g i) g i:=by
 have h8:=(((((((Bk.put h 0 (O Z i.op)).put 1 (O Z i.d)).put 2 (O Z i.s)).put 3 (O Z i.t)).put 4 (O Z i.u)).put 5 (O Z i.a)).put 6 (O V i.k)).put 7 (O Z i.pl)
 unfold eA Ib
 simpa only[List.setIfInBounds_toArray,List.set_cons_zero,List.set_cons_succ] using h8
theorem jS {y:World}{g b:Nat}{i:aN}{t:TypeId}{cs:Array Value}(h:Bk y b t cs)(hne:b≠g):Bk (eA y g i) b t cs:=
 (((((((h.off hne _).off hne _).off hne _).off hne _).off hne _).off hne _).off hne _).off hne _
theorem aY {B:Nat}{w y:World}{g:Nat}{i:aN}(h:Below B w y)(hg:B<=g):Below B w (eA y g i):=
 (((((((h.setCell hg _).setCell hg _).setCell hg _).setCell hg _).setCell hg _).setCell hg _).setCell hg _).setCell hg _
theorem yC (i:aN)(l:List UInt8)(n:Nat)(h:n<l.length):oV i (l.take (n+1))=cH (oV i (l.take n)) (l.getD n 0).toNat 0:=by
 unfold oV
 rw[List.take_succ_eq_append_getElem h,List.foldl_append]
 simp[h]
theorem yN (f:UInt8->Bool)(l:List UInt8)(n:Nat)(h:n<l.length):(l.take (n+1)).all f=((l.take n).all f && f (l.getD n 0)):=by
 rw[List.take_succ_eq_append_getElem h,List.all_append]
 simp[h]
theorem zB (f:UInt8->Bool)(l:List UInt8)(n:Nat)(h:n<l.length)(hf:f (l.getD n 0)=J):l.all f=J:=by
 rw[Bool.eq_false_iff]
 intro ha
 have:=List.all_eq_true.1 ha (l.getD n 0) (by simp[h])
 rw[hf] at this
 cases this
structure BI (w:World)(i:aN)(hs:List UInt8)(p:Int)(n:Nat)(x:World):Prop where
 below:Below w.heap.size w x
 box:Ib x w.heap.size i
 left:Ib x (w.heap.size+1) (oV i (hs.take n))
 ok:(hs.take n).all (fun c=>oT i p c.toNat)=G
theorem zx (i:aN)(p:Int)(k0:0<=i.k)(k1:i.k<4294967296)(w:World):
 Calls Tryz.prog 71 #[iv i,O Z p] w fun e w'=>e=.returned (.bool (au i p))/\Below w.heap.size w w':=by
 have hL:=tM i.op
 have h6:=tN i.op
 have ER:au i p=(!(cM i.op).isEmpty && ((cM i.op).all (fun c=>oT i p c.toNat) && qC (oV i (cM i.op)))):=rfl
 have H0:=A (wK i.op)
 generalize cM i.op=hs at hL h6 ER H0
 have HL:=A hL
 have HR:=A ER
 clear hL ER
 obtain⟨op,d,s,t,u,a,k,pl⟩:=i
 simp only at k0 k1 H0
 unfold iv
 go_enter Tryz.func71,Tryz.ntmps71
 go_wp2_with fail
 refine(H0.out _).mono ?_
 rintro e w' ⟨rfl,rfl⟩
 unfold bs
 by_cases he:hs=[]
 ·subst he
  go_wp2
  go_ret
  exact⟨br HR.out.symm,(X _ _).alloc (Y _) _⟩
 have hne:hs.isEmpty=J:=by simpa using he
 go_wp2
 go_loopw [24] (fun v x=>∃ n:Nat,n<=hs.length/\v=O Z n/\BI w ⟨op,d,s,t,u,a,k,pl⟩ hs p n x) (fun v _=>hs.length-(intOf v).toNat)
 case atStart=>
  refine⟨0,Nat.zero_le _,rfl,?_,?_,?_,rfl⟩
  ·exact(((X _ _).alloc (Y _) _).alloc (by simp) _)
  ·exact(Bk.made _ _ _).alloc _
  ·have:=Bk.made (w.alloc (M #[O Z op,O Z d,O Z s,O Z t,O Z u,O Z a,O V k,O Z pl] 117)) 117 #[O Z 0,O Z d,O Z s,O Z t,O Z u,O Z a,O V k,O Z pl]
   rw[show (w.alloc (M #[O Z op,O Z d,O Z s,O Z t,O Z u,O Z a,O V k,O Z pl] 117)).heap.size=w.heap.size+1 by simp] at this
   exact this
 case round=>
  obtain⟨n,hn,rfl,R⟩:=hrel
  obtain⟨hb,hI,hZ,hok⟩:=R
  generalize wr=x at *
  have hlt1:w.heap.size<x.heap.size:=Bk.lt hI
  have hlt2:w.heap.size+1<x.heap.size:=Bk.lt hZ
  by_cases hlt:n<hs.length
  ·have hidx:=eE hs n hlt
   have hc:BO ((hs.getD n 0).toNat:Int):=HL.out _ (by simp[hlt])
   generalize hcc:((hs.getD n 0).toNat:Int)=c at hidx hc
   obtain⟨g0,-⟩:=hI.wT
   have HC:=A hcc
   clear hcc
   go_wp2_with fail
   refine ar (by kernel_rfl) (by kernel_rfl) ?_
   repeat (go_big_quiet_step ((go_at_call 111;exact rd (By _ _ _ hc _))))
   refine wpQuiet_nil ?_
   rintro y ⟨⟨_,hy⟩,rfl⟩
   replace hb:=hb.trans (hy.mono (Nat.le_of_lt hlt1))
   replace hI:=hI.below hy
   replace hZ:=hZ.below hy
   replace hlt1:w.heap.size<y.heap.size:=Bk.lt hI
   replace hlt2:w.heap.size+1<y.heap.size:=Bk.lt hZ
   clear g0 hy x
   obtain⟨g0,g1,g2,g3,g4,g5,g6,g7⟩:=hI.wT
   simp only at g0 g1 g2 g3 g4 g5 g6 g7
   go_wp2_with fail
   refine ar (by kernel_rfl) (by kernel_rfl) ?_
   repeat (go_big_quiet_step ((go_at_call 112;exact ag (Fd ⟨op,d,s,t,u,a,k,pl⟩ _ hc k0 k1 _))))
   refine wpQuiet_nil ?_
   rintro x ⟨⟨_,hx⟩,rfl⟩
   replace hb:=hb.trans (hx.mono (Nat.le_of_lt hlt1))
   replace hI:=hI.below hx
   replace hZ:=hZ.below hx
   replace hlt1:w.heap.size<x.heap.size:=Bk.lt hI
   replace hlt2:w.heap.size+1<x.heap.size:=Bk.lt hZ
   clear g0 g1 g2 g3 g4 g5 g6 g7 hx y
   by_cases hlo:aZ ⟨op,d,s,t,u,a,k,pl⟩ c<eR op c
   ·go_wp2
    go_ret
    refine⟨br ?_,hb⟩
    rw[HR.out,zB _ _ n hlt (by rw[HC.out];simp[oT];intro h;omega)];simp
   have hlo':decide (aZ ⟨op,d,s,t,u,a,k,pl⟩ c<eR op c)=J:=by simpa using hlo
   by_cases hhi:ep op c p<=aZ ⟨op,d,s,t,u,a,k,pl⟩ c
   ·go_wp2
    go_ret
    refine⟨br ?_,hb⟩
    rw[HR.out,zB _ _ n hlt (by rw[HC.out];simp[oT];intro h;omega)];simp
   have hhi':decide (aZ ⟨op,d,s,t,u,a,k,pl⟩ c>=ep op c p)=J:=by simpa using hhi
   generalize hZZ:oV ⟨op,d,s,t,u,a,k,pl⟩ (hs.take n)=z at hZ
   have HZ:=A hZZ
   clear hZZ
   obtain⟨zop,zd,zs,zt,zu,za,zk,zpl⟩:=z
   obtain⟨c0,c1,c2,c3,c4,c5,c6,c7⟩:=hZ.cells
   simp only at c0 c1 c2 c3 c4 c5 c6 c7
   go_wp2_with fail
   go_region_law (first | (go_simp;go_at_call 113;refine(Fc ⟨zop,zd,zs,zt,zu,za,zk,zpl⟩ _ 0 hc _).mono ?_;rintro e y ⟨rfl,hy⟩;replace hy:=dj hy;obtain⟨d0,d1,d2,d3,d4,d5,d6,d7⟩:=(hZ.below hy).cells;have hf:=Bk.free (hZ.below hy);generalize hz2:cH ⟨zop,zd,zs,zt,zu,za,zk,zpl⟩ c 0=z2;have HZ2:=A hz2;clear hz2;obtain⟨yop,yd,ys,yt,yu,ya,yk,ypl⟩:=z2;unfold iv))
   all_goals
    generalize hv:((((((((y.setCell ⟨w.heap.size+1,0,T⟩ (O Z yop)).setCell ⟨w.heap.size+1,1,T⟩ (O Z yd)).setCell ⟨w.heap.size+1,2,T⟩ (O Z ys)).setCell ⟨w.heap.size+1,3,T⟩ (O Z yt)).setCell ⟨w.heap.size+1,4,T⟩ (O Z yu)).setCell ⟨w.heap.size+1,5,T⟩ (O Z ya)).setCell ⟨w.heap.size+1,6,T⟩ (O V yk)).setCell ⟨w.heap.size+1,7,T⟩ (O Z ypl))=v
    have hv2:eA y (w.heap.size+1) ⟨yop,yd,ys,yt,yu,ya,yk,ypl⟩=v:=hv
    clear hv
    have hA:=dJ (i:=⟨yop,yd,ys,yt,yu,ya,yk,ypl⟩) (hZ.below hy)
    have hB:=jS (i:=⟨yop,yd,ys,yt,yu,ya,yk,ypl⟩) (hI.below hy) (show w.heap.size≠w.heap.size+1 by omega)
    have hC:=aY (i:=⟨yop,yd,ys,yt,yu,ya,yk,ypl⟩) (hb.trans (hy.mono (Nat.le_of_lt hlt1))) (show w.heap.size<=w.heap.size+1 by omega)
    rw[hv2] at hA hB hC
    clear hv2 d0 d1 d2 d3 d4 d5 d6 d7 hf c0 c1 c2 c3 c4 c5 c6 c7 hidx
    have hn1:(n:Int)+1<=6:=by omega
    go_wp2
    go_roundw
    case rel=>
     refine⟨n+1,by omega,by go_num,hC,hB,?_,?_⟩
     ·rw[yC _ _ _ hlt,HZ.out,HC.out,HZ2.out];exact hA
     ·rw[yN _ _ _ hlt,HC.out,hok];simp[oT];omega
    case measure=>simp[intOf];omega
  ·obtain rfl:n=hs.length:=by omega
   generalize hZZ:oV ⟨op,d,s,t,u,a,k,pl⟩ (hs.take hs.length)=z at hZ
   obtain⟨zop,zd,zs,zt,zu,za,zk,zpl⟩:=z
   obtain⟨c0,c1,c2,c3,c4,c5,c6,c7⟩:=hZ.cells
   simp only at c0 c1 c2 c3 c4 c5 c6 c7
   rw[List.take_length] at hZZ hok
   have HZ:=A hZZ
   have HO:=A hok
   clear hZZ hok
   have hq:=Ap ⟨zop,zd,zs,zt,zu,za,zk,zpl⟩ aN.zero
   generalize hB:du ⟨zop,zd,zs,zt,zu,za,zk,zpl⟩ aN.zero=B at hq
   have HB:=A hB
   clear hB
   unfold iv aN.zero at hq
   simp only at hq
   go_wp2
   go_ret
   refine⟨br ?_,hb⟩
   rw[HR.out,HO.out,HZ.out,Dh,HB.out,hne];rfl
end
