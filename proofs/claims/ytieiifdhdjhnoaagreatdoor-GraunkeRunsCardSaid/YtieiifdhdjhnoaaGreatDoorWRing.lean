import Derived.Test.YtieiifdhdjhnoaaGreatDoorWMem
import Derived.Deep.QuietTactic
import Derived.BigQuiet
import Derived.StillTailTactics
import Derived.Deep.RegionHeld3
import Derived.RegionTactic
import Derived.Laws.Pointers
import Derived.Maps.OwnSet
set_option maxRecDepth 100000
open Go.Value renaming int->I,pointer->K
open Go.IntKind renaming i64->O
open Option renaming none->Z,some->V
open Bool renaming false->T,true->U
open Go.Lib renaming hid->J
namespace Go.Proofs.YtieiifdhdjhnoaaGreatDoor.RWord
open Go.ChangeShapes Go.WideShapes Go.ChangeAt Go.RowKit
abbrev C (x:Int):Value:=I .u32 x
def me (f i n:Nat):Nat:=(f+i) % n
theorem lq {f i n:Nat}(h:0<n):me f i n<n:=Nat.mod_lt _ h
theorem lr {f i n:Nat}(hf:f<n)(hi:i<=n):me f i n=if f+i<n then f+i else f+i-n:=by
 unfold me
 split
 ·exact Nat.mod_eq_of_lt (by omega)
 ·rw[Nat.mod_eq_sub_mod (by omega)];exact Nat.mod_eq_of_lt (by omega)
theorem xE {i n:Nat}(hi:i<n):me 0 i n=i:=by unfold me;rw[Nat.zero_add];exact Nat.mod_eq_of_lt hi
theorem zc {f i j n:Nat}(hf:f<n)(hi:i<j)(hj:j<n):me f i n≠me f j n:=by
 rw[lr hf (by omega),lr hf (by omega)];split <;> split <;> omega
theorem xF {f i n:Nat}(hf:f<n)(hi:i+1<=n):me (me f 1 n) i n=me f (i+1) n:=by
 rw[lr (f:=me f 1 n) (lq (by omega)) (by omega),lr (i:=i+1) hf hi,lr (i:=1) hf (by omega)]
 repeat' split
 all_goals omega
theorem ol {f n:Nat}(hf:f<n):me f 0 n=f:=by rw[lr hf (by omega),if_pos (by omega)];rfl
def Hd (w:World)(p:Nat)(a:Option Addr)(n f c r:Nat):Prop:=Bk w p 253 #[.slice a n n,I O f,I O c,I O r]
section
variable {w:World}{p:Nat}{a:Option Addr}{n f c r:Nat}
theorem Hd.c0 (h:Hd w p a n f c r):w.cell? ⟨p,0,Z⟩=V (.slice a n n):=by rw[Bk.cell h];rfl
theorem Hd.c1 (h:Hd w p a n f c r):w.cell? ⟨p,1,Z⟩=V (I O f):=by rw[Bk.cell h];rfl
theorem Hd.c2 (h:Hd w p a n f c r):w.cell? ⟨p,2,Z⟩=V (I O c):=by rw[Bk.cell h];rfl
theorem Hd.c3 (h:Hd w p a n f c r):w.cell? ⟨p,3,Z⟩=V (I O r):=by rw[Bk.cell h];rfl
theorem iP (h:Hd w p a n f c r)(hn:0<n)(hf:f<=4096)(hm:n<=4096)(i:Nat)(hi:i<=4096):
 Calls Tryz.prog 152 #[K (V ⟨p,0,Z⟩),I O i] w fun e w'=>e=.returned (I O (me f i n))/\∃ m,w'=w.drewN m:=by
 have c0:=h.c0
 have c1:=h.c1
 have hz:¬ (n:Int)=0:=by omega
 go_enter Tryz.func152,Tryz.ntmps152
 go_wp2
 go_quiet (fail)
 go_wp2
 go_ret
 exact⟨bu (by simp[me]),_,rfl⟩
theorem xy (h:Hd w p a n f c r)(hc:c<=r)(hr:r<=4096):
 Calls Tryz.prog 136 #[K (V ⟨p,0,Z⟩)] w fun e w'=>e=.returned (I O ((r-c:Nat):Int))/\∃ m,w'=w.drewN m:=by
 have c2:=h.c2
 have c3:=h.c3
 go_enter Tryz.func136,Tryz.ntmps136
 go_wp2
 go_quiet (fail)
 go_wp2
 go_ret
 exact⟨bu (by omega),_,rfl⟩
end
structure In (w:World)(p:Nat)(og:Option Nat)(n f room:Nat)(cs vs:List Int):Prop where
 hd:Hd w p (og.map fun g=>⟨g,0,Z⟩) n f vs.length room
 row:∀ g,og=V g->Bk w g 70 (eM C cs)
 len:cs.length=n
 fits:vs.length<=n
 most:n<=room
 few:room<=4096
 at_:∀ i,i<vs.length->fF 0 vs i=fF 0 cs (me f i n)
 some_:∀ g,og=V g->f<n
 none_:og=Z->n=0/\f=0
def Rg (w:World)(p:Nat)(og:Option Nat)(room:Nat)(vs:List Int):Prop:=∃ n f cs,In w p og n f room cs vs
section
variable {w w':World}{p:Nat}{og:Option Nat}{n f room:Nat}{cs vs:List Int}
theorem In.dg (h:In w p og n f room cs vs)(k:Nat):In (w.drewN k) p og n f room cs vs:=⟨h.hd,h.row,h.len,h.fits,h.most,h.few,h.at_,h.some_,h.none_⟩
theorem In.same (h:In w p og n f room cs vs)(e:w'.heap=w.heap):In w' p og n f room cs vs:=
 ⟨by have:=h.hd;unfold Hd Bk at *;rw[e];exact this,fun g k=>by have:=h.row g k;unfold Bk at *;rw[e];exact this,h.len,h.fits,h.most,h.few,h.at_,h.some_,h.none_⟩
theorem In.kept {S:Nat->Prop}(h:In w p og n f room cs vs)(k:ab w w' S)(h1:¬ S p)(h2:∀ g,og=V g->¬ S g):In w' p og n f room cs vs:=
 ⟨Bk.within h.hd k h1,fun g e=>Bk.within (h.row g e) k (h2 g e),h.len,h.fits,h.most,h.few,h.at_,h.some_,h.none_⟩
theorem In.ne {g:Nat}(h:In w p og n f room cs vs)(e:og=V g):p≠g:=Bk.aj h.hd (h.row g e) (by decide)
theorem In.lt {g:Nat}(h:In w p og n f room cs vs)(e:og=V g):g<w.heap.size:=(h.row g e).lt
theorem Rg.dg (h:Rg w p og room vs)(k:Nat):Rg (w.drewN k) p og room vs:=by obtain⟨n,f,cs,h⟩:=h;exact⟨n,f,cs,h.dg k⟩
theorem Rg.kept {S:Nat->Prop}(h:Rg w p og room vs)(k:ab w w' S)(h1:¬ S p)(h2:∀ g,og=V g->¬ S g):Rg w' p og room vs:=by
 obtain⟨n,f,cs,h⟩:=h;exact⟨n,f,cs,h.kept k h1 h2⟩
theorem Rg.C0 (h:Rg w p og room vs):vs.length<=room/\room<=4096:=by
 obtain⟨n,f,cs,h⟩:=h;exact⟨Nat.le_trans h.fits h.most,h.few⟩
theorem Rg.BP (h:Rg w p og room vs):p<w.heap.size:=by obtain⟨n,f,cs,h⟩:=h;exact Bk.lt h.hd
theorem Rg.wY {g:Nat}(h:Rg w p og room vs)(e:og=V g):g<w.heap.size:=by obtain⟨n,f,cs,h⟩:=h;exact h.lt e
theorem In.more {g:Nat}(h:In w p (V g) n f room cs vs)(hv:vs.length<n)(v:Int):
 In ((w.setCell ⟨g,me f vs.length n,Z⟩ (C v)).setCell ⟨p,2,Z⟩ (I O ((vs.length+1:Nat):Int))) p (V g) n f room (cs.set (me f vs.length n) v) (vs++[v]):=by
 have hf:=h.some_ g rfl
 have hl:=h.len
 refine⟨?_,?_,by simpa using hl,by simp;omega,h.most,h.few,?_,h.some_,h.none_⟩
 ·have h1:=Bk.put (Bk.off h.hd (p:=⟨g,me f vs.length n,Z⟩) (h.ne rfl) (C v)) 2 (I O ((vs.length+1:Nat):Int))
  unfold Hd
  rw[List.length_append]
  exact h1
 ·intro g' e
  obtain rfl:g=g':=by injection e
  have h1:=(h.row g rfl).put (me f vs.length n) (C v)
  rw[kE] at h1
  exact h1.off (p:=⟨p,2,Z⟩) (h.ne rfl).symm _
 ·intro i hi
  simp only[List.length_append,List.length_cons,List.length_nil,Nat.zero_add] at hi
  rw[qQ (by rw[hl];exact lq (by omega))]
  by_cases e:i=vs.length
  ·subst e;rw[if_pos rfl,lN]
  ·rw[if_neg (zc hf (by omega) hv).symm,lM (by omega)]
   exact h.at_ i (by omega)
theorem In.less {g:Nat}{v:Int}(h:In w p (V g) n f room cs (v :: vs)):
 In (((w.setCell ⟨g,f,Z⟩ (C 0)).setCell ⟨p,1,Z⟩ (I O (me f 1 n))).setCell ⟨p,2,Z⟩ (I O vs.length)) p (V g) n (me f 1 n) room (cs.set f 0) vs:=by
 have hf:=h.some_ g rfl
 have hl:=h.len
 have hfit:=h.fits
 simp only[List.length_cons] at hfit
 refine⟨?_,?_,by simpa using hl,by omega,h.most,h.few,?_,fun _ _=>lq (by omega),fun e=>(by cases e)⟩
 ·have h1:=Bk.put (Bk.put (Bk.off h.hd (p:=⟨g,f,Z⟩) (h.ne rfl) (C 0)) 1 (I O (me f 1 n))) 2 (I O vs.length)
  exact h1
 ·intro g' e
  obtain rfl:g=g':=by injection e
  have h1:=(h.row g rfl).put f (C 0)
  rw[kE] at h1
  exact(h1.off (p:=⟨p,1,Z⟩) (h.ne rfl).symm _).off (p:=⟨p,2,Z⟩) (h.ne rfl).symm _
 ·intro i hi
  have h1:=h.at_ (i+1) (by simp;omega)
  have h2:=zc (n:=n) hf (i:=0) (j:=i+1) (by omega) (by omega)
  rw[ol hf] at h2
  rw[xF hf (by omega),qQ (by rw[hl];exact hf),if_neg h2,<-h1]
  simp[fF]
end
section
variable {w:World}{p:Nat}{a:Option Addr}{n f r:Nat}
theorem AW {g q:Nat}{cs vs ds:List Int}(h:Hd w p (V ⟨g,0,Z⟩) n f vs.length r)(hrow:Bk w g 70 (eM C cs))(hl:cs.length=n)(hn:0<n)(hf:f<=4096)(hm:n<=4096)
 (hat:∀ i,i<vs.length->fF 0 vs i=fF 0 cs (me f i n)) (hq:Bk w q 70 (eM C ds)) (hd:vs.length<=ds.length) (hdm:ds.length<=4096) (hqp:p≠q) (hqg:g≠q):
 Calls Tryz.prog 167 #[K (V ⟨p,0,Z⟩),.slice (V ⟨q,0,Z⟩) ds.length ds.length] w fun e w'=>e=.returned (.tuple #[])/\Bk w' q 70 (eM C (eO vs ds vs.length))/\fD w w' q:=by
 have c2:=h.c2
 have HAT:=J hat
 have HL:=J hl
 clear hat hl
 go_enter Tryz.func167,Tryz.ntmps167
 go_wp2
 go_loopw [9] (fun i wr=>∃ k:Nat,k<=vs.length/\i=I O k/\Bk wr q 70 (eM C (eO vs ds k))/\fD w wr q) (fun i _=>vs.length-(intOf i).toNat)
 case atStart=>exact⟨0,Nat.zero_le _,rfl,by rw[uk];exact hq,cP _ _⟩
 case round=>
  obtain⟨k,hk,rfl,hb,hw⟩:=hrel
  by_cases hlt:k<vs.length
  ·have h1:Hd wr p (V ⟨g,0,Z⟩) n f vs.length r:=Bk.grown h hw (by simp[hqp])
   have hg1:=Bk.grown hrow hw (by simp[hqg])
   have d0:=h1.c0
   have hpl:me f k n<n:=lq hn
   have e1:wr.cell? ⟨g,me f k n,Z⟩=V (C (fF 0 vs k)):=by rw[hg1.cell,iH (z:=0) C (by rw[HL.out];exact hpl),HAT.out k hlt]
   have e2:wr.cell? ⟨q,k,Z⟩=V (C (fF 0 (eO vs ds k) k)):=by rw[hb.cell,iH (z:=0) C (by rw[kJ _ _ _ (by omega) (by omega)];omega)]
   have hz:=hb.free k
   have b1:(k:Int)<ds.length:=by omega
   have b2:k<ds.length:=by omega
   have b3:(me f k n:Int)<n:=by omega
   have k1:∀ (W:World) (u:Value) (i j:Nat),(W.setCell ⟨q,i,Z⟩ u).cell? ⟨p,j,Z⟩=W.cell? ⟨p,j,Z⟩:=fun W u i j=>bY hqp
   have k2:∀ (W:World) (u:Value) (i j:Nat),(W.setCell ⟨q,i,Z⟩ u).cell? ⟨g,j,Z⟩=W.cell? ⟨g,j,Z⟩:=fun W u i j=>bY hqg
   go_wp2
   go_region_held3 (fun w'=>w'.cell? ⟨p,0,Z⟩=V (Value.slice (V ⟨g,0,Z⟩) n n)/\w'.cell? ⟨g,me f k n,Z⟩=V (C (fF 0 vs k))) (go_keep)
    (first | (go_at_call 152;refine(iP (w:=wr.drew) h1 hn hf hm k (by omega)).mono ?_;rintro e w' ⟨rfl,m,rfl⟩))
   have hp:=hb.put k (C (fF 0 vs k))
   rw[kE,ox vs ds k hlt b2] at hp
   clear k1 k2 e1 e2 d0 hz
   go_wp2
   go_roundw
   case rel=>exact⟨k+1,by omega,by go_num,hp,aU (dD hw _) (cY _ _ _ _) (.inl rfl)⟩
   case measure=>simp[intOf];omega
  ·obtain rfl:k=vs.length:=by omega
   go_wp2
   go_end0
   exact⟨rfl,hb,hw⟩
theorem AV {q m:Nat}(h:Hd w p a n f 0 r):
 Calls Tryz.prog 167 #[K (V ⟨p,0,Z⟩),.slice (V ⟨q,0,Z⟩) m m] w fun e w'=>e=.returned (.tuple #[])/\w=w':=by
 have c2:=h.c2
 go_enter Tryz.func167,Tryz.ntmps167
 go_wp2
 go_loopw [9] (fun i wr=>i=I O 0/\w=wr) (fun _ _=>0)
 case atStart=>exact⟨rfl,rfl⟩
 case round=>
  obtain⟨rfl,rfl⟩:=hrel
  go_wp2
  go_end0
  exact⟨rfl,rfl⟩
theorem C3 {og:Option Nat}{q:Nat}{cs vs ds:List Int}(h:In w p og n f r cs vs)(hq:Bk w q 70 (eM C ds))(hd:vs.length<=ds.length)(hdm:ds.length<=4096)(hqp:p≠q)(hqg:og≠V q):
 Calls Tryz.prog 167 #[K (V ⟨p,0,Z⟩),.slice (V ⟨q,0,Z⟩) ds.length ds.length] w fun e w'=>e=.returned (.tuple #[])/\Bk w' q 70 (eM C (eO vs ds vs.length))/\fD w w' q:=by
 have hm:=h.most
 have hf:=h.few
 have hfit:=h.fits
 cases og with
 | none=>
  obtain⟨rfl,rfl⟩:=h.none_ rfl
  have e:vs=[]:=List.eq_nil_of_length_eq_zero (by omega)
  subst e
  refine(AV (q:=q) (m:=ds.length) h.hd).mono ?_
  rintro e w' ⟨rfl,rfl⟩
  exact⟨rfl,by rw[List.length_nil,uk];exact hq,cP _ _⟩
 | some g=>
  have hfn:=h.some_ g rfl
  exact AW h.hd (h.row g rfl) h.len (by omega) (by omega) (by omega) h.at_ hq hd hdm hqp (fun e=>hqg (by rw[e]))
def held (x:Int):Nat:=if x<0 then 0 else if 4096<x then 4096 else x.toNat
theorem tJ (w:World)(t:Nat)(ht:t<=4096):In (w.alloc (.cells #[.slice Z 0 0,I O 0,I O 0,I O (t:Nat)] 253)) w.heap.size Z 0 0 t [] []:=
 ⟨Bk.made _ _ _,fun _ h=>(by cases h),rfl,Nat.le_refl _,Nat.zero_le _,ht,fun i h=>absurd h (by simp),fun _ h=>(by cases h),fun _=>⟨rfl,rfl⟩⟩
theorem AS (x:Int)(w:World):
 Calls Tryz.prog 116 #[I O x] w fun e w'=>e=.returned (K (V ⟨w.heap.size,0,Z⟩))/\Rg w' w.heap.size Z (held x) []/\w.grownBy w' Z:=by
 rcases(show x<0\/4096<x\/(0<=x/\x<=4096) by omega) with h | h | h
 ·have e:held x=0:=by unfold held;rw[if_pos h]
  rw[e]
  clear e
  go_enter Tryz.func116,Tryz.ntmps116
  go_wp2
  go_ret
  exact⟨rfl,⟨_,_,_,tJ w 0 (by omega)⟩,bi _ _ _⟩
 ·have e:held x=4096:=by unfold held;rw[if_neg (by omega),if_pos h]
  rw[e]
  have h0:¬ x<0:=by omega
  clear e
  go_enter Tryz.func116,Tryz.ntmps116
  go_wp2
  go_ret
  exact⟨rfl,⟨_,_,_,tJ w 4096 (by omega)⟩,bi _ _ _⟩
 ·have e:held x=x.toNat:=by unfold held;rw[if_neg (by omega),if_neg (by omega)]
  rw[e]
  clear e
  obtain⟨t,rfl⟩:=Int.eq_ofNat_of_zero_le h.1
  rw[Int.toNat_natCast]
  have h1:¬ (t:Int)<0:=by omega
  have h2:¬ 4096<(t:Int):=by omega
  go_enter Tryz.func116,Tryz.ntmps116
  go_wp2
  go_ret
  exact⟨rfl,⟨_,_,_,tJ w t (by omega)⟩,bi _ _ _⟩
theorem Ef:(Tryz.prog.info? 70).map (fun i=>(i.zero,i.size,i.bytes))=V (V (C 0),1,4):=by kernel_rfl
def yV (w:World)(p n r:Nat)(vs:List Int)(e:Ending)(w':World):Prop:=
 ∃ q N cs,e=.returned (.tuple #[])/\In w' p (V q) N 0 r cs vs/\n<N/\w.heap.size<=q/\ab w w' (fun b=>b=p)
def pQ (n r:Nat):Nat:=min (max (2*n) 1) r
theorem xU {og:Option Nat}{cs vs:List Int}(h:In w p og n f r cs vs)(hv:vs.length=n)(hr:n<r):
 Calls Tryz.prog 151 #[K (V ⟨p,0,Z⟩)] w (yV w p n r vs):=by
 have hf:=h.few
 have hm:=h.most
 have eN:(if (r:Int)<(if IntKind.i64.wrap (2*(n:Int))<1 then 1 else IntKind.i64.wrap (2*(n:Int))) then (r:Int) else if IntKind.i64.wrap (2*(n:Int))<1 then 1 else IntKind.i64.wrap (2*(n:Int)))=(pQ n r:Int):=by
  rw[IntWalk.i64_in _ (by omega)];unfold pQ;split <;> split <;> omega
 have hN:n<pQ n r/\pQ n r<=r:=by unfold pQ;omega
 generalize pQ n r=N at eN hN
 obtain⟨i0,hi0,hz0,hz1,hz2⟩:=info_parts Ef
 have hmk:=fun W:World=>run_make (P:=Tryz.prog) W 26 70 i0 _ Tryz.underlying26 hi0 hz0 .i64 .i64 N N (by omega) (by omega) (by rw[hz2];omega) (by omega)
 rw[hz1] at hmk
 clear hi0 hz0 hz1 hz2
 have c0:=h.hd.c0
 have c3:=h.hd.c3
 have EN:=J eN
 have HV:=J hv
 clear eN hv
 have hd:=h.dg 1
 generalize og.map (fun g=>(⟨g,0,Z⟩:Addr))=a at c0
 go_enter Tryz.func151,Tryz.ntmps151
 go_wp2
 go_still_tail 12,(by kernel_rfl)
 rw[EN.out]
 generalize (if IntKind.i64.wrap (2*(n:Int))<1 then (1:Int) else IntKind.i64.wrap (2*(n:Int)))=x9
 change wpList _ _ _ _ _ (w.drewN 1)
 have hg1:w.grownBy (w.drewN 1) Z:=dD (cP _ _) 1
 generalize w.drewN 1=w1 at hd hg1 ⊢
 clear c0 c3
 go_wp2_with fail
 rw[show madeCells #[C 0] N=eM C (List.replicate N 0) from r9 C 0 N]
 have hq:=Bk.made w1 70 (eM C (List.replicate N 0))
 have hA:=bi w1 (.cells (eM C (List.replicate N 0)) 70) Z
 have hz:w1.heap.size<(w1.alloc (.cells (eM C (List.replicate N 0)) 70)).heap.size:=by simp
 generalize w1.alloc (.cells (eM C (List.replicate N 0)) 70)=w2 at hq hA hz ⊢
 have hwA:ab w1 w2 (fun _=>False):=.az hA (by simp)
 have h2:=hd.kept hwA (by simp) (by simp)
 have hpl:=Bk.lt hd.hd
 have hgl:og≠V w1.heap.size:=fun e=>by have:=hd.lt e;omega
 have hL:=C3 h2 hq (by rw[List.length_replicate,HV.out];omega) (by rw[List.length_replicate];omega) (by omega) hgl
 rw[List.length_replicate] at hL
 refine hL.mono ?_
 clear hL
 rintro e w3 ⟨rfl,hq3,hw3⟩
 have hw13:ab w1 w3 (fun _=>False):=hwA.bp (.az (S:=fun j=>j=w1.heap.size) hw3 (by simp)) (by rintro i rfl;right;omega)
 have h3:=hd.kept hw13 (by simp) (by simp)
 have h3':=h3.hd
 have d0:=h3'.c0
 have d1:=h3'.c1
 have z0:=Bk.free h3' 0
 have z1:=Bk.free h3' 1
 have hne:p≠w1.heap.size:=by omega
 have hw03:ab w w3 (fun _=>False):=ab.bp (.az hg1 (by simp)) hw13 (by simp)
 have hs0:=hg1.size
 generalize w1.heap.size=q at *
 clear hq hA hz hwA h2 hpl hgl hw13 hw3 hg1 hd
 go_wp2
 go_end0
 refine⟨q,N,eO vs (List.replicate N 0) vs.length,rfl,?_,hN.1,hs0,?_⟩
 ·refine⟨?_,?_,?_,by rw[HV.out];omega,hN.2,hf,?_,?_,?_⟩
  ·exact Bk.put (Bk.put h3' 0 _) 1 _
  ·intro g' e
   obtain rfl:q=g':=by injection e
   exact(hq3.off (p:=⟨p,0,Z⟩) hne.symm _).off (p:=⟨p,1,Z⟩) hne.symm _
  ·rw[kJ _ _ _ (Nat.le_refl _) (by rw[List.length_replicate,HV.out];omega),List.length_replicate]
  ·intro i hi
   have:i<N:=by have:=HV.out;omega
   rw[xE this,xM _ _ _ _ (Nat.le_refl _) hi]
  ·intro _ _;omega
  ·intro e;cases e
 ·exact((hw03.wide (S':=fun b=>b=p) (by simp)).put p 0 _ (.inl rfl)).put p 1 _ (.inl rfl)
def pL (w:World)(p:Nat)(og:Option Nat)(r:Nat)(vs:List Int)(v:Int)(e:Ending)(w':World):Prop:=
 ∃ og',e=.returned (.bool U)/\Rg w' p og' r (vs++[v])/\nR w p og w' og'
theorem xC {g:Nat}{cs vs:List Int}(h:In w p (V g) n f r cs vs)(hv:vs.length<n)(v:Int):
 Calls Tryz.prog 118 #[K (V ⟨p,0,Z⟩),C v] w (pL w p (V g) r vs v):=by
 have c0:=h.hd.c0
 have c2:=h.hd.c2
 have c3:=h.hd.c3
 simp only[Option.map_some] at c0
 have hf:=h.few
 have hm:=h.most
 have hfn:=h.some_ g rfl
 have hM:=h.more hv v
 generalize hc:vs.length=c at hv c2 hM
 have HC:=J hc
 clear hc
 have hne:=h.ne rfl
 have t1:decide ((r:Int)<=(c:Int))=T:=by simp;omega
 have t2:((c:Int)==(n:Int))=T:=by simp;omega
 have hpl:me f c n<n:=lq (by omega)
 have b3:(me f c n:Int)<n:=by omega
 have hl:=h.len
 have e1:w.cell? ⟨g,me f c n,Z⟩=V (C (fF 0 cs (me f c n))):=by rw[(h.row g rfl).cell,iH (z:=0) C (by rw[hl];exact hpl)]
 have z1:=(h.row g rfl).free (me f c n)
 have z2:=Bk.free h.hd 2
 clear hl
 have k1:∀ (W:World) (u:Value) (i j:Nat),(W.setCell ⟨g,i,Z⟩ u).cell? ⟨p,j,Z⟩=W.cell? ⟨p,j,Z⟩:=fun W u i j=>bY hne
 go_enter Tryz.func118,Tryz.ntmps118
 go_wp2
 go_quiet (fail)
 go_wp2
 go_quiet (fail)
 go_wp2
 go_region_held3 (fun w'=>w'.cell? ⟨p,0,Z⟩=V (Value.slice (V ⟨g,0,Z⟩) n n)/\w'.cell? ⟨p,2,Z⟩=V (Value.int .i64 c)) (go_keep)
  (first | (go_at_call 152;refine(iP (h.dg _).hd (by omega) (by omega) (by omega) c (by omega)).mono ?_;rintro e w' ⟨rfl,m,rfl⟩))
 go_wp2
 go_ret
 refine⟨V g,rfl,⟨n,f,_,hM.dg _⟩,.inl rfl,?_⟩
 exact(((ab.refl w _).dg _).put g _ _ (.inl (.inr rfl))).put p _ _ (.inl (.inl rfl))
end
section
variable {w:World}{p:Nat}{a:Option Addr}{n f r:Nat}
theorem xB {og:Option Nat}{cs vs:List Int}(h:In w p og n f r cs vs)(hv:vs.length=n)(hr:n<r)(v:Int):
 Calls Tryz.prog 118 #[K (V ⟨p,0,Z⟩),C v] w (pL w p og r vs v):=by
 have c0:=h.hd.c0
 have c2:=h.hd.c2
 have c3:=h.hd.c3
 rw[hv] at c2
 have hf:=h.few
 have HV:=J hv
 clear hv
 have t1:decide ((r:Int)<=(n:Int))=T:=by simp;omega
 generalize og.map (fun g=>(⟨g,0,Z⟩:Addr))=a at c0
 go_enter Tryz.func118,Tryz.ntmps118
 go_wp2
 go_quiet (fail)
 go_wp2
 go_quiet (fail)
 go_wp2_with fail
 refine(xU (h.dg _) HV.out hr).mono ?_
 rintro e w1 ⟨q,N,cs1,rfl,h1,hN,hq,hw1⟩
 have hq':w.heap.size<=q:=hq
 have hw1':ab w w1 (fun b=>b=p):=ab.bp ((ab.refl w _).dg _) hw1 (fun i e=>.inl e)
 clear c0 c2 c3 hw1 hq t1
 have c0:=h1.hd.c0
 have c2:=h1.hd.c2
 simp only[Option.map_some] at c0
 rw[HV.out] at c2
 have hm:=h1.most
 have hM:=h1.more (by rw[HV.out];exact hN) v
 rw[HV.out] at hM
 have hne:=h1.ne rfl
 have hpl:me 0 n N<N:=lq (by omega)
 have b3:(me 0 n N:Int)<N:=by omega
 have hl:=h1.len
 have e1:w1.cell? ⟨q,me 0 n N,Z⟩=V (C (fF 0 cs1 (me 0 n N))):=by rw[(h1.row q rfl).cell,iH (z:=0) C (by rw[hl];exact hpl)]
 have z1:=(h1.row q rfl).free (me 0 n N)
 have z2:=Bk.free h1.hd 2
 clear hl
 have k1:∀ (W:World) (u:Value) (i j:Nat),(W.setCell ⟨q,i,Z⟩ u).cell? ⟨p,j,Z⟩=W.cell? ⟨p,j,Z⟩:=fun W u i j=>bY hne
 go_wp2
 go_region_held3 (fun w'=>w'.cell? ⟨p,0,Z⟩=V (Value.slice (V ⟨q,0,Z⟩) N N)/\w'.cell? ⟨p,2,Z⟩=V (Value.int .i64 n)) (go_keep)
  (first | (go_at_call 152;refine(iP (w:=w1.drew) h1.hd (by omega) (by omega) (by omega) n (by omega)).mono ?_;rintro e w' ⟨rfl,m,rfl⟩))
 go_wp2
 go_ret
 refine⟨V q,rfl,⟨N,0,_,hM.dg _⟩,.inr ⟨q,rfl,hq'⟩,?_⟩
 have hw2:ab w w1 (fun b=>b=p\/V b=og):=hw1'.wide (fun i e _=>.inl e)
 exact((hw2.dg _).put q _ _ (.inr hq')).put p _ _ (.inl (.inl rfl))
theorem y9 {og:Option Nat}{vs:List Int}(h:Rg w p og r vs)(hv:vs.length<r)(v:Int):
 Calls Tryz.prog 118 #[K (V ⟨p,0,Z⟩),C v] w (pL w p og r vs v):=by
 obtain⟨n,f,cs,h⟩:=h
 by_cases e:vs.length=n
 ·exact xB h e (by omega) v
 ·have hfit:=h.fits
  cases og with
  | none=>obtain⟨rfl,rfl⟩:=h.none_ rfl;omega
  | some g=>exact xC h (by omega) v
theorem Au {og:Option Nat}{vs:List Int}(h:Rg w p og r vs):
 Calls Tryz.prog 136 #[K (V ⟨p,0,Z⟩)] w fun e w'=>e=.returned (I O ((r-vs.length:Nat):Int))/\∃ m,w'=w.drewN m:=by
 have hl:=h.C0
 obtain⟨n,f,cs,h⟩:=h;exact xy h.hd hl.1 hl.2
theorem Aj {og:Option Nat}(h:Rg w p og r []):
 Calls Tryz.prog 121 #[K (V ⟨p,0,Z⟩)] w fun e w'=>e=.returned (.tuple #[C 0,.bool T])/\w=w':=by
 obtain⟨n,f,cs,h⟩:=h
 have c2:=h.hd.c2
 simp only[List.length_nil] at c2
 go_enter Tryz.func121,Tryz.ntmps121
 go_wp2
 go_ret2
 exact⟨rfl,rfl⟩
def yU (w:World)(p:Nat)(og:Option Nat)(r:Nat)(v:Int)(vs:List Int)(e:Ending)(w':World):Prop:=
 e=.returned (.tuple #[C v,.bool U])/\Rg w' p og r vs/\ab w w' (fun b=>b=p\/V b=og)
theorem Ai {og:Option Nat}{v:Int}{vs:List Int}(h:Rg w p og r (v :: vs)):
 Calls Tryz.prog 121 #[K (V ⟨p,0,Z⟩)] w (yU w p og r v vs):=by
 obtain⟨n,f,cs,h⟩:=h
 have hfit:=h.fits
 simp only[List.length_cons] at hfit
 cases og with
 | none=>obtain⟨rfl,rfl⟩:=h.none_ rfl;omega
 | some g=>
  have hfn:=h.some_ g rfl
  have hm:=h.most
  have hf:=h.few
  have c0:=h.hd.c0
  have c1:=h.hd.c1
  have c2:=h.hd.c2
  simp only[Option.map_some] at c0
  simp only[List.length_cons] at c2
  have hL:=h.less
  have hl:=h.len
  have hat:=h.at_ 0 (by simp)
  rw[ol hfn] at hat
  have hat':fF 0 cs f=v:=by rw[<-hat];rfl
  have e1:w.cell? ⟨g,f,Z⟩=V (C v):=by rw[(h.row g rfl).cell,iH (z:=0) C (by rw[hl];exact hfn),hat']
  have b1:(f:Int)<n:=by omega
  have hne:=h.ne rfl
  have z0:=(h.row g rfl).free f
  have z1:=Bk.free h.hd 1
  have z2:=Bk.free h.hd 2
  have h1:Hd (w.setCell ⟨g,f,Z⟩ (C 0)) p (V ⟨g,0,Z⟩) n f (vs.length+1) r:=Bk.off h.hd (p:=⟨g,f,Z⟩) hne (C 0)
  clear hat hat' hl
  generalize vs.length=c at c2 hL h1 hfit
  have t2:((c+1:Nat):Int)=(c:Int)+1:=by omega
  rw[t2] at c2
  clear t2
  have k1:∀ (W:World) (u:Value) (i j:Nat),(W.setCell ⟨g,i,Z⟩ u).cell? ⟨p,j,Z⟩=W.cell? ⟨p,j,Z⟩:=fun W u i j=>bY hne
  have t3:((c:Int)+1==0)=T:=by simp;omega
  go_enter Tryz.func121,Tryz.ntmps121
  go_wp2
  go_quiet (fail)
  go_wp2
  go_region_held3 (fun w'=>w'.cell? ⟨p,0,Z⟩=V (Value.slice (V ⟨g,0,Z⟩) n n)/\w'.cell? ⟨p,1,Z⟩=V (Value.int .i64 f)) (go_keep) ((fail))
  go_wp2_with fail
  have h2:Hd ((w.drewN (nq+1)).setCell ⟨g,f,Z⟩ (C 0)) p (V ⟨g,0,Z⟩) n f (c+1) r:=h1
  have hP:=iP h2 (by omega) (by omega) (by omega) 1 (by omega)
  refine hP.mono ?_
  clear hP
  rintro e w' ⟨rfl,m,rfl⟩
  go_wp2
  go_ret2
  refine⟨rfl,⟨n,_,_,hL.same rfl⟩,?_⟩
  exact(((((ab.refl w _).dg _).put g _ _ (.inl (.inr rfl))).dg _).put p _ _ (.inl (.inl rfl))).put p _ _ (.inl (.inl rfl))
end
end Go.Proofs.YtieiifdhdjhnoaaGreatDoor.RWord
namespace Go.Proofs.YtieiifdhdjhnoaaGreatDoor
open Go.ChangeShapes Go.WideShapes Go.ChangeAt Go.RowKit Go.Maps
theorem ka:Keyed Tryz.prog 70:=int_keyed Tryz.underlying70
theorem FA {x:Int}(h0:0<=x)(h1:x<4294967296):(Lit.int .u32 x).wf=U:=by
 simp[Lit.wf,IntKind.min,IntKind.max,IntKind.bits,IntKind.signed];omega
theorem zK {x:Int}(h0:0<=x)(h1:x<4294967296):keyOf Tryz.prog 70 (.int .u32 x)=V (.int .u32 x):=keyOf_int_mk Tryz.underlying70 (FA h0 h1)
theorem xd (w:World):(zeroValue 4).run Tryz.prog w=.ok (.bool T) w:=by kernel_rfl
theorem uq (x:Int):WideAt.IsKeyLit (.int .u32 x):=by trivial
theorem jV {x y:Int}(h:y≠x):(Lit.int .u32 y)≠.int .u32 x:=fun e=>h (by injection e)
def lA (os:Int->Bool)(x:Int)(v:Bool):Int->Bool:=fun y=>if y=x then v else os y
theorem iM (os:Int->Bool)(x:Int)(v:Bool):lA os x v x=v:=by simp[lA]
theorem gX {os:Int->Bool}{x y:Int}{v:Bool}(h:y≠x):lA os x v y=os y:=by simp[lA,h]
def gE (w:World)(b:Nat)(os:Int->Bool)(c:Nat):Prop:=
 ∃ D:DataW Unit,w.ownsMap Tryz.prog 70 (plainElem Tryz.prog 4) b c D/\size D=c/\
  ∀ x,0<=x->x<4294967296->Maps.has D (.int .u32 x)=os x/\D.atKey (.int .u32 x) (.lit (.bool T))=.lit (.bool (os x))
section
variable {w w':World}{b c:Nat}{os:Int->Bool}
theorem nF {D:DataW Unit}{n:Nat}{k:TypeId}{R:Value->Option (DataW Unit×List MemPlace)}(h:w.ownsMap Tryz.prog k R b n D):w.ownsMap Tryz.prog k R b (size D) D:=by
 obtain⟨es,clock,hb,F,hs,rfl⟩:=h
 exact⟨es,clock,hb,F,by simp[Maps.size,length_sorted],rfl⟩
theorem gE.lt (h:gE w b os c):b<w.heap.size:=by obtain⟨D,h,_⟩:=h;exact h.lt
theorem gE.fx {g:Nat}{t:TypeId}{cs:Array Value}(h:gE w b os c)(k:Bk w g t cs):b≠g:=by
 obtain⟨D,⟨es,clock,hb,_⟩,_⟩:=h
 intro e;subst e;unfold Bk at k;rw[hb] at k;cases k
theorem gE.within {S:Nat->Prop}(h:gE w b os c)(k:ab w w' S)(hn:¬ S b):gE w' b os c:=by
 have hl:=h.lt
 obtain⟨D,⟨es,clock,hb,r⟩,r'⟩:=h
 exact⟨D,⟨es,clock,(k.block b hl hn).trans hb,r⟩,r'⟩
theorem gE.drewN (h:gE w b os c)(n:Nat):gE (w.drewN n) b os c:=h
theorem gE.made (w:World):gE (w.alloc (.map #[] 0)) w.heap.size (fun _=>T) 0:=
 ⟨.map [],World.ownsMap_made w _ _ _,rfl,fun _ _ _=>⟨rfl,rfl⟩⟩
theorem gE.look (h:gE w b os c){x:Int}(h0:0<=x)(h1:x<4294967296):(Instr.lookup 170 (.map (V b)) (I .u32 x) T).run Tryz.prog w=.ok (.bool (os x)) w:=by
 obtain⟨D,h,_,hk⟩:=h
 obtain⟨v,ps,hrun,hv⟩:=h.lookup ka Tryz.underlying170 (xd w) (plainElem_bool Tryz.underlying4 T) (zK h0 h1)
 rw[(hk x h0 h1).2] at hv
 rw[hrun]
 unfold plainElem at hv
 rw[Tryz.underlying4] at hv
 cases v <;> simp at hv
 rw[hv.1]
theorem gE.len (h:gE w b os c)(ty:TypeId):(Builtin.len_ #[170] ty #[.map (V b)]).run Tryz.prog w=.ok (I O c) w:=by
 obtain⟨D,h,hs,_⟩:=h
 rw[<-hs]
 exact h.len Tryz.underlying170 ty
theorem xg {D:DataW Unit}{os:Int->Bool}(hD:IsMap D)(hk:∀ x,0<=x->x<4294967296->Maps.has D (.int .u32 x)=os x/\D.atKey (.int .u32 x) (.lit (.bool T))=.lit (.bool (os x)))(k:Int):
 ∀ x,0<=x->x<4294967296->Maps.has (D.put (.int .u32 k) (.lit (.bool U))) (.int .u32 x)=lA os k U x/\(D.put (.int .u32 k) (.lit (.bool U))).atKey (.int .u32 x) (.lit (.bool T))=.lit (.bool (lA os k U x)):=by
 intro x h0 h1
 by_cases e:x=k
 ·subst e;rw[iM];exact⟨has_put_same hD (uq _) _,atKey_put_same hD (uq _) _ _⟩
 ·rw[gX e,has_put_other (jV e),atKey_put_other (jV e)];exact hk x h0 h1
theorem rW {D:DataW Unit}{os:Int->Bool}(hk:∀ x,0<=x->x<4294967296->Maps.has D (.int .u32 x)=os x/\D.atKey (.int .u32 x) (.lit (.bool T))=.lit (.bool (os x)))(k:Int):
 ∀ x,0<=x->x<4294967296->Maps.has (D.del (.int .u32 k)) (.int .u32 x)=lA os k T x/\(D.del (.int .u32 k)).atKey (.int .u32 x) (.lit (.bool T))=.lit (.bool (lA os k T x)):=by
 intro x h0 h1
 by_cases e:x=k
 ·subst e;rw[iM];exact⟨has_del_same,atKey_del_same _⟩
 ·rw[gX e,has_del_other (jV e),atKey_del_other (jV e)];exact hk x h0 h1
theorem gE.add (h:gE w b os c)(hc:c<1000000){k:Int}(h0:0<=k)(h1:k<4294967296)(hk:os k=T):
 ∃ w',(Instr.mapUpdate 170 (.map (V b)) (I .u32 k) (.bool U)).run Tryz.prog w=.ok () w'/\gE w' b (lA os k U) (c+1)/\fD w w' b:=by
 obtain⟨D,h,hs,hh⟩:=h
 obtain⟨w',hrun,ho,hg⟩:=h.update ka Tryz.underlying170 (by unfold maxLen;omega) (zK h0 h1) (plainElem_bool (H:=Unit) Tryz.underlying4 U)
 refine⟨w',hrun,⟨_,ho,?_,xg h.isMap hh k⟩,hg⟩
 rw[size_put (h.tidy ka),(hh k h0 h1).1,hk,hs];simp
end
section
variable {ops:Array Oper}{rest:List Oper}{o:Oper}{a:Act}{Q:Exit->Act->World->Prop}{w:World}{b c:Nat}{os:Int->Bool}
theorem rQ (hg:o.guard=Z)(m x:Operand)(hop:o.op=Op.call { callee:=Callee.builtin Builtin.delete,args:=#[m,x],argTypes:=#[170,70] })
 (hm:a.eval m=.map (V b)) (h:gE w b os c) {k:Int} (h0:0<=k) (h1:k<4294967296) (hx:a.eval x=I .u32 k) (hk:os k=U)
 (hK:∀ w',gE w' b (lA os k T) (c-1)->fD w w' b->wpList Tryz.prog ops Q rest (a.put o.dst (.tuple #[])) w'):wpList Tryz.prog ops Q (o :: rest) a w:=by
 obtain⟨D,h,hs,hh⟩:=h
 refine wpList_delete_own w hg m x 170 70 hop 4 ka Tryz.underlying170 _ b c D hm h _ _ hx (zK h0 h1) fun w' h' ht=>?_
 have hsz:=size_del (k:=.int .u32 k) (h.tidy ka)
 rw[(hh k h0 h1).1,hk,hs] at hsz
 have hsz':size (D.del (.int .u32 k))=c-1:=by simp at hsz;omega
 refine hK w' ⟨_,?_,hsz',rW hh k⟩ ht.grown
 rw[<-hsz']
 exact nF h'
end
