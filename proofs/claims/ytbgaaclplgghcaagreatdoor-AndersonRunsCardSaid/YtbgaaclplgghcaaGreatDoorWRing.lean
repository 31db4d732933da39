import Derived.Test.YtbgaaclplgghcaaGreatDoorWMem
import Derived.Deep.QuietTactic
import Derived.BigQuiet
import Derived.StillTailTactics
import Derived.Deep.RegionHeld3
import Derived.RegionTactic
import Derived.Laws.Pointers
import Derived.Maps.OwnSet
set_option maxRecDepth 100000
open Go.Value renaming int->I,pointer->T
open Go.IntKind renaming i64->Q
open Option renaming none->O,some->Z
open Bool renaming false->V
open Go.Lib renaming hid->R
namespace Go.Proofs.YtbgaaclplgghcaaGreatDoor.RWord
open Go.ChangeShapes Go.WideShapes Go.ChangeAt Go.RowKit
abbrev C (x:Int):Value:=I .u32 x
def lW (f i n:Nat):Nat:=(f+i) % n
theorem ld {f i n:Nat}(h:0<n):lW f i n<n:=Nat.mod_lt _ h
theorem lf {f i n:Nat}(hf:f<n)(hi:i<=n):lW f i n=if f+i<n then f+i else f+i-n:=by
 unfold lW
 split
 ·exact Nat.mod_eq_of_lt (by omega)
 ·rw[Nat.mod_eq_sub_mod (by omega)];exact Nat.mod_eq_of_lt (by omega)
theorem xn {i n:Nat}(hi:i<n):lW 0 i n=i:=by unfold lW;rw[Nat.zero_add];exact Nat.mod_eq_of_lt hi
theorem yO {f i j n:Nat}(hf:f<n)(hi:i<j)(hj:j<n):lW f i n≠lW f j n:=by
 rw[lf hf (by omega),lf hf (by omega)];split <;> split <;> omega
theorem xo {f i n:Nat}(hf:f<n)(hi:i+1<=n):lW (lW f 1 n) i n=lW f (i+1) n:=by
 rw[lf (f:=lW f 1 n) (ld (by omega)) (by omega),lf (i:=i+1) hf hi,lf (i:=1) hf (by omega)]
 repeat' split
 all_goals omega
theorem uF {f n:Nat}(hf:f<n):lW f 0 n=f:=by rw[lf hf (by omega),if_pos (by omega)];rfl
def Hd (w:World)(p:Nat)(a:Option Addr)(n f c r:Nat):Prop:=Bk w p 278 #[.slice a n n,I Q f,I Q c,I Q r]
section
variable {w:World}{p:Nat}{a:Option Addr}{n f c r:Nat}
theorem Hd.c0 (h:Hd w p a n f c r):w.cell? ⟨p,0,O⟩=Z (.slice a n n):=by rw[Bk.cell h];rfl
theorem Hd.c1 (h:Hd w p a n f c r):w.cell? ⟨p,1,O⟩=Z (I Q f):=by rw[Bk.cell h];rfl
theorem Hd.c2 (h:Hd w p a n f c r):w.cell? ⟨p,2,O⟩=Z (I Q c):=by rw[Bk.cell h];rfl
theorem Hd.c3 (h:Hd w p a n f c r):w.cell? ⟨p,3,O⟩=Z (I Q r):=by rw[Bk.cell h];rfl
theorem kv (h:Hd w p a n f c r)(hn:0<n)(hf:f<=4096)(hm:n<=4096)(i:Nat)(hi:i<=4096):
 Calls Tryz.prog 175 #[T (Z ⟨p,0,O⟩),I Q i] w fun e w'=>e=.returned (I Q (lW f i n))/\∃ m,w'=w.drewN m:=by
 have c0:=h.c0
 have c1:=h.c1
 have hz:¬ (n:Int)=0:=by omega
 go_enter Tryz.func175,Tryz.ntmps175
 go_wp2
 go_quiet (fail)
 go_wp2
 go_ret
 exact⟨br (by simp[lW]),_,rfl⟩
theorem xh (h:Hd w p a n f c r)(hc:c<=r)(hr:r<=4096):
 Calls Tryz.prog 149 #[T (Z ⟨p,0,O⟩)] w fun e w'=>e=.returned (I Q ((r-c:Nat):Int))/\∃ m,w'=w.drewN m:=by
 have c2:=h.c2
 have c3:=h.c3
 go_enter Tryz.func149,Tryz.ntmps149
 go_wp2
 go_quiet (fail)
 go_wp2
 go_ret
 exact⟨br (by omega),_,rfl⟩
end
structure In (w:World)(p:Nat)(og:Option Nat)(n f room:Nat)(cs vs:List Int):Prop where
 hd:Hd w p (og.map fun g=>⟨g,0,O⟩) n f vs.length room
 row:∀ g,og=Z g->Bk w g 22 (eJ C cs)
 len:cs.length=n
 fits:vs.length<=n
 most:n<=room
 few:room<=4096
 at_:∀ i,i<vs.length->fK 0 vs i=fK 0 cs (lW f i n)
 some_:∀ g,og=Z g->f<n
 none_:og=O->n=0/\f=0
def Rg (w:World)(p:Nat)(og:Option Nat)(room:Nat)(vs:List Int):Prop:=∃ n f cs,In w p og n f room cs vs
section
variable {w w':World}{p:Nat}{og:Option Nat}{n f room:Nat}{cs vs:List Int}
theorem In.ed (h:In w p og n f room cs vs)(k:Nat):In (w.drewN k) p og n f room cs vs:=⟨h.hd,h.row,h.len,h.fits,h.most,h.few,h.at_,h.some_,h.none_⟩
theorem In.same (h:In w p og n f room cs vs)(e:w'.heap=w.heap):In w' p og n f room cs vs:=
 ⟨by have:=h.hd;unfold Hd Bk at *;rw[e];exact this,fun g k=>by have:=h.row g k;unfold Bk at *;rw[e];exact this,h.len,h.fits,h.most,h.few,h.at_,h.some_,h.none_⟩
theorem In.kept {S:Nat->Prop}(h:In w p og n f room cs vs)(k:ab w w' S)(h1:¬ S p)(h2:∀ g,og=Z g->¬ S g):In w' p og n f room cs vs:=
 ⟨Bk.within h.hd k h1,fun g e=>Bk.within (h.row g e) k (h2 g e),h.len,h.fits,h.most,h.few,h.at_,h.some_,h.none_⟩
theorem In.ne {g:Nat}(h:In w p og n f room cs vs)(e:og=Z g):p≠g:=Bk.aj h.hd (h.row g e) (by decide)
theorem In.lt {g:Nat}(h:In w p og n f room cs vs)(e:og=Z g):g<w.heap.size:=(h.row g e).lt
theorem Rg.ed (h:Rg w p og room vs)(k:Nat):Rg (w.drewN k) p og room vs:=by obtain⟨n,f,cs,h⟩:=h;exact⟨n,f,cs,h.ed k⟩
theorem Rg.kept {S:Nat->Prop}(h:Rg w p og room vs)(k:ab w w' S)(h1:¬ S p)(h2:∀ g,og=Z g->¬ S g):Rg w' p og room vs:=by
 obtain⟨n,f,cs,h⟩:=h;exact⟨n,f,cs,h.kept k h1 h2⟩
theorem Rg.CI (h:Rg w p og room vs):vs.length<=room/\room<=4096:=by
 obtain⟨n,f,cs,h⟩:=h;exact⟨Nat.le_trans h.fits h.most,h.few⟩
theorem Rg.By (h:Rg w p og room vs):p<w.heap.size:=by obtain⟨n,f,cs,h⟩:=h;exact Bk.lt h.hd
theorem Rg.BA {g:Nat}(h:Rg w p og room vs)(e:og=Z g):g<w.heap.size:=by obtain⟨n,f,cs,h⟩:=h;exact h.lt e
theorem In.more {g:Nat}(h:In w p (Z g) n f room cs vs)(hv:vs.length<n)(v:Int):
 In ((w.setCell ⟨g,lW f vs.length n,O⟩ (C v)).setCell ⟨p,2,O⟩ (I Q ((vs.length+1:Nat):Int))) p (Z g) n f room (cs.set (lW f vs.length n) v) (vs++[v]):=by
 have hf:=h.some_ g rfl
 have hl:=h.len
 refine⟨?_,?_,by simpa using hl,by simp;omega,h.most,h.few,?_,h.some_,h.none_⟩
 ·have h1:=Bk.put (Bk.off h.hd (p:=⟨g,lW f vs.length n,O⟩) (h.ne rfl) (C v)) 2 (I Q ((vs.length+1:Nat):Int))
  unfold Hd
  rw[List.length_append]
  exact h1
 ·intro g' e
  obtain rfl:g=g':=by injection e
  have h1:=(h.row g rfl).put (lW f vs.length n) (C v)
  rw[ku] at h1
  exact h1.off (p:=⟨p,2,O⟩) (h.ne rfl).symm _
 ·intro i hi
  simp only[List.length_append,List.length_cons,List.length_nil,Nat.zero_add] at hi
  rw[qv (by rw[hl];exact ld (by omega))]
  by_cases e:i=vs.length
  ·subst e;rw[if_pos rfl,lG]
  ·rw[if_neg (yO hf (by omega) hv).symm,lF (by omega)]
   exact h.at_ i (by omega)
theorem In.less {g:Nat}{v:Int}(h:In w p (Z g) n f room cs (v :: vs)):
 In (((w.setCell ⟨g,f,O⟩ (C 0)).setCell ⟨p,1,O⟩ (I Q (lW f 1 n))).setCell ⟨p,2,O⟩ (I Q vs.length)) p (Z g) n (lW f 1 n) room (cs.set f 0) vs:=by
 have hf:=h.some_ g rfl
 have hl:=h.len
 have hfit:=h.fits
 simp only[List.length_cons] at hfit
 refine⟨?_,?_,by simpa using hl,by omega,h.most,h.few,?_,fun _ _=>ld (by omega),fun e=>(by cases e)⟩
 ·have h1:=Bk.put (Bk.put (Bk.off h.hd (p:=⟨g,f,O⟩) (h.ne rfl) (C 0)) 1 (I Q (lW f 1 n))) 2 (I Q vs.length)
  exact h1
 ·intro g' e
  obtain rfl:g=g':=by injection e
  have h1:=(h.row g rfl).put f (C 0)
  rw[ku] at h1
  exact(h1.off (p:=⟨p,1,O⟩) (h.ne rfl).symm _).off (p:=⟨p,2,O⟩) (h.ne rfl).symm _
 ·intro i hi
  have h1:=h.at_ (i+1) (by simp;omega)
  have h2:=yO (n:=n) hf (i:=0) (j:=i+1) (by omega) (by omega)
  rw[uF hf] at h2
  rw[xo hf (by omega),qv (by rw[hl];exact hf),if_neg h2,<-h1]
  simp[fK]
end
section
variable {w:World}{p:Nat}{a:Option Addr}{n f r:Nat}
theorem AG {g q:Nat}{cs vs ds:List Int}(h:Hd w p (Z ⟨g,0,O⟩) n f vs.length r)(hrow:Bk w g 22 (eJ C cs))(hl:cs.length=n)(hn:0<n)(hf:f<=4096)(hm:n<=4096)
 (hat:∀ i,i<vs.length->fK 0 vs i=fK 0 cs (lW f i n)) (hq:Bk w q 22 (eJ C ds)) (hd:vs.length<=ds.length) (hdm:ds.length<=4096) (hqp:p≠q) (hqg:g≠q):
 Calls Tryz.prog 199 #[T (Z ⟨p,0,O⟩),.slice (Z ⟨q,0,O⟩) ds.length ds.length] w fun e w'=>e=.returned (.tuple #[])/\Bk w' q 22 (eJ C (eK vs ds vs.length))/\fD w w' q:=by
 have c2:=h.c2
 have HAT:=R hat
 have HL:=R hl
 clear hat hl
 go_enter Tryz.func199,Tryz.ntmps199
 go_wp2
 go_loopw [9] (fun i wr=>∃ k:Nat,k<=vs.length/\i=I Q k/\Bk wr q 22 (eJ C (eK vs ds k))/\fD w wr q) (fun i _=>vs.length-(intOf i).toNat)
 case atStart=>exact⟨0,Nat.zero_le _,rfl,by rw[tS];exact hq,db _ _⟩
 case round=>
  obtain⟨k,hk,rfl,hb,hw⟩:=hrel
  by_cases hlt:k<vs.length
  ·have h1:Hd wr p (Z ⟨g,0,O⟩) n f vs.length r:=Bk.grown h hw (by simp[hqp])
   have hg1:=Bk.grown hrow hw (by simp[hqg])
   have d0:=h1.c0
   have hpl:lW f k n<n:=ld hn
   have e1:wr.cell? ⟨g,lW f k n,O⟩=Z (C (fK 0 vs k)):=by rw[hg1.cell,jz (z:=0) C (by rw[HL.out];exact hpl),HAT.out k hlt]
   have e2:wr.cell? ⟨q,k,O⟩=Z (C (fK 0 (eK vs ds k) k)):=by rw[hb.cell,jz (z:=0) C (by rw[kC _ _ _ (by omega) (by omega)];omega)]
   have hz:=hb.free k
   have b1:(k:Int)<ds.length:=by omega
   have b2:k<ds.length:=by omega
   have b3:(lW f k n:Int)<n:=by omega
   have k1:∀ (W:World) (u:Value) (i j:Nat),(W.setCell ⟨q,i,O⟩ u).cell? ⟨p,j,O⟩=W.cell? ⟨p,j,O⟩:=fun W u i j=>cj hqp
   have k2:∀ (W:World) (u:Value) (i j:Nat),(W.setCell ⟨q,i,O⟩ u).cell? ⟨g,j,O⟩=W.cell? ⟨g,j,O⟩:=fun W u i j=>cj hqg
   go_wp2
   go_region_held3 (fun w'=>w'.cell? ⟨p,0,O⟩=Z (Value.slice (Z ⟨g,0,O⟩) n n)/\w'.cell? ⟨g,lW f k n,O⟩=Z (C (fK 0 vs k))) (go_keep)
    (first | (go_at_call 175;refine(kv (w:=wr.drew) h1 hn hf hm k (by omega)).mono ?_;rintro e w' ⟨rfl,m,rfl⟩))
   have hp:=hb.put k (C (fK 0 vs k))
   rw[ku,nS vs ds k hlt b2] at hp
   clear k1 k2 e1 e2 d0 hz
   go_wp2
   go_roundw
   case rel=>exact⟨k+1,by omega,by go_num,hp,aQ (eB hw _) (dq _ _ _ _) (.inl rfl)⟩
   case measure=>simp[intOf];omega
  ·obtain rfl:k=vs.length:=by omega
   go_wp2
   go_end0
   exact⟨rfl,hb,hw⟩
theorem AF {q m:Nat}(h:Hd w p a n f 0 r):
 Calls Tryz.prog 199 #[T (Z ⟨p,0,O⟩),.slice (Z ⟨q,0,O⟩) m m] w fun e w'=>e=.returned (.tuple #[])/\w=w':=by
 have c2:=h.c2
 go_enter Tryz.func199,Tryz.ntmps199
 go_wp2
 go_loopw [9] (fun i wr=>i=I Q 0/\w=wr) (fun _ _=>0)
 case atStart=>exact⟨rfl,rfl⟩
 case round=>
  obtain⟨rfl,rfl⟩:=hrel
  go_wp2
  go_end0
  exact⟨rfl,rfl⟩
theorem CL {og:Option Nat}{q:Nat}{cs vs ds:List Int}(h:In w p og n f r cs vs)(hq:Bk w q 22 (eJ C ds))(hd:vs.length<=ds.length)(hdm:ds.length<=4096)(hqp:p≠q)(hqg:og≠Z q):
 Calls Tryz.prog 199 #[T (Z ⟨p,0,O⟩),.slice (Z ⟨q,0,O⟩) ds.length ds.length] w fun e w'=>e=.returned (.tuple #[])/\Bk w' q 22 (eJ C (eK vs ds vs.length))/\fD w w' q:=by
 have hm:=h.most
 have hf:=h.few
 have hfit:=h.fits
 cases og with
 | none=>
  obtain⟨rfl,rfl⟩:=h.none_ rfl
  have e:vs=[]:=List.eq_nil_of_length_eq_zero (by omega)
  subst e
  refine(AF (q:=q) (m:=ds.length) h.hd).mono ?_
  rintro e w' ⟨rfl,rfl⟩
  exact⟨rfl,by rw[List.length_nil,tS];exact hq,db _ _⟩
 | some g=>
  have hfn:=h.some_ g rfl
  exact AG h.hd (h.row g rfl) h.len (by omega) (by omega) (by omega) h.at_ hq hd hdm hqp (fun e=>hqg (by rw[e]))
def held (x:Int):Nat:=if x<0 then 0 else if 4096<x then 4096 else x.toNat
theorem tj (w:World)(t:Nat)(ht:t<=4096):In (w.alloc (.cells #[.slice O 0 0,I Q 0,I Q 0,I Q (t:Nat)] 278)) w.heap.size O 0 0 t [] []:=
 ⟨Bk.made _ _ _,fun _ h=>(by cases h),rfl,Nat.le_refl _,Nat.zero_le _,ht,fun i h=>absurd h (by simp),fun _ h=>(by cases h),fun _=>⟨rfl,rfl⟩⟩
theorem Ay (x:Int)(w:World):
 Calls Tryz.prog 129 #[I Q x] w fun e w'=>e=.returned (T (Z ⟨w.heap.size,0,O⟩))/\Rg w' w.heap.size O (held x) []/\w.grownBy w' O:=by
 rcases(show x<0\/4096<x\/(0<=x/\x<=4096) by omega) with h | h | h
 ·have e:held x=0:=by unfold held;rw[if_pos h]
  rw[e]
  clear e
  go_enter Tryz.func129,Tryz.ntmps129
  go_wp2
  go_ret
  exact⟨rfl,⟨_,_,_,tj w 0 (by omega)⟩,bf _ _ _⟩
 ·have e:held x=4096:=by unfold held;rw[if_neg (by omega),if_pos h]
  rw[e]
  have h0:¬ x<0:=by omega
  clear e
  go_enter Tryz.func129,Tryz.ntmps129
  go_wp2
  go_ret
  exact⟨rfl,⟨_,_,_,tj w 4096 (by omega)⟩,bf _ _ _⟩
 ·have e:held x=x.toNat:=by unfold held;rw[if_neg (by omega),if_neg (by omega)]
  rw[e]
  clear e
  obtain⟨t,rfl⟩:=Int.eq_ofNat_of_zero_le h.1
  rw[Int.toNat_natCast]
  have h1:¬ (t:Int)<0:=by omega
  have h2:¬ 4096<(t:Int):=by omega
  go_enter Tryz.func129,Tryz.ntmps129
  go_wp2
  go_ret
  exact⟨rfl,⟨_,_,_,tj w t (by omega)⟩,bf _ _ _⟩
theorem DZ:(Tryz.prog.info? 22).map (fun i=>(i.zero,i.size,i.bytes))=Z (Z (C 0),1,4):=by kernel_rfl
def yJ (w:World)(p n r:Nat)(vs:List Int)(e:Ending)(w':World):Prop:=
 ∃ q N cs,e=.returned (.tuple #[])/\In w' p (Z q) N 0 r cs vs/\n<N/\w.heap.size<=q/\ab w w' (fun b=>b=p)
def px (n r:Nat):Nat:=min (max (2*n) 1) r
theorem xK {og:Option Nat}{cs vs:List Int}(h:In w p og n f r cs vs)(hv:vs.length=n)(hr:n<r):
 Calls Tryz.prog 174 #[T (Z ⟨p,0,O⟩)] w (yJ w p n r vs):=by
 have hf:=h.few
 have hm:=h.most
 have eN:(if (r:Int)<(if IntKind.i64.wrap (2*(n:Int))<1 then 1 else IntKind.i64.wrap (2*(n:Int))) then (r:Int) else if IntKind.i64.wrap (2*(n:Int))<1 then 1 else IntKind.i64.wrap (2*(n:Int)))=(px n r:Int):=by
  rw[IntWalk.i64_in _ (by omega)];unfold px;split <;> split <;> omega
 have hN:n<px n r/\px n r<=r:=by unfold px;omega
 generalize px n r=N at eN hN
 obtain⟨i0,hi0,hz0,hz1,hz2⟩:=info_parts DZ
 have hmk:=fun W:World=>run_make (P:=Tryz.prog) W 27 22 i0 _ Tryz.underlying27 hi0 hz0 .i64 .i64 N N (by omega) (by omega) (by rw[hz2];omega) (by omega)
 rw[hz1] at hmk
 clear hi0 hz0 hz1 hz2
 have c0:=h.hd.c0
 have c3:=h.hd.c3
 have EN:=R eN
 have HV:=R hv
 clear eN hv
 have hd:=h.ed 1
 generalize og.map (fun g=>(⟨g,0,O⟩:Addr))=a at c0
 go_enter Tryz.func174,Tryz.ntmps174
 go_wp2
 go_still_tail 12,(by kernel_rfl)
 rw[EN.out]
 generalize (if IntKind.i64.wrap (2*(n:Int))<1 then (1:Int) else IntKind.i64.wrap (2*(n:Int)))=x9
 change wpList _ _ _ _ _ (w.drewN 1)
 have hg1:w.grownBy (w.drewN 1) O:=eB (db _ _) 1
 generalize w.drewN 1=w1 at hd hg1 ⊢
 clear c0 c3
 go_wp2_with fail
 rw[show madeCells #[C 0] N=eJ C (List.replicate N 0) from rE C 0 N]
 have hq:=Bk.made w1 22 (eJ C (List.replicate N 0))
 have hA:=bf w1 (.cells (eJ C (List.replicate N 0)) 22) O
 have hz:w1.heap.size<(w1.alloc (.cells (eJ C (List.replicate N 0)) 22)).heap.size:=by simp
 generalize w1.alloc (.cells (eJ C (List.replicate N 0)) 22)=w2 at hq hA hz ⊢
 have hwA:ab w1 w2 (fun _=>False):=.ay hA (by simp)
 have h2:=hd.kept hwA (by simp) (by simp)
 have hpl:=Bk.lt hd.hd
 have hgl:og≠Z w1.heap.size:=fun e=>by have:=hd.lt e;omega
 have hL:=CL h2 hq (by rw[List.length_replicate,HV.out];omega) (by rw[List.length_replicate];omega) (by omega) hgl
 rw[List.length_replicate] at hL
 refine hL.mono ?_
 clear hL
 rintro e w3 ⟨rfl,hq3,hw3⟩
 have hw13:ab w1 w3 (fun _=>False):=hwA.bx (.ay (S:=fun j=>j=w1.heap.size) hw3 (by simp)) (by rintro i rfl;right;omega)
 have h3:=hd.kept hw13 (by simp) (by simp)
 have h3':=h3.hd
 have d0:=h3'.c0
 have d1:=h3'.c1
 have z0:=Bk.free h3' 0
 have z1:=Bk.free h3' 1
 have hne:p≠w1.heap.size:=by omega
 have hw03:ab w w3 (fun _=>False):=ab.bx (.ay hg1 (by simp)) hw13 (by simp)
 have hs0:=hg1.size
 generalize w1.heap.size=q at *
 clear hq hA hz hwA h2 hpl hgl hw13 hw3 hg1 hd
 go_wp2
 go_end0
 refine⟨q,N,eK vs (List.replicate N 0) vs.length,rfl,?_,hN.1,hs0,?_⟩
 ·refine⟨?_,?_,?_,by rw[HV.out];omega,hN.2,hf,?_,?_,?_⟩
  ·exact Bk.put (Bk.put h3' 0 _) 1 _
  ·intro g' e
   obtain rfl:q=g':=by injection e
   exact(hq3.off (p:=⟨p,0,O⟩) hne.symm _).off (p:=⟨p,1,O⟩) hne.symm _
  ·rw[kC _ _ _ (Nat.le_refl _) (by rw[List.length_replicate,HV.out];omega),List.length_replicate]
  ·intro i hi
   have:i<N:=by have:=HV.out;omega
   rw[xn this,xB _ _ _ _ (Nat.le_refl _) hi]
  ·intro _ _;omega
  ·intro e;cases e
 ·exact((hw03.wide (S':=fun b=>b=p) (by simp)).put p 0 _ (.inl rfl)).put p 1 _ (.inl rfl)
def pr (w:World)(p:Nat)(og:Option Nat)(r:Nat)(vs:List Int)(v:Int)(e:Ending)(w':World):Prop:=
 ∃ og',e=.returned (.bool true)/\Rg w' p og' r (vs++[v])/\BW w p og w' og'
theorem xl {g:Nat}{cs vs:List Int}(h:In w p (Z g) n f r cs vs)(hv:vs.length<n)(v:Int):
 Calls Tryz.prog 131 #[T (Z ⟨p,0,O⟩),C v] w (pr w p (Z g) r vs v):=by
 have c0:=h.hd.c0
 have c2:=h.hd.c2
 have c3:=h.hd.c3
 simp only[Option.map_some] at c0
 have hf:=h.few
 have hm:=h.most
 have hfn:=h.some_ g rfl
 have hM:=h.more hv v
 generalize hc:vs.length=c at hv c2 hM
 have HC:=R hc
 clear hc
 have hne:=h.ne rfl
 have t1:decide ((r:Int)<=(c:Int))=V:=by simp;omega
 have t2:((c:Int)==(n:Int))=V:=by simp;omega
 have hpl:lW f c n<n:=ld (by omega)
 have b3:(lW f c n:Int)<n:=by omega
 have hl:=h.len
 have e1:w.cell? ⟨g,lW f c n,O⟩=Z (C (fK 0 cs (lW f c n))):=by rw[(h.row g rfl).cell,jz (z:=0) C (by rw[hl];exact hpl)]
 have z1:=(h.row g rfl).free (lW f c n)
 have z2:=Bk.free h.hd 2
 clear hl
 have k1:∀ (W:World) (u:Value) (i j:Nat),(W.setCell ⟨g,i,O⟩ u).cell? ⟨p,j,O⟩=W.cell? ⟨p,j,O⟩:=fun W u i j=>cj hne
 go_enter Tryz.func131,Tryz.ntmps131
 go_wp2
 go_quiet (fail)
 go_wp2
 go_quiet (fail)
 go_wp2
 go_region_held3 (fun w'=>w'.cell? ⟨p,0,O⟩=Z (Value.slice (Z ⟨g,0,O⟩) n n)/\w'.cell? ⟨p,2,O⟩=Z (Value.int .i64 c)) (go_keep)
  (first | (go_at_call 175;refine(kv (h.ed _).hd (by omega) (by omega) (by omega) c (by omega)).mono ?_;rintro e w' ⟨rfl,m,rfl⟩))
 go_wp2
 go_ret
 refine⟨Z g,rfl,⟨n,f,_,hM.ed _⟩,.inl rfl,?_⟩
 exact(((ab.refl w _).ed _).put g _ _ (.inl (.inr rfl))).put p _ _ (.inl (.inl rfl))
end
section
variable {w:World}{p:Nat}{a:Option Addr}{n f r:Nat}
theorem xk {og:Option Nat}{cs vs:List Int}(h:In w p og n f r cs vs)(hv:vs.length=n)(hr:n<r)(v:Int):
 Calls Tryz.prog 131 #[T (Z ⟨p,0,O⟩),C v] w (pr w p og r vs v):=by
 have c0:=h.hd.c0
 have c2:=h.hd.c2
 have c3:=h.hd.c3
 rw[hv] at c2
 have hf:=h.few
 have HV:=R hv
 clear hv
 have t1:decide ((r:Int)<=(n:Int))=V:=by simp;omega
 generalize og.map (fun g=>(⟨g,0,O⟩:Addr))=a at c0
 go_enter Tryz.func131,Tryz.ntmps131
 go_wp2
 go_quiet (fail)
 go_wp2
 go_quiet (fail)
 go_wp2_with fail
 refine(xK (h.ed _) HV.out hr).mono ?_
 rintro e w1 ⟨q,N,cs1,rfl,h1,hN,hq,hw1⟩
 have hq':w.heap.size<=q:=hq
 have hw1':ab w w1 (fun b=>b=p):=ab.bx ((ab.refl w _).ed _) hw1 (fun i e=>.inl e)
 clear c0 c2 c3 hw1 hq t1
 have c0:=h1.hd.c0
 have c2:=h1.hd.c2
 simp only[Option.map_some] at c0
 rw[HV.out] at c2
 have hm:=h1.most
 have hM:=h1.more (by rw[HV.out];exact hN) v
 rw[HV.out] at hM
 have hne:=h1.ne rfl
 have hpl:lW 0 n N<N:=ld (by omega)
 have b3:(lW 0 n N:Int)<N:=by omega
 have hl:=h1.len
 have e1:w1.cell? ⟨q,lW 0 n N,O⟩=Z (C (fK 0 cs1 (lW 0 n N))):=by rw[(h1.row q rfl).cell,jz (z:=0) C (by rw[hl];exact hpl)]
 have z1:=(h1.row q rfl).free (lW 0 n N)
 have z2:=Bk.free h1.hd 2
 clear hl
 have k1:∀ (W:World) (u:Value) (i j:Nat),(W.setCell ⟨q,i,O⟩ u).cell? ⟨p,j,O⟩=W.cell? ⟨p,j,O⟩:=fun W u i j=>cj hne
 go_wp2
 go_region_held3 (fun w'=>w'.cell? ⟨p,0,O⟩=Z (Value.slice (Z ⟨q,0,O⟩) N N)/\w'.cell? ⟨p,2,O⟩=Z (Value.int .i64 n)) (go_keep)
  (first | (go_at_call 175;refine(kv (w:=w1.drew) h1.hd (by omega) (by omega) (by omega) n (by omega)).mono ?_;rintro e w' ⟨rfl,m,rfl⟩))
 go_wp2
 go_ret
 refine⟨Z q,rfl,⟨N,0,_,hM.ed _⟩,.inr ⟨q,rfl,hq'⟩,?_⟩
 have hw2:ab w w1 (fun b=>b=p\/Z b=og):=hw1'.wide (fun i e _=>.inl e)
 exact((hw2.ed _).put q _ _ (.inr hq')).put p _ _ (.inl (.inl rfl))
theorem Cv {og:Option Nat}{vs:List Int}(h:Rg w p og r vs)(hv:vs.length<r)(v:Int):
 Calls Tryz.prog 131 #[T (Z ⟨p,0,O⟩),C v] w (pr w p og r vs v):=by
 obtain⟨n,f,cs,h⟩:=h
 by_cases e:vs.length=n
 ·exact xk h e (by omega) v
 ·have hfit:=h.fits
  cases og with
  | none=>obtain⟨rfl,rfl⟩:=h.none_ rfl;omega
  | some g=>exact xl h (by omega) v
theorem Af {og:Option Nat}{vs:List Int}(h:Rg w p og r vs):
 Calls Tryz.prog 149 #[T (Z ⟨p,0,O⟩)] w fun e w'=>e=.returned (I Q ((r-vs.length:Nat):Int))/\∃ m,w'=w.drewN m:=by
 have hl:=h.CI
 obtain⟨n,f,cs,h⟩:=h;exact xh h.hd hl.1 hl.2
end
end Go.Proofs.YtbgaaclplgghcaaGreatDoor.RWord
namespace Go.Proofs.YtbgaaclplgghcaaGreatDoor
open Go.ChangeShapes Go.WideShapes Go.ChangeAt Go.RowKit Go.Maps
theorem pm:Keyed Tryz.prog 22:=int_keyed Tryz.underlying22
theorem Fn {x:Int}(h0:0<=x)(h1:x<4294967296):(Lit.int .u32 x).wf=true:=by
 simp[Lit.wf,IntKind.min,IntKind.max,IntKind.bits,IntKind.signed];omega
theorem BO {x:Int}(h0:0<=x)(h1:x<4294967296):keyOf Tryz.prog 22 (.int .u32 x)=Z (.int .u32 x):=keyOf_int_mk Tryz.underlying22 (Fn h0 h1)
theorem wP (w:World):(zeroValue 4).run Tryz.prog w=.ok (.bool V) w:=by kernel_rfl
theorem tX (x:Int):WideAt.IsKeyLit (.int .u32 x):=by trivial
theorem qy {x y:Int}(h:y≠x):(Lit.int .u32 y)≠.int .u32 x:=fun e=>h (by injection e)
def sX (os:Int->Bool)(x:Int)(v:Bool):Int->Bool:=fun y=>if y=x then v else os y
theorem nF (os:Int->Bool)(x:Int)(v:Bool):sX os x v x=v:=by simp[sX]
theorem l8 {os:Int->Bool}{x y:Int}{v:Bool}(h:y≠x):sX os x v y=os y:=by simp[sX,h]
def gP (w:World)(b:Nat)(os:Int->Bool)(c:Nat):Prop:=
 ∃ D:DataW Unit,w.ownsMap Tryz.prog 22 (plainElem Tryz.prog 4) b c D/\size D=c/\
  ∀ x,0<=x->x<4294967296->Maps.has D (.int .u32 x)=os x/\D.atKey (.int .u32 x) (.lit (.bool V))=.lit (.bool (os x))
section
variable {w w':World}{b c:Nat}{os:Int->Bool}
theorem gP.lt (h:gP w b os c):b<w.heap.size:=by obtain⟨D,h,_⟩:=h;exact h.lt
theorem gP.fY {g:Nat}{t:TypeId}{cs:Array Value}(h:gP w b os c)(k:Bk w g t cs):b≠g:=by
 obtain⟨D,⟨es,clock,hb,_⟩,_⟩:=h
 intro e;subst e;unfold Bk at k;rw[hb] at k;cases k
theorem gP.within {S:Nat->Prop}(h:gP w b os c)(k:ab w w' S)(hn:¬ S b):gP w' b os c:=by
 have hl:=h.lt
 obtain⟨D,⟨es,clock,hb,r⟩,r'⟩:=h
 exact⟨D,⟨es,clock,(k.block b hl hn).trans hb,r⟩,r'⟩
theorem gP.drewN (h:gP w b os c)(n:Nat):gP (w.drewN n) b os c:=h
theorem gP.made (w:World):gP (w.alloc (.map #[] 0)) w.heap.size (fun _=>V) 0:=
 ⟨.map [],World.ownsMap_made w _ _ _,rfl,fun _ _ _=>⟨rfl,rfl⟩⟩
theorem gP.look (h:gP w b os c){x:Int}(h0:0<=x)(h1:x<4294967296):(Instr.lookup 176 (.map (Z b)) (I .u32 x) V).run Tryz.prog w=.ok (.bool (os x)) w:=by
 obtain⟨D,h,_,hk⟩:=h
 obtain⟨v,ps,hrun,hv⟩:=h.lookup pm Tryz.underlying176 (wP w) (plainElem_bool Tryz.underlying4 V) (BO h0 h1)
 rw[(hk x h0 h1).2] at hv
 rw[hrun]
 unfold plainElem at hv
 rw[Tryz.underlying4] at hv
 cases v <;> simp at hv
 rw[hv.1]
theorem gP.len (h:gP w b os c)(ty:TypeId):(Builtin.len_ #[176] ty #[.map (Z b)]).run Tryz.prog w=.ok (I Q c) w:=by
 obtain⟨D,h,hs,_⟩:=h
 rw[<-hs]
 exact h.len Tryz.underlying176 ty
theorem wS {D:DataW Unit}{os:Int->Bool}(hD:IsMap D)(hk:∀ x,0<=x->x<4294967296->Maps.has D (.int .u32 x)=os x/\D.atKey (.int .u32 x) (.lit (.bool V))=.lit (.bool (os x)))(k:Int):
 ∀ x,0<=x->x<4294967296->Maps.has (D.put (.int .u32 k) (.lit (.bool true))) (.int .u32 x)=sX os k true x/\(D.put (.int .u32 k) (.lit (.bool true))).atKey (.int .u32 x) (.lit (.bool V))=.lit (.bool (sX os k true x)):=by
 intro x h0 h1
 by_cases e:x=k
 ·subst e;rw[nF];exact⟨has_put_same hD (tX _) _,atKey_put_same hD (tX _) _ _⟩
 ·rw[l8 e,has_put_other (qy e),atKey_put_other (qy e)];exact hk x h0 h1
theorem gP.add (h:gP w b os c)(hc:c<1000000){k:Int}(h0:0<=k)(h1:k<4294967296)(hk:os k=V):
 ∃ w',(Instr.mapUpdate 176 (.map (Z b)) (I .u32 k) (.bool true)).run Tryz.prog w=.ok () w'/\gP w' b (sX os k true) (c+1)/\fD w w' b:=by
 obtain⟨D,h,hs,hh⟩:=h
 obtain⟨w',hrun,ho,hg⟩:=h.update pm Tryz.underlying176 (by unfold maxLen;omega) (BO h0 h1) (plainElem_bool (H:=Unit) Tryz.underlying4 true)
 refine⟨w',hrun,⟨_,ho,?_,wS h.isMap hh k⟩,hg⟩
 rw[size_put (h.tidy pm),(hh k h0 h1).1,hk,hs];simp
end
