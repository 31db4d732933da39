import Derived.Test.YthdgehcghklflaaGreatDoorTRuD
import Derived.Test.YthdgehcghklflaaGreatDoorTEyN
import Derived.Test.YthdgehcghklflaaGreatDoorTFlowJ
import Derived.Test.YthdgehcghklflaaGreatDoorTHold
import Derived.Test.YthdgehcghklflaaGreatDoorTFfS
import Derived.Test.YthdgehcghklflaaGreatDoorTPrgM
import Derived.Test.YthdgehcghklflaaGreatDoorTRuM
import Derived.Test.YthdgehcghklflaaGreatDoorTAsmM
set_option linter.unusedVariables false
set_option maxHeartbeats 4000000
set_option maxRecDepth 100000
open Go.Value renaming int->Q,slice->R,pointer->K
open Go.IntKind renaming i64->O
open Option renaming none->Z,some->V
open Bool renaming false->T
open Go.RowKit.Below renaming refl->J
open Nat renaming le_refl->H
namespace Go.Proofs.YthdgehcghklflaaGreatDoor
section
open Go.ChangeShapes Go.WideShapes Go.ChangeAt Go.RowKit
theorem q9 (N:Nat)(hN:N<=40000)(W:World):(Instr.makeSlice 26 (Q O N) (Q O N)).run Tryz.prog W=.ok (R (V ⟨W.heap.size,0,Z⟩) N N) (W.alloc (.cells (madeCells #[Q O 0] N) 3)):=by
 obtain⟨i0,hi0,hz0,hz1,hz2⟩:=info_parts jV
 have h:=run_make (P:=Tryz.prog) W 26 3 i0 _ Tryz.underlying26 hi0 hz0 .i64 .i64 N N (by omega) (by omega) (by rw[hz2];omega) (by omega)
 rw[hz1] at h
 simpa [Value.cells] using h
theorem oK (n:Nat):kQ (fun _=>0) n=List.replicate n 0:=by
 unfold kQ
 exact List.ext_getElem (by rw[List.length_map,List.length_range,List.length_replicate]) (fun i h1 h2=>by rw[List.getElem_map,List.getElem_replicate])
section
variable {w:World}{k:Lk}
def Ev (base:Nat)(k:Lk)(init r7:List Int)(Y:YP)(W:World):Prop:=Ey W Y k (xa k init r7)/\∀ i,Y.Own k.n i->base<=i
def Ew (base n:Nat)(d:Nat)(W:World):Prop:=oT W d n (List.replicate n 0)/\base<=d
def Ex (base:Nat)(k:Lk)(init r7:List Int)(U:RP)(W:World):Prop:=Ru W U k (Bt k init r7)/\∀ i,U.Own k.n i->base<=i
def Fj (base:Nat)(k:Lk)(init r7:List Int)(x y:Value)(W:World):Prop:=∃ (Y:YP) (d:Nat),x=K (V ⟨Y.y,0,Z⟩)/\y=R (V ⟨d,0,Z⟩) k.n k.n/\Ev base k init r7 Y W/\Ew base k.n d W/\¬ Y.Own k.n d
theorem Ev.below {base:Nat}{k:Lk}{init r7:List Int}{Y:YP}{W W':World}(h:Ev base k init r7 Y W)(hb:Below W.heap.size W W'):Ev base k init r7 Y W':=⟨h.1.below hb,h.2⟩
theorem Ew.below {base n d:Nat}{W W':World}(h:Ew base n d W)(hb:Below W.heap.size W W'):Ew base n d W':=⟨h.1.within (ab hb) (by simp),h.2⟩
theorem Ex.below {base:Nat}{k:Lk}{init r7:List Int}{U:RP}{W W':World}(h:Ex base k init r7 U W)(hb:Below W.heap.size W W'):Ex base k init r7 U W':=⟨h.1.below hb,h.2⟩
theorem Cq {base:Nat}{v:Value}{init r7:List Int}(hb:base<=w.heap.size)(hk:i5 k)(hv:Rv base w v ⟨k.l,k.lo,k.un⟩ k.zs init r7 k.each)(hi:init.length=jh k.zs)(hiu:ip init)(hr:r7.length=k.n)(hru:ip r7):
 Calls Tryz.prog 34 #[v,Q O k.n] w fun e w'=>∃ U:RP,e=.returned (K (V ⟨U.g,0,Z⟩))/\Ex base k init r7 U w'/\Below w.heap.size w w':=by
 have HNw:Hid (∀ W,Below w.heap.size w W->Calls Tryz.prog 20 #[v,Q O k.n] W (zJ W base k init r7)):=Lib.hid (fun W hW=>Dn (Nat.le_trans hb hW.size) hk (hv.below hW) hi hiu hr hru)
 have hn64:=hk.n64
 obtain⟨sl,aS,cS,aI,cI,aR,cR,rfl,ho,-⟩:=hv
 simp only at ho HNw ⊢
 obtain⟨aL,cL,rfl,_⟩:=aX ho
 have hbz:Below w.heap.size w (w.alloc (.cells #[R aL k.l.length cL,Q O k.lo,Q O k.un,R aS k.zs.length cS,R aI init.length cI,Q O (k.each:Int),R aR r7.length cR] 37)):=(J _ _).alloc (H _) _
 have hB:=Bk.made w 37 #[R aL k.l.length cL,Q O k.lo,Q O k.un,R aS k.zs.length cS,R aI init.length cI,Q O (k.each:Int),R aR r7.length cR]
 clear ho hk hi hiu hr hru
 go_enter Tryz.func34,Tryz.ntmps34
 go_upto_region 1 with fail
 refine lu (fun W=>Below w.heap.size w W/\Bk W w.heap.size 37 #[R aL k.l.length cL,Q O k.lo,Q O k.un,R aS k.zs.length cS,R aI init.length cI,Q O (k.each:Int),R aR r7.length cR]) (fun vs=>{ tmps:=#[.agg #[R aL k.l.length cL,Q O k.lo,Q O k.un,R aS k.zs.length cS,R aI init.length cI,Q O (k.each:Int),R aR r7.length cR],Q O (k.n:Int),K (V ⟨w.heap.size,0,Z⟩),undef,vs 7,vs 0,vs 1,vs 2,vs 3,vs 4,vs 5,vs 6],defers:=[] }) (nB [(2,fun v W=>∃ Y:YP,v=K (V ⟨Y.y,0,Z⟩)/\Ev base k init r7 Y W),(4,fun v W=>∃ d,v=R (V ⟨d,0,Z⟩) k.n k.n/\Ew base k.n d W),(5,fun v W=>∃ (Y:YP) (d:Nat),v=.agg #[K (V ⟨Y.y,0,Z⟩),R (V ⟨d,0,Z⟩) k.n k.n,R Z 0 0,Q O 0]/\Ev base k init r7 Y W/\Ew base k.n d W/\¬ Y.Own k.n d),(6,fun v W=>∃ U:RP,v=K (V ⟨U.g,0,Z⟩)/\Ex base k init r7 U W),(7,fun v W=>∃ U:RP,v=K (V ⟨U.g,0,Z⟩)/\Ex base k init r7 U W)] [.agg #[R aL k.l.length cL,Q O k.lo,Q O k.un,R aS k.zs.length cS,R aI init.length cI,Q O (k.each:Int),R aR r7.length cR],Q O (k.n:Int),undef,Q O (k.n:Int),undef,undef,undef,undef]) 2 4 (Fj base k init r7) ?ghm ?ghr ?ghab ?ghal ?ghbl ?ghlit ?gh0 ?ghW ?ghF ?ghP ?gops ?gdone
 case ghm=>kernel_rfl
 case ghr=>kernel_rfl
 case ghab=>decide
 case ghal=>decide
 case ghbl=>decide
 case ghlit=>intro vs;rfl
 case gh0=>exact⟨hbz,hB⟩
 case ghW=>exact fun W W2 h hb=>⟨h.1.trans (hb.mono h.1.size),Bk.within h.2 (ab hb) (by simp)⟩
 case ghF=>exact ep (by
  intro p0 hp
  simp only[List.mem_cons,List.not_mem_nil,or_false] at hp
  rcases hp with rfl|rfl|rfl|rfl|rfl
  ·exact fun v W W2 ⟨Y,h1,h2⟩ hb=>⟨Y,h1,h2.below hb⟩
  ·exact fun v W W2 ⟨d,h1,h2⟩ hb=>⟨d,h1,h2.below hb⟩
  ·exact fun v W W2 ⟨Y,d,h1,h2,h3,h4⟩ hb=>⟨Y,d,h1,h2.below hb,h3.below hb,h4⟩
  ·exact fun v W W2 ⟨U,h1,h2⟩ hb=>⟨U,h1,h2.below hb⟩
  ·exact fun v W W2 ⟨U,h1,h2⟩ hb=>⟨U,h1,h2.below hb⟩)
 case ghP=>exact fun x y W W2 ⟨Y,d,h1,h2,h3,h4,h5⟩ hb=>⟨Y,d,h1,h2,h3.below hb,h4.below hb,h5⟩
 case gops=>
  refine⟨?_,?_,?_,?_,?_,?_,?_,?_,trivial⟩
  ·intro vs W hW hd hp
   refine aa rfl ?_
   have hq:=hW.2
   obtain⟨y0,y1,y2,y3,y4,y5,y6⟩:=hq.pM
   clear hq hd hp
   go_simp
   exact⟨⟨rfl,fun e=>absurd e (by decide),fun e=>absurd e (by decide)⟩,J _ _⟩
  ·intro vs W hW hd hp
   refine aa rfl ?_
   clear hd hp
   go_simp
   exact⟨⟨rfl,fun e=>absurd e (by decide),fun e=>absurd e (by decide)⟩,J _ _⟩
  ·intro vs W hW hd hp
   refine aa rfl ?_
   have e0:vs 0=.agg #[R aL k.l.length cL,Q O k.lo,Q O k.un,R aS k.zs.length cS,R aI init.length cI,Q O (k.each:Int),R aR r7.length cR]:=hd 0 (by decide)
   have e1:vs 1=Q O (k.n:Int):=hd 1 (by decide)
   have hc:=HNw.out W hW.1
   have hsz:=hW.1.size
   clear hd hp
   go_simp
   refine hc.mono ?_
   rintro e W2 ⟨Y,rfl,h2,h3,h4⟩
   refine⟨_,rfl,⟨⟨Y,rfl,h2,fun i hi=>(h4 i hi).1⟩,fun _ y hy=>?_,fun e=>absurd e (by decide)⟩,h3⟩
   obtain⟨d,rfl,hd4⟩:∃ d,y=R (V ⟨d,0,Z⟩) k.n k.n/\Ew base k.n d W:=hy
   refine⟨Y,d,rfl,rfl,⟨h2,fun i hi=>(h4 i hi).1⟩,hd4.below h3,fun hi=>?_⟩
   rcases(h4 d hi).2 with e | e
   ·obtain⟨c,hc2⟩:=aQ h2.code e
    obtain⟨c2,hc3,_⟩:=(hd4.below h3).1.bk
    exact Bk.au hc2 hc3 (by decide) rfl
   ·have:=hd4.1.lt;omega
  ·intro vs W hW hd hp
   refine aa rfl ?_
   clear hd hp
   go_simp
   exact⟨⟨rfl,fun e=>absurd e (by decide),fun e=>absurd e (by decide)⟩,J _ _⟩
  ·intro vs W hW hd hp
   refine aa rfl ?_
   have e3:vs 3=Q O (k.n:Int):=hd 3 (by decide)
   have hmk:=q9 k.n (by omega) W
   have hA:Below W.heap.size W (W.alloc (.cells (madeCells #[Q O 0] k.n) 3)):=(J _ _).alloc (H _) _
   have hI:=oT.made W k.n (by simp only[maxLen];omega)
   have hsz:=hW.1.size
   clear hd hp
   go_simp
   try simp only[hmk]
   refine⟨⟨⟨W.heap.size,rfl,hI,Nat.le_trans hb hsz⟩,fun e=>absurd e (by decide),fun _ x hx=>?_⟩,hA⟩
   obtain⟨Y,rfl,hY⟩:∃ Y:YP,x=K (V ⟨Y.y,0,Z⟩)/\Ev base k init r7 Y W:=hx
   exact⟨Y,W.heap.size,rfl,rfl,hY.below hA,⟨hI,Nat.le_trans hb hsz⟩,fun hi=>by have:=hY.1.lt hi;omega⟩
  ·intro vs W hW hd hp
   refine aa rfl ?_
   obtain⟨Y,d,e2,e4,h2,h4,h5⟩:=hp (by decide) (by decide)
   clear hd
   go_simp
   exact⟨⟨⟨Y,d,rfl,h2,h4,h5⟩,fun e=>absurd e (by decide),fun e=>absurd e (by decide)⟩,J _ _⟩
  ·intro vs W hW hd hp
   refine aa rfl ?_
   obtain⟨Y,d,e5,h2,h4,h5⟩:=hd 5 (by decide)
   have hA:Below W.heap.size W (W.alloc (.cells #[K (V ⟨Y.y,0,Z⟩),R (V ⟨d,0,Z⟩) k.n k.n,R Z 0 0,Q O 0] 86)):=(J _ _).alloc (H _) _
   have hM:=Bk.made W 86 #[K (V ⟨Y.y,0,Z⟩),R (V ⟨d,0,Z⟩) k.n k.n,R Z 0 0,Q O 0]
   have hsz:=hW.1.size
   clear hd hp
   go_simp
   refine⟨⟨⟨⟨W.heap.size,Y,d,R Z 0 0⟩,rfl,⟨hM,?_,World.ownsRow_nil _ _ _ _,h2.1.below hA,h5⟩,fun i hi=>?_⟩,fun e=>absurd e (by decide),fun e=>absurd e (by decide)⟩,hA⟩
   ·show oT _ d k.n (kQ (fun _=>0) k.n)
    rw[oK]
    exact(h4.below hA).1
   ·rcases hi with e | e | e | e
    ·rw[e];exact Nat.le_trans hb hsz
    ·rw[e];exact h4.2
    ·cases e
    ·exact h2.2 i e
  ·intro vs W hW hd hp
   refine aa rfl ?_
   obtain⟨U,e6,h6⟩:=hd 6 (by decide)
   clear hd hp
   go_simp
   exact⟨⟨⟨U,rfl,h6⟩,fun e=>absurd e (by decide),fun e=>absurd e (by decide)⟩,J _ _⟩
 case gdone=>
  intro vs W hW hf hp
  obtain⟨U,e7,h7⟩:=hf 7 (by decide)
  simp only[e7]
  have hbl:=hW.1
  clear hf hp hW
  go_wp2
  go_ret
  exact⟨U,rfl,h7,hbl⟩
end
def BP (r:Rn):Nat->Bool
 | 0=>T
 | j+1=>BP r j || (r.act j != 0)
def By (k:Lk)(r:Rn)(j:Nat):Rn:=(List.range j).foldl (bP k) r
def Ek (k:Lk):Nat->Rn->Bool×Rn
 | 0,r=>(T,r)
 | f+1,r=>if BP (By k r k.n) k.n=T then (true,By k r k.n) else Ek k f (By k r k.n)
attribute [local irreducible] Ek By
end
section
def cP (x:kW):Nat->Bool
 | 0=>T
 | j+1=>cP x j || ((x.r.act j != 0) || decide (0<x.left j))
theorem mp {x x':kW}:∀ {j:Nat},(∀ t,t<j->x'.r.act t=x.r.act t/\x'.left t=x.left t)->cP x' j=cP x j
 | 0,_=>rfl
 | j+1,h=>by
  unfold cP
  rw[mp (fun t ht=>h t (by omega)),(h j (by omega)).1,(h j (by omega)).2]
theorem gQ {x:kW}:∀ {n:Nat},cP x n=T↔fe n x
 | 0=>⟨fun _ t ht=>by omega,fun _=>rfl⟩
 | n+1=>by
  unfold cP
  rw[Bool.or_eq_false_iff,Bool.or_eq_false_iff,gQ]
  constructor
  ·rintro⟨h1,h2,h3⟩ t ht
   by_cases e:t=n
   ·subst e
    exact⟨by simpa using h2,by simpa using h3⟩
   ·exact h1 t (by omega)
  ·intro h
   exact⟨fun t ht=>h t (by omega),by simpa using (h n (by omega)).1,by simpa using (h n (by omega)).2⟩
theorem qm {k:Lk}{x:kW}{t s:Nat}(h:s≠t):(bd k x t).r.act s=x.r.act s/\(bd k x t).left s=x.left s:=by
 unfold bd
 split
 ·exact⟨jT (by simp only;omega),aB h⟩
 ·exact⟨qN h,rfl⟩
def aZ (k:Lk)(x:kW)(j:Nat):kW:=(List.range j).foldl (bd k) x
theorem ol (k:Lk)(x:kW):aZ k x 0=x:=rfl
theorem bH (k:Lk)(x:kW)(j:Nat):aZ k x (j+1)=bd k (aZ k x j) j:=by
 unfold aZ
 rw[List.range_succ,List.foldl_append];rfl
theorem gP (k:Lk)(x:kW)(j:Nat):cP (aZ k x (j+1)) (j+1)=(cP (aZ k x j) j || (((aZ k x (j+1)).r.act j != 0) || decide (0<(aZ k x (j+1)).left j))):=by
 show (cP (aZ k x (j+1)) j || _)=_
 rw[mp (fun t ht=>?_)]
 rw[bH]
 exact qm (by omega)
def gR (k:Lk):Nat->kW->kW
 | 0,x=>x
 | f+1,x=>if cP (aZ k x k.n) k.n=T\/(aZ k x k.n).r.bad=true then aZ k x k.n else gR k f (aZ k x k.n)
theorem iD (k:Lk)(f:Nat)(x:kW):gR k (f+1) x=if cP (aZ k x k.n) k.n=T\/(aZ k x k.n).r.bad=true then aZ k x k.n else gR k f (aZ k x k.n):=rfl
theorem vd (k:Lk)(x:kW):gR k 0 x=x:=rfl
theorem uc {k:Lk}:∀ (i F:Nat) (x:kW),i<F->(∀ i',(cM k.n (bd k) i' x).r.bad=T)->fe k.n (cM k.n (bd k) (i+1) x)->(∀ i',i'<i->¬ fe k.n (cM k.n (bd k) (i'+1) x))->gR k F x=cM k.n (bd k) (i+1) x
 | i,0,x,h,_,_,_=>absurd h (Nat.not_lt_zero _)
 | 0,F+1,x,h,_,h1,h2=>by
  have e:cP (aZ k x k.n) k.n=T:=gQ.2 h1
  rw[iD,if_pos (.inl e)]
  rfl
 | i+1,F+1,x,h,hb,h1,h2=>by
  have e:¬ (cP (aZ k x k.n) k.n=T\/(aZ k x k.n).r.bad=true):=by
   rintro(e | e)
   ·exact h2 0 (Nat.succ_pos _) (gQ.1 e)
   ·have:=hb 1
    rw[show (aZ k x k.n).r.bad=(cM k.n (bd k) 1 x).r.bad from rfl,this] at e
    cases e
  rw[iD,if_neg e]
  exact uc i F (aZ k x k.n) (by omega) (fun i'=>hb (i'+1)) h1 (fun i' hi'=>h2 (i'+1) (by omega))
theorem ve {k:Lk}{x:kW}{i F:Nat}(hF:i<=F)(h0:0<F)(hb:∀ i',(cM k.n (bd k) i' x).r.bad=T)(h1:fe k.n (cM k.n (bd k) i x))(h2:∀ i',i'<i->¬ fe k.n (cM k.n (bd k) i' x)):gR k F x=cM k.n (bd k) i x:=by
 match i,F,hF,h0 with
 | 0,F+1,_,_=>
  have e1:aZ k x k.n=x:=np h1
  have e:cP (aZ k x k.n) k.n=T:=gQ.2 (by rw[e1];exact h1)
  rw[iD,if_pos (.inl e),e1]
  rfl
 | i+1,F,hF,_=>exact uc i F x (by omega) hb h1 (fun i' hi'=>h2 (i'+1) (by omega))
section
variable {k:Lk}(S:nk k)
theorem lw (hbad:∀ r,S.I r->r.bad=T)(hc:S.c<=99)(r:Rn)(h:S.I r)(hr:∀ t,r.act t=0)(calls:Nat):
 (gR k (100*(k.n+1)*(calls+1)) ⟨r,fun _=>calls,0⟩).got=k.n*calls/\S.I (gR k (100*(k.n+1)*(calls+1)) ⟨r,fun _=>calls,0⟩).r:=by
 obtain⟨i,h1,h2,h3,h4,h5⟩:=nr S r h hr calls
 have keep1:∀ r t,t<k.n->S.fin.I r->S.fin.I (gh k r ⟨1,t,T⟩):=fun r t _ h=>S.keep r _ h
 let P:=ub S.fin S.c keep1 (fun r t ht h ha=>kF S r t ht h ha) (fun r t h ht he=>S.idle r t h ht he)
 have hb:∀ i',(cM k.n (bd k) i' ⟨r,fun _=>calls,0⟩).r.bad=T:=fun i'=>hbad _ (i7 P i' ⟨r,fun _=>calls,0⟩ h)
 have e:=ve (F:=100*(k.n+1)*(calls+1)) (Nat.le_trans h1 (oV S.c k.n calls hc)) (Nat.mul_pos (Nat.mul_pos (by omega) (by omega)) (by omega)) hb h2 h3
 rw[e]
 exact⟨h4,h5⟩
end
theorem xv {k:Lk}(h:i5 k)(r:Rn)(t:Nat):(bP k r t).l.length<=r.l.length+258:=zj h _ _
theorem iB {k:Lk}(h:i5 k)(x:kW)(t:Nat):(bd k x t).r.l.length<=x.r.l.length+258:=by
 unfold bd
 split
 ·exact zj h _ _
 ·exact xv h _ _
theorem iC {k:Lk}(x:kW)(t:Nat):(bd k x t).got<=x.got+1:=by
 unfold bd
 split
 ·simp
 ·simp only;split <;> omega
section
variable {n:Nat}{st:Int}
theorem xC {l:List En}(h1:1<=n)(hn:n<=64)(h:dD (n:Int) l):fD n l=l.length:=by
 unfold fD
 rw[if_pos ⟨by omega,by omega⟩]
 exact mo h
theorem xz (h0:0<=st)(h1:st<4294967296):xd n st 0 (Bt (lR n) [st,st] (rS n)):=Cd n st h0 h1 (rS n) (Ce n)
theorem sf (g1:1<=n)(hn:n<=64)(h0:0<=st)(h1:st<4294967296)(calls:Nat):
 (gR (lR n) (100*(n+1)*(calls+1)) ⟨Bt (lR n) [st,st] (rS n),fun _=>calls,0⟩).got=n*calls/\
 (gR (lR n) (100*(n+1)*(calls+1)) ⟨Bt (lR n) [st,st] (rS n),fun _=>calls,0⟩).r.bad=T/\
 fD n (gR (lR n) (100*(n+1)*(calls+1)) ⟨Bt (lR n) [st,st] (rS n),fun _=>calls,0⟩).r.l=(gR (lR n) (100*(n+1)*(calls+1)) ⟨Bt (lR n) [st,st] (rS n),fun _=>calls,0⟩).r.l.length:=by
 obtain⟨e,s,h⟩:=lw (E3 n st hn) (fun r ⟨s,h⟩=>h.bad) (by show 4<=99;omega) (Bt (lR n) [st,st] (rS n)) ⟨0,xz h0 h1⟩ (fun t=>rfl) calls
 exact⟨e,h.bad,xC g1 hn h.tr⟩
end
end
section
open Go.ChangeShapes Go.WideShapes Go.ChangeAt Go.RowKit
theorem Ru.uv {W:World}{U:RP}{k:Lk}{r:Rn}{b:Nat}{cs:Array Value}(h:Ru W U k r)(hb:Bk W b 37 cs):¬ U.Own k.n b:=by
 rintro(e | e | e | e)
 ·exact Bk.au h.ptr hb (by decide) e.symm
 ·obtain⟨BT,hb2,_⟩:=h.acts.bk
  exact Bk.au hb2 hb (by decide) e.symm
 ·obtain⟨BT,hb2⟩:=aQ h.iZ e
  exact Bk.au hb2 hb (by decide) rfl
 ·exact h.ey.gW hb (by decide) (by decide) (by decide) (by decide) (by decide) (by decide) (by decide) (by decide) e
def zB (base:Nat)(w:World)(k:Lk)(g bx:Nat)(cs:Array Value)(r:Rn)(W:World):Prop:=∃ U:RP,(Ru W U k r/\(∀ i,U.Own k.n i->base<=i)/\U.g=g)/\af w W (fun i=>base<=i)/\Bk W bx 37 cs
section
variable {base:Nat}{w W W':World}{k:Lk}{g bx:Nat}{cs:Array Value}{r r':Rn}{U U':RP}
theorem zB.next (h:(Ru W U k r/\(∀ i,U.Own k.n i->base<=i)/\U.g=g)/\af w W (fun i=>base<=i)/\Bk W bx 37 cs)(hb:base<=w.heap.size)(h':Ru W' U' k r')(hs:bi W k.n U W' U'):zB base w k g bx cs r' W':=by
 obtain⟨⟨h1,h2,h3⟩,h4,h5⟩:=h
 refine⟨U',⟨h',fun i hi=>?_,hs.2.2.1.trans h3⟩,h4.aJ (hs.1.wide (S':=fun i=>base<=i) (fun i h _=>h2 i h)) (fun i h=>.inl h),h5.within hs.1 (h1.uv h5)⟩
 rcases hs.2.1 i hi with e | e
 ·exact h2 i e
 ·exact Nat.le_trans hb (Nat.le_trans h4.size e)
theorem zB.below (h:zB base w k g bx cs r W)(hb:base<=w.heap.size)(hW:Below W.heap.size W W'):zB base w k g bx cs r W':=by
 obtain⟨U,h⟩:=h
 exact zB.next h hb (h.1.1.below hW) ((bi.refl W k.n U).grown hW)
theorem zB.c (h:zB base w k g bx cs r W):W.cell? ⟨g,3,Z⟩=V (Q O (C8 r.bad))/\∃ d,W.cell? ⟨g,1,Z⟩=V (R (V ⟨d,0,Z⟩) k.n k.n)/\∀ t,t<k.n->W.cell? ⟨d,t,Z⟩=V (Q O (r.act t)):=by
 obtain⟨U,⟨h1,h2,rfl⟩,h3⟩:=h
 exact⟨h1.c3,U.d,h1.c1,fun t ht=>h1.act ht⟩
theorem zB.box (h:zB base w k g bx cs r W):Bk W bx 37 cs:=by
 obtain⟨U,h⟩:=h
 exact h.2.2
theorem zB.win (h:zB base w k g bx cs r W):af w W (fun i=>base<=i):=by
 obtain⟨U,h⟩:=h
 exact h.2.1
theorem zB.iZ (h:zB base w k g bx cs r W)(hl:r.l.length<=100000000):∃ al capl,W.cell? ⟨g,2,Z⟩=V (R al r.l.length capl)/\∀ W2,Below W.heap.size W W2->Calls Tryz.prog 36 #[Q O k.n,R al r.l.length capl] W2 fun e w'=>e=.returned (Q O (fD k.n r.l:Nat))/\Below W2.heap.size W2 w':=by
 obtain⟨U,⟨h1,h2,rfl⟩,h3⟩:=h
 obtain⟨al,capl,elv,hm1,hm2,hS⟩:=h1.iZ.is
 have c2:=h1.c2
 rw[elv] at c2
 exact⟨al,capl,c2,fun W2 hW=>Cp k.n r.l al capl W2 (hS.below hW) hm1 hm2 (by omega)⟩
end
def BS (f:Nat->Nat)(n:Nat):List Int:=kQ (fun t=>(f t:Int)) n
theorem vJ {f f':Nat->Nat}{n:Nat}(h:∀ t,t<n->f t=f' t):BS f n=BS f' n:=by
 unfold BS kQ
 apply List.map_congr_left
 intro t ht
 rw[h t (List.mem_range.1 ht)]
theorem AJ (f:Nat->Nat){n t:Nat}(h:t<n)(v:Nat):(BS f n).set t (v:Int)=BS (bp f t v) n:=by
 unfold BS
 rw[rP _ h]
 congr 1
 funext s
 unfold bp
 by_cases e:s=t
 ·simp[e]
 ·simp[e]
def qK (base:Nat)(w:World)(k:Lk)(g bx:Nat)(cs:Array Value)(lb:Nat)(x:kW)(W:World):Prop:=
 ∃ U:RP,((Ru W U k x.r/\(∀ i,U.Own k.n i->base<=i)/\U.g=g)/\af w W (fun i=>base<=i)/\Bk W bx 37 cs)/\oT W lb k.n (BS x.left k.n)/\¬ U.Own k.n lb/\base<=lb
section
variable {base:Nat}{w W W':World}{k:Lk}{g bx lb:Nat}{cs:Array Value}{x:kW}
theorem qK.BF (h:qK base w k g bx cs lb x W):zB base w k g bx cs x.r W:=by
 obtain⟨U,h1,_⟩:=h
 exact⟨U,h1⟩
theorem pQ (h:qK base w k g bx cs lb x W)(hb:base<=w.heap.size)(kd t' L:Int)(late:Bool)(hL:decide (L≠0)=late)(hl:x.r.l.length+258<100000000)(hs:nj k):
 Calls Tryz.prog 35 #[K (V ⟨g,0,Z⟩),.agg #[Q O kd,Q O t',Q O L]] W fun e w'=>e=.returned (.tuple #[])/\qK base w k g bx cs lb { x with r:=gh k x.r ⟨kd,t',late⟩ } w':=by
 obtain⟨U,h,hI,hn,hge⟩:=h
 have hc:=Fc h.1.1 kd t' L late hL hl hs
 rw[h.1.2.2] at hc
 refine hc.mono ?_
 rintro e w' ⟨h1,U2,h3,h4⟩
 obtain⟨⟨k1,k2,k3⟩,k4,k5⟩:=h
 refine⟨h1,U2,⟨⟨h3,fun i hi=>?_,h4.2.2.1.trans k3⟩,k4.aJ (h4.1.wide (S':=fun i=>base<=i) (fun i h _=>k2 i h)) (fun i h=>.inl h),k5.within h4.1 (k1.uv k5)⟩,hI.within h4.1 hn,fun hi=>?_,hge⟩
 ·rcases h4.2.1 i hi with e | e
  ·exact k2 i e
  ·exact Nat.le_trans hb (Nat.le_trans k4.size e)
 ·rcases h4.2.1 lb hi with e | e
  ·exact hn e
  ·have:=hI.lt;omega
theorem qK.below (h:qK base w k g bx cs lb x W)(hW:Below W.heap.size W W'):qK base w k g bx cs lb x W':=by
 obtain⟨U,⟨⟨k1,k2,k3⟩,k4,k5⟩,hI,hn,hge⟩:=h
 exact⟨U,⟨⟨k1.below hW,k2,k3⟩,k4.aJ ((ab hW).wide (S':=fun i=>base<=i) (by simp)) (fun i h=>.inl h),(hW.block _ (Bk.lt k5)).trans k5⟩,hI.within (ab hW) (by simp),hn,hge⟩
theorem qK.put (h:qK base w k g bx cs lb x W){t:Nat}(ht:t<k.n)(v:Nat):qK base w k g bx cs lb { x with left:=bp x.left t v } (W.setCell ⟨lb,t,Z⟩ (Q O v)):=by
 obtain⟨U,⟨⟨k1,k2,k3⟩,k4,k5⟩,hI,hn,hge⟩:=h
 have hw:af W (W.setCell ⟨lb,t,Z⟩ (Q O v)) (fun b=>b=lb):=(af.refl W (fun b=>b=lb)).put lb t _ (.inl rfl)
 have h2:=hI.put t v
 rw[AJ _ ht] at h2
 refine⟨U,⟨⟨k1.kept hw (fun i hi e=>hn (e ▸ hi)),k2,k3⟩,k4.aJ (hw.wide (S':=fun i=>base<=i) (by rintro i rfl _;exact hge)) (fun i h=>.inl h),k5.within hw (fun e=>?_)⟩,h2,hn,hge⟩
 obtain⟨c,hc,_⟩:=hI.bk
 exact Bk.au k5 hc (by decide) e
theorem qK.row (h:qK base w k g bx cs lb x W){t:Nat}(ht:t<k.n):W.cell? ⟨lb,t,Z⟩=V (Q O (x.left t)):=by
 obtain⟨U,_,hI,_⟩:=h
 have:=hI.at_ (i:=t) (by unfold BS;rw[jM];exact ht)
 unfold BS at this
 rwa [uK _ ht] at this
theorem qK.free (h:qK base w k g bx cs lb x W):∀ i,W.frozen? ⟨lb,i,Z⟩=T:=by
 obtain⟨U,_,hI,_⟩:=h
 obtain⟨c,hc,_⟩:=hI.bk
 exact Bk.free hc
theorem qK.congr (h:qK base w k g bx cs lb x W){x':kW}(hr:x'.r=x.r)(hl:∀ t,t<k.n->x'.left t=x.left t):qK base w k g bx cs lb x' W:=by
 obtain⟨U,h1,h2,h3⟩:=h
 refine⟨U,by rw[hr];exact h1,?_,h3⟩
 rw[vJ hl]
 exact h2
theorem xF (h:zB base w k g bx cs x.r W)(hb:base<=w.heap.size)(hn:k.n<=maxLen)(hz:∀ t,x.left t=0):qK base w k g bx cs W.heap.size x (W.alloc (.cells (madeCells #[Q O 0] k.n) 3)):=by
 obtain⟨U,⟨k1,k2,k3⟩,k4,k5⟩:=h
 have hW:Below W.heap.size W (W.alloc (.cells (madeCells #[Q O 0] k.n) 3)):=(J _ _).alloc (H _) _
 have hI:=oT.made W k.n hn
 refine⟨U,⟨⟨k1.below hW,k2,k3⟩,k4.aJ ((ab hW).wide (S':=fun i=>base<=i) (by simp)) (fun i h=>.inl h),(hW.block _ (Bk.lt k5)).trans k5⟩,?_,fun hi=>by have:=k1.lt hi;omega,Nat.le_trans hb k4.size⟩
 have e:BS x.left k.n=List.replicate k.n 0:=by
  unfold BS
  rw[<-oK]
  congr 1
  funext t
  rw[hz t];rfl
 rw[e]
 exact hI
end
theorem gL {k:Lk}{x:kW}{t:Nat}(h1:x.r.act t=0)(h2:0<x.left t):bd k x t={ x with r:=gh k x.r ⟨1,t,T⟩,left:=bp x.left t (x.left t-1) }:=by
 unfold bd
 rw[if_pos ⟨h1,h2⟩]
theorem gJ {k:Lk}(x:kW)(t s:Nat):(bd k x t).left s<=x.left s:=by
 unfold bd
 split
 ·show bp x.left t (x.left t-1) s<=x.left s
  unfold bp
  by_cases e:s=t
  ·subst e;simp
  ·simp[e]
 ·exact H _
theorem gK {k:Lk}{x:kW}{t:Nat}(h1:x.r.act t=2):bd k x t={ x with r:=gh k x.r ⟨2,t,T⟩,got:=x.got+1 }:=by
 unfold bd bP
 rw[if_neg (by omega),if_pos h1,if_pos h1]
theorem dJ {k:Lk}{x:kW}{t:Nat}(h1:¬ (x.r.act t=0/\0<x.left t))(h2:x.r.act t≠2):bd k x t={ x with r:=gh k x.r ⟨3,t,T⟩ }:=by
 unfold bd bP
 rw[if_neg h1,if_neg h2,if_neg h2]
 rfl
end
