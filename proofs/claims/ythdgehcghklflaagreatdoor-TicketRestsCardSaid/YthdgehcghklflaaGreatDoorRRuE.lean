import Derived.Test.YthdgehcghklflaaGreatDoorRRuD
import Derived.Test.YthdgehcghklflaaGreatDoorREyN
import Derived.Test.YthdgehcghklflaaGreatDoorRFlowK
import Derived.Test.YthdgehcghklflaaGreatDoorRWdA
import Derived.Test.YthdgehcghklflaaGreatDoorRFfS
import Derived.Test.YthdgehcghklflaaGreatDoorRPrgM
import Derived.Test.YthdgehcghklflaaGreatDoorRAsmM
set_option linter.unusedVariables false
set_option maxHeartbeats 4000000
set_option maxRecDepth 100000
open Go.Value renaming int->Q,slice->J,pointer->H
open Go.IntKind renaming i64->O
open Option renaming none->Z,some->V
open Bool renaming false->R,true->K
open Go.Lib renaming hid->G
open Go.RowKit.Below renaming refl->E
namespace Go.Proofs.YthdgehcghklflaaGreatDoor
section
open Go.ChangeShapes Go.WideShapes Go.ChangeAt Go.RowKit
theorem yx (N:Nat)(hN:N<=40000)(W:World):(Instr.makeSlice 26 (Q O N) (Q O N)).run Tryz.prog W=.ok (J (V ⟨W.heap.size,0,Z⟩) N N) (W.alloc (.cells (madeCells #[Q O 0] N) 3)):=by
 obtain⟨i0,hi0,hz0,hz1,hz2⟩:=info_parts jT
 have h:=run_make (P:=Tryz.prog) W 26 3 i0 _ Tryz.underlying26 hi0 hz0 .i64 .i64 N N (by omega) (by omega) (by rw[hz2];omega) (by omega)
 rw[hz1] at h
 simpa [Value.cells] using h
theorem xa (n:Nat):mr (fun _=>0) n=List.replicate n 0:=by
 unfold mr
 exact List.ext_getElem (by rw[List.length_map,List.length_range,List.length_replicate]) (fun i h1 h2=>by rw[List.getElem_map,List.getElem_replicate])
section
variable {w:World}{k:Lk}
def EC (base:Nat)(k:Lk)(init r7:List Int)(Y:YP)(W:World):Prop:=Ey W Y k (xp k init r7)/\∀ i,Y.Own k.n i->base<=i
def ED (base n:Nat)(d:Nat)(W:World):Prop:=pQ W d n (List.replicate n 0)/\base<=d
def EE (base:Nat)(k:Lk)(init r7:List Int)(U:RP)(W:World):Prop:=Ru W U k (BG k init r7)/\∀ i,U.Own k.n i->base<=i
def Fn (base:Nat)(k:Lk)(init r7:List Int)(x y:Value)(W:World):Prop:=∃ (Y:YP) (d:Nat),x=H (V ⟨Y.y,0,Z⟩)/\y=J (V ⟨d,0,Z⟩) k.n k.n/\EC base k init r7 Y W/\ED base k.n d W/\¬ Y.Own k.n d
theorem EC.below {base:Nat}{k:Lk}{init r7:List Int}{Y:YP}{W W':World}(h:EC base k init r7 Y W)(hb:Below W.heap.size W W'):EC base k init r7 Y W':=⟨h.1.below hb,h.2⟩
theorem ED.below {base n d:Nat}{W W':World}(h:ED base n d W)(hb:Below W.heap.size W W'):ED base n d W':=⟨h.1.within (af hb) (by simp),h.2⟩
theorem EE.below {base:Nat}{k:Lk}{init r7:List Int}{U:RP}{W W':World}(h:EE base k init r7 U W)(hb:Below W.heap.size W W'):EE base k init r7 U W':=⟨h.1.below hb,h.2⟩
theorem CG {base:Nat}{v:Value}{init r7:List Int}(hb:base<=w.heap.size)(hk:ia k)(hv:Rv base w v ⟨k.l,k.lo,k.un⟩ k.zs init r7 k.each)(hi:init.length=jh k.zs)(hiu:ip init)(hr:r7.length=k.n)(hru:ip r7):
 Calls Tryz.prog 34 #[v,Q O k.n] w fun e w'=>∃ U:RP,e=.returned (H (V ⟨U.g,0,Z⟩))/\EE base k init r7 U w'/\Below w.heap.size w w':=by
 have HNw:Hid (∀ W,Below w.heap.size w W->Calls Tryz.prog 20 #[v,Q O k.n] W (zV W base k init r7)):=G (fun W hW=>Dz (Nat.le_trans hb hW.size) hk (hv.below hW) hi hiu hr hru)
 have hn64:=hk.n64
 obtain⟨sl,aS,cS,aI,cI,aR,cR,rfl,ho,-⟩:=hv
 simp only at ho HNw ⊢
 obtain⟨aL,cL,rfl,_⟩:=aY ho
 have hbz:Below w.heap.size w (w.alloc (.cells #[J aL k.l.length cL,Q O k.lo,Q O k.un,J aS k.zs.length cS,J aI init.length cI,Q O (k.each:Int),J aR r7.length cR] 37)):=(E _ _).alloc (Nat.le_refl _) _
 have hB:=Bk.made w 37 #[J aL k.l.length cL,Q O k.lo,Q O k.un,J aS k.zs.length cS,J aI init.length cI,Q O (k.each:Int),J aR r7.length cR]
 clear ho hk hi hiu hr hru
 go_enter Tryz.func34,Tryz.ntmps34
 go_upto_region 1 with fail
 refine lu (fun W=>Below w.heap.size w W/\Bk W w.heap.size 37 #[J aL k.l.length cL,Q O k.lo,Q O k.un,J aS k.zs.length cS,J aI init.length cI,Q O (k.each:Int),J aR r7.length cR]) (fun vs=>{ tmps:=#[.agg #[J aL k.l.length cL,Q O k.lo,Q O k.un,J aS k.zs.length cS,J aI init.length cI,Q O (k.each:Int),J aR r7.length cR],Q O (k.n:Int),H (V ⟨w.heap.size,0,Z⟩),undef,vs 7,vs 0,vs 1,vs 2,vs 3,vs 4,vs 5,vs 6],defers:=[] }) (nC [(2,fun v W=>∃ Y:YP,v=H (V ⟨Y.y,0,Z⟩)/\EC base k init r7 Y W),(4,fun v W=>∃ d,v=J (V ⟨d,0,Z⟩) k.n k.n/\ED base k.n d W),(5,fun v W=>∃ (Y:YP) (d:Nat),v=.agg #[H (V ⟨Y.y,0,Z⟩),J (V ⟨d,0,Z⟩) k.n k.n,J Z 0 0,Q O 0]/\EC base k init r7 Y W/\ED base k.n d W/\¬ Y.Own k.n d),(6,fun v W=>∃ U:RP,v=H (V ⟨U.g,0,Z⟩)/\EE base k init r7 U W),(7,fun v W=>∃ U:RP,v=H (V ⟨U.g,0,Z⟩)/\EE base k init r7 U W)] [.agg #[J aL k.l.length cL,Q O k.lo,Q O k.un,J aS k.zs.length cS,J aI init.length cI,Q O (k.each:Int),J aR r7.length cR],Q O (k.n:Int),undef,Q O (k.n:Int),undef,undef,undef,undef]) 2 4 (Fn base k init r7) ?ghm ?ghr ?ghab ?ghal ?ghbl ?ghlit ?gh0 ?ghW ?ghF ?ghP ?gops ?gdone
 case ghm=>kernel_rfl
 case ghr=>kernel_rfl
 case ghab=>decide
 case ghal=>decide
 case ghbl=>decide
 case ghlit=>intro vs;rfl
 case gh0=>exact⟨hbz,hB⟩
 case ghW=>exact fun W W2 h hb=>⟨h.1.trans (hb.mono h.1.size),Bk.within h.2 (af hb) (by simp)⟩
 case ghF=>exact ep (by
  intro p0 hp
  simp only[List.mem_cons,List.not_mem_nil,or_false] at hp
  rcases hp with rfl|rfl|rfl|rfl|rfl
  ·exact fun v W W2 ⟨Y,h1,h2⟩ hb=>⟨Y,h1,h2.below hb⟩
  ·exact fun v W W2 ⟨d,h1,h2⟩ hb=>⟨d,h1,h2.below hb⟩
  ·exact fun v W W2 ⟨Y,d,h1,h2,h3,h4⟩ hb=>⟨Y,d,h1,h2.below hb,h3.below hb,h4⟩
  ·exact fun v W W2 ⟨U,h1,h2⟩ hb=>⟨U,h1,h2.below hb⟩
  ·exact fun v W W2 ⟨U,h1,h2⟩ hb=>⟨U,h1,h2.below hb⟩)
 case ghP=>exact fun x y W W2 ⟨Y,d,h1,h2,h3,h4,h5⟩ hb=>⟨Y,d,h1,h2,h3.below hb,h4.below hb,h5⟩
 case gops=>
  refine⟨?_,?_,?_,?_,?_,?_,?_,?_,trivial⟩
  ·intro vs W hW hd hp
   refine aa rfl ?_
   have hq:=hW.2
   obtain⟨y0,y1,y2,y3,y4,y5,y6⟩:=hq.pO
   clear hq hd hp
   go_simp
   exact⟨⟨rfl,fun e=>absurd e (by decide),fun e=>absurd e (by decide)⟩,E _ _⟩
  ·intro vs W hW hd hp
   refine aa rfl ?_
   clear hd hp
   go_simp
   exact⟨⟨rfl,fun e=>absurd e (by decide),fun e=>absurd e (by decide)⟩,E _ _⟩
  ·intro vs W hW hd hp
   refine aa rfl ?_
   have e0:vs 0=.agg #[J aL k.l.length cL,Q O k.lo,Q O k.un,J aS k.zs.length cS,J aI init.length cI,Q O (k.each:Int),J aR r7.length cR]:=hd 0 (by decide)
   have e1:vs 1=Q O (k.n:Int):=hd 1 (by decide)
   have hc:=HNw.out W hW.1
   have hsz:=hW.1.size
   clear hd hp
   go_simp
   refine hc.mono ?_
   rintro e W2 ⟨Y,rfl,h2,h3,h4⟩
   refine⟨_,rfl,⟨⟨Y,rfl,h2,fun i hi=>(h4 i hi).1⟩,fun _ y hy=>?_,fun e=>absurd e (by decide)⟩,h3⟩
   obtain⟨d,rfl,hd4⟩:∃ d,y=J (V ⟨d,0,Z⟩) k.n k.n/\ED base k.n d W:=hy
   refine⟨Y,d,rfl,rfl,⟨h2,fun i hi=>(h4 i hi).1⟩,hd4.below h3,fun hi=>?_⟩
   rcases(h4 d hi).2 with e | e
   ·obtain⟨c,hc2⟩:=aT h2.code e
    obtain⟨c2,hc3,_⟩:=(hd4.below h3).1.bk
    exact Bk.av hc2 hc3 (by decide) rfl
   ·have:=hd4.1.lt;omega
  ·intro vs W hW hd hp
   refine aa rfl ?_
   clear hd hp
   go_simp
   exact⟨⟨rfl,fun e=>absurd e (by decide),fun e=>absurd e (by decide)⟩,E _ _⟩
  ·intro vs W hW hd hp
   refine aa rfl ?_
   have e3:vs 3=Q O (k.n:Int):=hd 3 (by decide)
   have hmk:=yx k.n (by omega) W
   have hA:Below W.heap.size W (W.alloc (.cells (madeCells #[Q O 0] k.n) 3)):=(E _ _).alloc (Nat.le_refl _) _
   have hI:=pQ.made W k.n (by simp only[maxLen];omega)
   have hsz:=hW.1.size
   clear hd hp
   go_simp
   try simp only[hmk]
   refine⟨⟨⟨W.heap.size,rfl,hI,Nat.le_trans hb hsz⟩,fun e=>absurd e (by decide),fun _ x hx=>?_⟩,hA⟩
   obtain⟨Y,rfl,hY⟩:∃ Y:YP,x=H (V ⟨Y.y,0,Z⟩)/\EC base k init r7 Y W:=hx
   exact⟨Y,W.heap.size,rfl,rfl,hY.below hA,⟨hI,Nat.le_trans hb hsz⟩,fun hi=>by have:=hY.1.lt hi;omega⟩
  ·intro vs W hW hd hp
   refine aa rfl ?_
   obtain⟨Y,d,e2,e4,h2,h4,h5⟩:=hp (by decide) (by decide)
   clear hd
   go_simp
   exact⟨⟨⟨Y,d,rfl,h2,h4,h5⟩,fun e=>absurd e (by decide),fun e=>absurd e (by decide)⟩,E _ _⟩
  ·intro vs W hW hd hp
   refine aa rfl ?_
   obtain⟨Y,d,e5,h2,h4,h5⟩:=hd 5 (by decide)
   have hA:Below W.heap.size W (W.alloc (.cells #[H (V ⟨Y.y,0,Z⟩),J (V ⟨d,0,Z⟩) k.n k.n,J Z 0 0,Q O 0] 86)):=(E _ _).alloc (Nat.le_refl _) _
   have hM:=Bk.made W 86 #[H (V ⟨Y.y,0,Z⟩),J (V ⟨d,0,Z⟩) k.n k.n,J Z 0 0,Q O 0]
   have hsz:=hW.1.size
   clear hd hp
   go_simp
   refine⟨⟨⟨⟨W.heap.size,Y,d,J Z 0 0⟩,rfl,⟨hM,?_,World.ownsRow_nil _ _ _ _,h2.1.below hA,h5⟩,fun i hi=>?_⟩,fun e=>absurd e (by decide),fun e=>absurd e (by decide)⟩,hA⟩
   ·show pQ _ d k.n (mr (fun _=>0) k.n)
    rw[xa]
    exact(h4.below hA).1
   ·rcases hi with e | e | e | e
    ·rw[e];exact Nat.le_trans hb hsz
    ·rw[e];exact h4.2
    ·cases e
    ·exact h2.2 i e
  ·intro vs W hW hd hp
   refine aa rfl ?_
   obtain⟨U,e6,h6⟩:=hd 6 (by decide)
   clear hd hp
   go_simp
   exact⟨⟨⟨U,rfl,h6⟩,fun e=>absurd e (by decide),fun e=>absurd e (by decide)⟩,E _ _⟩
 case gdone=>
  intro vs W hW hf hp
  obtain⟨U,e7,h7⟩:=hf 7 (by decide)
  simp only[e7]
  have hbl:=hW.1
  clear hf hp hW
  go_wp2
  go_ret
  exact⟨U,rfl,h7,hbl⟩
end
structure ug where
 kd:Int
 t:Int
 L:Int
def ug.op (x:ug):nF:=⟨x.kd,x.t,decide (x.L≠0)⟩
def qg (base:Nat)(w:World)(a:Option Addr)(l:List ug):Prop:=
 0<l.length->∃ b off,a=V ⟨b,off,Z⟩/\b<base/\∀ i x,l[i]?=V x->w.cell? ⟨b,off+i*3,Z⟩=V (Q O x.kd)/\w.cell? ⟨b,off+i*3+1,Z⟩=V (Q O x.t)/\w.cell? ⟨b,off+i*3+2,Z⟩=V (Q O x.L)
theorem qg.within {base:Nat}{w w':World}{a:Option Addr}{l:List ug}{S:Nat->Prop}(h:qg base w a l)(hw:ag w w' S)(hb:base<=w.heap.size)(hs:∀ i,S i->base<=i):qg base w' a l:=by
 intro h0
 obtain⟨b,off,e,h1,h2⟩:=h h0
 have hk:∀ j,w'.cell? ⟨b,j,Z⟩=w.cell? ⟨b,j,Z⟩:=fun j=>by
  have:=hw.block b (Nat.lt_of_lt_of_le h1 hb) (fun e=>by have:=hs b e;omega)
  unfold World.cell?
  simp only[this]
 refine⟨b,off,e,h1,fun i x hx=>?_⟩
 obtain⟨c0,c1,c2⟩:=h2 i x hx
 exact⟨(hk _).trans c0,(hk _).trans c1,(hk _).trans c2⟩
theorem vr (k:Lk)(r:Rn)(l:List ug)(j:Nat)(h:j<l.length):kX k r ((l.take (j+1)).map ug.op)=eE k (kX k r ((l.take j).map ug.op)) l[j].op:=by
 rw[List.take_succ_eq_append_getElem h,List.map_append]
 unfold kX
 rw[List.foldl_append]
 rfl
def dZ (r:Rn):Nat->Bool
 | 0=>R
 | j+1=>dZ r j || (r.act j != 0)
theorem mo {r r':Rn}:∀ {j:Nat},(∀ t,t<j->r'.act t=r.act t)->dZ r' j=dZ r j
 | 0,_=>rfl
 | j+1,h=>by
  unfold dZ
  rw[mo (fun t ht=>h t (by omega)),h j (by omega)]
theorem gO {r:Rn}:∀ {n:Nat},dZ r n=R↔mw n r
 | 0=>⟨fun _ t ht=>by omega,fun _=>rfl⟩
 | n+1=>by
  unfold dZ
  rw[Bool.or_eq_false_iff,gO]
  constructor
  ·rintro⟨h1,h2⟩ t ht
   by_cases e:t=n
   ·subst e;simpa using h2
   ·exact h1 t (by omega)
  ·intro h
   exact⟨fun t ht=>h t (by omega),by simpa using h n (by omega)⟩
def cX (k:Lk)(r:Rn)(j:Nat):Rn:=(List.range j).foldl (bO k) r
theorem oq (k:Lk)(r:Rn):cX k r 0=r:=rfl
theorem kg (k:Lk)(r:Rn)(j:Nat):cX k r (j+1)=bO k (cX k r j) j:=by
 unfold cX
 rw[List.range_succ,List.foldl_append];rfl
theorem tJ (k:Lk)(r:Rn)(j:Nat):dZ (cX k r (j+1)) (j+1)=(dZ (cX k r j) j || ((cX k r (j+1)).act j != 0)):=by
 show (dZ (cX k r (j+1)) j || _)=_
 rw[mo (fun t ht=>?_)]
 rw[kg]
 exact uC (by simp only;omega)
def fQ (k:Lk):Nat->Rn->Bool×Rn
 | 0,r=>(R,r)
 | f+1,r=>if dZ (cX k r k.n) k.n=R then (K,cX k r k.n) else fQ k f (cX k r k.n)
theorem gE (k:Lk)(f:Nat)(r:Rn):fQ k (f+1) r=if dZ (cX k r k.n) k.n=R then (K,cX k r k.n) else fQ k f (cX k r k.n):=rfl
theorem oH (k:Lk)(r:Rn):fQ k 0 r=(R,r):=rfl
attribute [local irreducible] fQ cX
section
variable {w:World}{U:RP}{k:Lk}{r:Rn}
theorem yi (F:Nat)(hF:F=5000)(h:Ru w U k r)(hl:r.l.length<=1000000)(hs:iO k):
 Calls Tryz.prog 37 #[H (V ⟨U.g,0,Z⟩)] w fun e w'=>e=.returned (.bool (fQ k F r).1)/\tM w U k (fQ k F r).2 w':=by
 have HFF:=G hF
 clear hF
 have HLK:=G h.ey.lk
 have HH:=G h
 have hn64:=h.ey.lk.n64
 have HLen:=G hl
 obtain⟨g,hg⟩:∃ g,U.g=g:=⟨_,rfl⟩
 obtain⟨d,hd⟩:∃ d,U.d=d:=⟨_,rfl⟩
 have HG:=G (And.intro hg hd)
 rw[hg]
 clear h hl hg hd
 go_enter Tryz.func37,Tryz.ntmps37
 go_wp2
 go_loopw [3] (fun x wr=>∃ (T:Nat) (U':RP) (rT:Rn),x=Q O T/\T<=5000/\Hid (Ru wr U' k rT/\bd w k.n U wr U'/\rT.l.length<=r.l.length+258*(64*T)/\fQ k F r=fQ k (F-T) rT)) (fun x _=>5000-(intOf x).toNat)
 case atStart=>exact⟨0,U,r,rfl,Nat.zero_le _,G ⟨HH.out,bd.refl _ _ _,by omega,by rw[Nat.sub_zero]⟩⟩
 case round=>
  obtain⟨T,U',rT,rfl,hT,HR⟩:=hrel
  by_cases hlt:T<5000
  ·have hTi:(T:Int)<5000:=by omega
   have hc1:=HR.out.1.c1
   have hgg:U'.g=g:=HR.out.2.1.2.2.1.trans HG.out.1
   have hdd:U'.d=d:=HR.out.2.1.2.2.2.trans HG.out.2
   rw[hgg,hdd] at hc1
   clear hgg hdd
   have HF0:Hid (fQ k (F-T) rT=if dZ (cX k rT k.n) k.n=R then (K,cX k rT k.n) else fQ k (F-(T+1)) (cX k rT k.n)):=G (by rw[show F-T=(F-(T+1))+1 by have:=HFF.out;omega];exact gE _ _ _)
   go_wp2
   go_loopw [4,15] (fun bz x wr=>∃ (j:Nat) (U2:RP),x=Q O j/\j<=k.n/\bz=.bool (dZ (cX k rT j) j)/\Hid (Ru wr U2 k (cX k rT j)/\bd w k.n U wr U2/\(cX k rT j).l.length<=r.l.length+258*(64*T+j))) (fun _ x _=>k.n-(intOf x).toNat)
   case atStart=>exact⟨0,U',rfl,Nat.zero_le _,rfl,G (by rw[oq];exact⟨HR.out.1,HR.out.2.1,HR.out.2.2.1⟩)⟩
   case round=>
    obtain⟨j,U2,rfl,hj,rfl,HJ⟩:=hrel
    by_cases hjt:j<k.n
    ·have hji:(j:Int)<k.n:=by omega
     obtain⟨hRu,hSt,hll⟩:=HJ.out
     have hgg:U2.g=g:=hSt.2.2.1.trans HG.out.1
     have hdd:U2.d=d:=hSt.2.2.2.trans HG.out.2
     have hc1:=hRu.c1
     have hx:=hRu.act hjt
     rw[hgg,hdd] at hc1
     rw[hdd] at hx
     have hlo:=HLen.out
     have HOp:Hid (∀ kd:Int,(if (cX k rT j).act j=2 then 2 else 3)=kd->Calls Tryz.prog 35 #[H (V ⟨g,0,Z⟩),.agg #[Q O kd,Q O j,Q O 0]] wr fun e w'=>e=.returned (.tuple #[])/\∃ U3:RP,(w'.cell? ⟨g,1,Z⟩=V (J (V ⟨d,0,Z⟩) k.n k.n)/\w'.cell? ⟨d,j,Z⟩=V (Q O ((cX k rT (j+1)).act j)))/\Ru w' U3 k (cX k rT (j+1))/\bd w k.n U w' U3/\(cX k rT (j+1)).l.length<=r.l.length+258*(64*T+(j+1))):=G (fun kd hkd=>by
      have hc:=E1 hRu kd j 0 R rfl (by omega) hs
      have hol:=kT HLK.out (cX k rT j) ⟨kd,j,R⟩
      have he:eE k (cX k rT j) ⟨kd,j,R⟩=cX k rT (j+1):=by rw[kg];unfold bO;rw[hkd]
      rw[he] at hc hol
      rw[hgg] at hc
      refine hc.mono ?_
      rintro e w' ⟨h1,U3,h3,h4⟩
      have d1:=h3.c1
      have d2:=h3.act hjt
      rw[h4.2.2.1.trans hgg,h4.2.2.2.trans hdd] at d1
      rw[h4.2.2.2.trans hdd] at d2
      exact⟨h1,U3,⟨d1,d2⟩,h3,hSt.aO h4,by omega⟩)
     have HBz:=G (tJ k rT j)
     generalize dZ (cX k rT j) j=bj at *
     obtain⟨a0,ha0⟩:∃ a0,(cX k rT j).act j=a0:=⟨_,rfl⟩
     rw[ha0] at hx HOp
     clear ha0 hRu hSt hll hgg hdd HJ hlo
     cases a2:(a0==2) with
     | true=>
      have HC:=G (HOp.out 2 (by rw[if_pos (eq_of_beq a2)]))
      clear HOp
      go_wp2_with fail
      refine HC.out.mono ?_
      rintro e w5 ⟨rfl,U3,⟨hc5,hx5⟩,hr5⟩
      have HR5:=G hr5
      clear hr5 HC hc1 hx
      cases bj with
      | true=>
       have HB5:Hid (dZ (cX k rT (j+1)) (j+1)=K):=G (by rw[HBz.out];rfl)
       clear HBz
       go_wp2
       go_roundw
       case rel=>exact⟨j+1,U3,by go_num,by omega,by rw[HB5.out],HR5⟩
       case measure=>simp[intOf];omega
      | false=>
       have HB5:Hid (dZ (cX k rT (j+1)) (j+1)=((cX k rT (j+1)).act j != 0)):=G (by rw[HBz.out];rfl)
       clear HBz
       go_wp2
       go_roundw
       case rel=>exact⟨j+1,U3,by go_num,by omega,by rw[HB5.out],HR5⟩
       case measure=>simp[intOf];omega
     | false=>
      have HC:=G (HOp.out 3 (by rw[if_neg (ne_of_beq_false a2)]))
      clear HOp
      go_wp2_with fail
      refine HC.out.mono ?_
      rintro e w5 ⟨rfl,U3,⟨hc5,hx5⟩,hr5⟩
      have HR5:=G hr5
      clear hr5 HC hc1 hx
      cases bj with
      | true=>
       have HB5:Hid (dZ (cX k rT (j+1)) (j+1)=K):=G (by rw[HBz.out];rfl)
       clear HBz
       go_wp2
       go_roundw
       case rel=>exact⟨j+1,U3,by go_num,by omega,by rw[HB5.out],HR5⟩
       case measure=>simp[intOf];omega
      | false=>
       have HB5:Hid (dZ (cX k rT (j+1)) (j+1)=((cX k rT (j+1)).act j != 0)):=G (by rw[HBz.out];rfl)
       clear HBz
       go_wp2
       go_roundw
       case rel=>exact⟨j+1,U3,by go_num,by omega,by rw[HB5.out],HR5⟩
       case measure=>simp[intOf];omega
    ·obtain rfl:j=k.n:=by omega
     have HE:Hid (fQ k F r=if dZ (cX k rT k.n) k.n=R then (K,cX k rT k.n) else fQ k (F-(T+1)) (cX k rT k.n)):=G (HR.out.2.2.2.trans HF0.out)
     have hT2:T+1<=5000:=by omega
     cases hbz:dZ (cX k rT k.n) k.n with
     | true=>
      have HE2:Hid (fQ k F r=fQ k (F-(T+1)) (cX k rT k.n)):=G (by rw[HE.out,hbz];simp)
      clear hbz HE HF0 HR hc1
      go_wp2
      go_roundw
      case rel=>exact⟨T+1,U2,cX k rT k.n,by go_num,hT2,G ⟨HJ.out.1,HJ.out.2.1,by have:=HJ.out.2.2;omega,HE2.out⟩⟩
      case measure=>simp[intOf];omega
     | false=>
      have HE2:Hid (fQ k F r=(K,cX k rT k.n)):=G (by rw[HE.out,hbz];simp)
      clear hbz HE HF0 HR hc1
      go_wp2
      go_ret
      exact⟨by rw[HE2.out];rfl,by rw[HE2.out];exact⟨U2,HJ.out.1,HJ.out.2.1⟩⟩
  ·obtain rfl:T=5000:=by omega
   have HE2:Hid (fQ k F r=(R,rT)):=G (by rw[HR.out.2.2.2,show F-5000=0 by have:=HFF.out;omega];exact oH _ _)
   go_wp2
   go_ret
   exact⟨by rw[HE2.out];rfl,by rw[HE2.out];exact⟨U',HR.out.1,HR.out.2.1⟩⟩
theorem AM (h:Ru w U k r)(hl:r.l.length<=1000000)(hs:iO k):
 Calls Tryz.prog 37 #[H (V ⟨U.g,0,Z⟩)] w fun e w'=>e=.returned (.bool (fQ k 5000 r).1)/\tM w U k (fQ k 5000 r).2 w':=yi 5000 rfl h hl hs
end
end
section
variable {k:Lk}{r:Rn}
theorem oG:∀ (l:List Nat),(∀ t∈l,r.act t=0)->l.foldl (bO k) r=r
 | [],_=>rfl
 | t :: l,h=>by
  rw[List.foldl_cons,ic (h t (by simp))]
  exact oG l (fun t ht=>h t (by simp[ht]))
theorem vO (h:mw k.n r):cX k r k.n=r:=oG _ (fun t ht=>h t (by simpa using ht))
theorem uO:∀ (i F:Nat) (r:Rn),i<F->mw k.n (fj k.n (bO k) (i+1) r)->(∀ i',i'<i->¬ mw k.n (fj k.n (bO k) (i'+1) r))->fQ k F r=(K,fj k.n (bO k) (i+1) r)
 | i,0,r,h,_,_=>absurd h (Nat.not_lt_zero _)
 | 0,F+1,r,h,h1,h2=>by
  have e:dZ (cX k r k.n) k.n=R:=gO.2 h1
  rw[gE,if_pos e]
  rfl
 | i+1,F+1,r,h,h1,h2=>by
  have e:¬ dZ (cX k r k.n) k.n=R:=fun e=>h2 0 (Nat.succ_pos _) (gO.1 e)
  rw[gE,if_neg e]
  exact uO i F (cX k r k.n) (by omega) h1 (fun i' hi'=>h2 (i'+1) (by omega))
theorem v7 {i F:Nat}(hF:i<F)(h1:mw k.n (fj k.n (bO k) i r))(h2:∀ i',i'<i->¬ mw k.n (fj k.n (bO k) i' r)):fQ k F r=(K,fj k.n (bO k) i r):=by
 match i,F,hF with
 | 0,F+1,_=>
  have e1:cX k r k.n=r:=vO h1
  have e:dZ (cX k r k.n) k.n=R:=gO.2 (by rw[e1];exact h1)
  rw[gE,if_pos e,e1]
  rfl
 | i+1,F,hF=>exact uO i F r (by omega) h1 (fun i' hi'=>h2 (i'+1) (by omega))
section
variable {k:Lk}(S:np k)
theorem oY (r:Rn)(h:S.I r)(F:Nat)(hn:k.n*S.c<F):∃ r2,fQ k F r=(K,r2)/\S.I r2/\mw k.n r2:=by
 obtain⟨i,h1,h2,h3,h4⟩:=qp S r h
 exact⟨_,v7 (by omega) h2 h3,h4,h2⟩
end
theorem ga (k:Lk)(t:Nat):∀ (j:Nat) (r:Rn),dH k t (j+1) r=eE k (dH k t j r) ⟨3,t,R⟩
 | 0,r=>rfl
 | j+1,r=>by
  show dH k t (j+1) (eE k r ⟨3,t,R⟩)=_
  rw[ga k t j]
  rfl
theorem xI {k:Lk}(h:ia k)(r:Rn)(t:Nat):(bO k r t).l.length<=r.l.length+258:=kT h _ _
theorem rj {k:Lk}(h:ia k)(r:Rn):∀ j,(cX k r j).l.length<=r.l.length+258*j
 | 0=>by rw[oq];omega
 | j+1=>by
  rw[kg]
  have h1:=rj h r j
  have h2:=xI h (cX k r j) j
  omega
theorem rJ {k:Lk}(h:ia k):∀ (F:Nat) (r:Rn),(fQ k F r).2.l.length<=r.l.length+258*k.n*F
 | 0,r=>by rw[oH];simp
 | F+1,r=>by
  have h1:=rj h r k.n
  rw[gE,Nat.mul_add]
  split
  ·simp only;omega
  ·have h2:=rJ h F (cX k r k.n)
   omega
section
variable {n:Nat}{st:Int}
theorem xO {l:List En}(h1:1<=n)(hn:n<=64)(h:dC (n:Int) l):fD n l=l.length:=by
 unfold fD
 rw[if_pos ⟨by omega,by omega⟩]
 exact mn h
theorem xL (h0:0<=st)(h1:st<4294967296):qO n st 0 (BG (gP n) [st,st] (qM n)):=Cr n st h0 h1 (qM n) (Ct n)
theorem Cp (hn:n<=64)(h0:0<=st)(h1:st<4294967296)(l:List nF):∃ s,qO n st s (kX (gP n) (BG (gP n) [st,st] (qM n)) l):=
 qV (I:=fun r=>∃ s,qO n st s r) (fun r o h=>sc hn o h) l _ ⟨0,xL h0 h1⟩
theorem vf (g1:1<=n)(hn:n<=8)(h0:0<=st)(h1:st<4294967296)(l:List nF){t:Nat}(ht:t<n):
 ∃ r2 r3 r4,fQ (gP n) 5000 (kX (gP n) (BG (gP n) [st,st] (qM n)) l)=(K,r2)/\r2.bad=R/\dH (gP n) t 2 (eE (gP n) r2 ⟨1,t,R⟩)=r3/\r3.act t=2/\
  dH (gP n) t 1 (eE (gP n) r3 ⟨2,t,R⟩)=r4/\r4.bad=R/\r4.act t=0/\fD n r4.l=r4.l.length:=by
 have hI:=Cp (n:=n) (by omega) h0 h1 l
 obtain⟨r2,e2,⟨s2,h2⟩,hid⟩:=oY (Fb n st (by omega)) _ hI 5000 (by show n*4<5000;omega)
 obtain⟨a1,a2,s5,h5⟩:=xP h2 (by omega) ht hid
 exact⟨r2,_,_,e2,h2.bad,rfl,a1,rfl,h5.bad,a2,xO g1 (by omega) h5.tr⟩
end
end
section
open Go.ChangeShapes Go.WideShapes Go.ChangeAt Go.RowKit
theorem Ru.AW {W:World}{U:RP}{k:Lk}{r:Rn}{b:Nat}{cs:Array Value}(h:Ru W U k r)(hb:Bk W b 37 cs):¬ U.Own k.n b:=by
 rintro(e | e | e | e)
 ·exact Bk.av h.ptr hb (by decide) e.symm
 ·obtain⟨B7,hb2,_⟩:=h.acts.bk
  exact Bk.av hb2 hb (by decide) e.symm
 ·obtain⟨B7,hb2⟩:=aT h.jl e
  exact Bk.av hb2 hb (by decide) rfl
 ·exact h.ey.gU hb (by decide) (by decide) (by decide) (by decide) (by decide) (by decide) (by decide) (by decide) e
def qm (base:Nat)(w:World)(k:Lk)(g bx:Nat)(cs:Array Value)(r:Rn)(W:World):Prop:=∃ U:RP,(Ru W U k r/\(∀ i,U.Own k.n i->base<=i)/\U.g=g)/\ag w W (fun i=>base<=i)/\Bk W bx 37 cs
section
variable {base:Nat}{w W W':World}{k:Lk}{g bx:Nat}{cs:Array Value}{r r':Rn}{U U':RP}
theorem qm.next (h:(Ru W U k r/\(∀ i,U.Own k.n i->base<=i)/\U.g=g)/\ag w W (fun i=>base<=i)/\Bk W bx 37 cs)(hb:base<=w.heap.size)(h':Ru W' U' k r')(hs:bd W k.n U W' U'):qm base w k g bx cs r' W':=by
 obtain⟨⟨h1,h2,h3⟩,h4,h5⟩:=h
 refine⟨U',⟨h',fun i hi=>?_,hs.2.2.1.trans h3⟩,h4.aO (hs.1.wide (S':=fun i=>base<=i) (fun i h _=>h2 i h)) (fun i h=>.inl h),h5.within hs.1 (h1.AW h5)⟩
 rcases hs.2.1 i hi with e | e
 ·exact h2 i e
 ·exact Nat.le_trans hb (Nat.le_trans h4.size e)
theorem qm.below (h:qm base w k g bx cs r W)(hb:base<=w.heap.size)(hW:Below W.heap.size W W'):qm base w k g bx cs r W':=by
 obtain⟨U,h⟩:=h
 exact qm.next h hb (h.1.1.below hW) ((bd.refl W k.n U).grown hW)
theorem ng (h:qm base w k g bx cs r W)(hb:base<=w.heap.size)(kd t' L:Int)(late:Bool)(hL:decide (L≠0)=late)(hl:r.l.length+258<100000000)(hs:iO k):
 Calls Tryz.prog 35 #[H (V ⟨g,0,Z⟩),.agg #[Q O kd,Q O t',Q O L]] W fun e w'=>e=.returned (.tuple #[])/\qm base w k g bx cs (eE k r ⟨kd,t',late⟩) w':=by
 obtain⟨U,h⟩:=h
 have hc:=E1 h.1.1 kd t' L late hL hl hs
 rw[h.1.2.2] at hc
 refine hc.mono ?_
 rintro e w' ⟨h1,U2,h3,h4⟩
 exact⟨h1,qm.next h hb h3 h4⟩
theorem su (h:qm base w k g bx cs r W)(hb:base<=w.heap.size)(hl:r.l.length<=1000000)(hs:iO k):
 Calls Tryz.prog 37 #[H (V ⟨g,0,Z⟩)] W fun e w'=>e=.returned (.bool (fQ k 5000 r).1)/\qm base w k g bx cs (fQ k 5000 r).2 w':=by
 obtain⟨U,h⟩:=h
 have hc:=AM h.1.1 hl hs
 rw[h.1.2.2] at hc
 refine hc.mono ?_
 rintro e w' ⟨h1,U2,h3,h4⟩
 exact⟨h1,qm.next h hb h3 h4⟩
theorem qm.c (h:qm base w k g bx cs r W):W.cell? ⟨g,3,Z⟩=V (Q O (Dk r.bad))/\∃ d,W.cell? ⟨g,1,Z⟩=V (J (V ⟨d,0,Z⟩) k.n k.n)/\∀ t,t<k.n->W.cell? ⟨d,t,Z⟩=V (Q O (r.act t)):=by
 obtain⟨U,⟨h1,h2,rfl⟩,h3⟩:=h
 exact⟨h1.c3,U.d,h1.c1,fun t ht=>h1.act ht⟩
theorem qm.box (h:qm base w k g bx cs r W):Bk W bx 37 cs:=by
 obtain⟨U,h⟩:=h
 exact h.2.2
theorem qm.win (h:qm base w k g bx cs r W):ag w W (fun i=>base<=i):=by
 obtain⟨U,h⟩:=h
 exact h.2.1
theorem qm.jl (h:qm base w k g bx cs r W)(hl:r.l.length<=100000000):∃ al capl,W.cell? ⟨g,2,Z⟩=V (J al r.l.length capl)/\∀ W2,Below W.heap.size W W2->Calls Tryz.prog 36 #[Q O k.n,J al r.l.length capl] W2 fun e w'=>e=.returned (Q O (fD k.n r.l:Nat))/\Below W2.heap.size W2 w':=by
 obtain⟨U,⟨h1,h2,rfl⟩,h3⟩:=h
 obtain⟨al,capl,elv,hm1,hm2,hS⟩:=h1.jl.is
 have c2:=h1.c2
 rw[elv] at c2
 exact⟨al,capl,c2,fun W2 hW=>CF k.n r.l al capl W2 (hS.below hW) hm1 hm2 (by omega)⟩
end
theorem i7 {k:Lk}(h:ia k)(t:Nat)(r:Rn):∀ j,(dH k t j r).l.length<=r.l.length+258*j
 | 0=>by show r.l.length<=_;omega
 | j+1=>by
  rw[ga]
  have h1:=i7 h t r j
  have h2:=kT h (dH k t j r) ⟨3,t,R⟩
  omega
end
