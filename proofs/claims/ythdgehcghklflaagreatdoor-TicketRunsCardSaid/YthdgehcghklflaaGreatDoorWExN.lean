import Derived.Test.YthdgehcghklflaaGreatDoorWExC
import Derived.Test.YthdgehcghklflaaGreatDoorWArR
import Derived.Test.YthdgehcghklflaaGreatDoorWPool
set_option linter.unusedVariables false
set_option maxHeartbeats 4000000
set_option maxRecDepth 100000
open Go.Value renaming int->I,slice->V,pointer->S
open Go.IntKind renaming i64->Q,u32->N
open Option renaming none->O,some->Z
open Go.Lib renaming hid->T
open Go.RowKit.Below renaming refl->R
open Go renaming undef->U
namespace Go.Proofs.YthdgehcghklflaaGreatDoor
open Go.ChangeShapes Go.WideShapes Go.ChangeAt Go.RowKit
def Bl (r7:List Int)(j:Nat):Nat->kF:=fun t=>if t<j then ⟨[0,0,0,0,0,0,0,aG r7 t],0⟩ else ⟨[0,0,0,0,0,0,0,0],0⟩
theorem BJ (r7:List Int):Bl r7 0=fun _=>⟨[0,0,0,0,0,0,0,0],0⟩:=by funext t;simp[Bl]
theorem ym (r7:List Int)(j:Nat):eO (Bl r7 j) j ⟨(Bl r7 j j).xs.set 7 (aG r7 j),(Bl r7 j j).pc⟩=Bl r7 (j+1):=by
 funext t
 unfold eO Bl
 by_cases e:t=j
 ·subst e;simp
 ·by_cases h:t<j
  ·simp[e,h,show t<j+1 by omega]
  ·simp[e,h,show ¬ t<j+1 by omega]
theorem AX {k:Lk}{init r7:List Int}(h:r7.length=k.n):Bl r7 k.n=(oN k init r7).cs:=by
 funext t
 unfold Bl oN
 by_cases e:t<k.n
 ·simp[e]
 ·have:aG r7 t=0:=by unfold aG;rw[List.getD_eq_getElem?_getD,List.getElem?_eq_none (by omega)];rfl
  simp[e,this]
theorem s8 {cs:Nat->kF}{n:Nat}(h:∀ t,t<n->bg (cs t).xs){t j:Nat}(ht:t<n)(hj:j<8){v:Int}(hv:0<=v/\v<4294967296):(eS cs n).set (t*9+j) (I N v)=eS (eO cs t ⟨(cs t).xs.set j v,(cs t).pc⟩) n:=by
 have hc:bg ((⟨(cs t).xs.set j v,(cs t).pc⟩:kF).xs):=(h t ht).put j hv
 have h2:=eT (n:=n) h hc t
 have hl:=fW h
 have hl2:=fW h2
 apply List.ext_getElem?
 intro i
 by_cases hi:i<n*9
 ·obtain⟨s,q,hs,hq,rfl⟩:∃ s q,s<n/\q<9/\i=s*9+q:=⟨i / 9,i % 9,by omega,by omega,by omega⟩
  rw[List.getElem?_set,fP h2 hs hq,fP h hs hq]
  by_cases e:s=t
  ·subst e
   rw[jX]
   by_cases eq:q=j
   ·subst eq
    rw[if_pos rfl,if_pos (by omega)]
    have h8:=(h s hs).1
    simp only
    unfold bQ
    rw[List.getElem?_append_left (by simp;omega),List.getElem?_map,List.getElem?_set_self (by omega)]
    rfl
   ·rw[if_neg (by omega)]
    simp only
    unfold bQ
    rw[List.getElem?_append,List.getElem?_append]
    simp only[List.length_map,List.length_set]
    split
    ·rw[List.getElem?_map,List.getElem?_map,List.getElem?_set_ne (fun e=>eq e.symm)]
    ·rfl
  ·rw[if_neg (by omega),iU e]
 ·rw[List.getElem?_eq_none (by rw[List.length_set];omega),List.getElem?_eq_none (by omega)]
theorem sx (n:Nat):madeCells #[I N 0,I N 0,I N 0,I N 0,I N 0,I N 0,I N 0,I N 0,I Q 0] (n*9)=(eS (fun _=>⟨[0,0,0,0,0,0,0,0],0⟩) n).toArray:=by
 have h8:∀ t,t<n->bg ((fun _=>⟨[0,0,0,0,0,0,0,0],0⟩:Nat->kF) t).xs:=fun _ _=>⟨rfl,fM.fX 8⟩
 have hl:=fW h8
 apply Array.ext_getElem?
 intro i
 have hr:(eS (fun _=>⟨[0,0,0,0,0,0,0,0],0⟩) n).toArray[i]?=(eS (fun _=>⟨[0,0,0,0,0,0,0,0],0⟩) n)[i]?:=List.getElem?_toArray
 rw[hr]
 clear hr
 by_cases hi:i<n*9
 ·obtain⟨s,q,hs,hq,rfl⟩:∃ s q,s<n/\q<9/\i=s*9+q:=⟨i / 9,i % 9,by omega,by omega,by omega⟩
  rw[fP h8 hs hq]
  have e3:(s*9+q) % 9=q:=by omega
  have hq':q=0\/q=1\/q=2\/q=3\/q=4\/q=5\/q=6\/q=7\/q=8:=by omega
  have hsz:s*9+q<(madeCells #[I N 0,I N 0,I N 0,I N 0,I N 0,I N 0,I N 0,I N 0,I Q 0] (n*9)).size:=by rw[size_madeCells];exact hi
  rw[Array.getElem?_eq_getElem hsz]
  simp only[madeCells,Array.getElem_map,Array.getElem_range]
  simp only[List.size_toArray,List.length_cons,List.length_nil,Nat.zero_add,Nat.reduceAdd,e3]
  rcases hq' with rfl|rfl|rfl|rfl|rfl|rfl|rfl|rfl|rfl <;> rfl
 ·rw[Array.getElem?_eq_none (by rw[size_madeCells];omega),List.getElem?_eq_none (by omega)]
section
variable {w w':World}{X:XP}{k:Lk}{m:Mc}
theorem Ex.Ci (h:Ex w X k m){t j:Nat}(ht:t<k.n)(hj:j<8){v:Int}(hv:0<=v/\v<4294967296):Ex (w.setCell ⟨X.kb,t*9+j,O⟩ (I N v)) X k { m with cs:=eO m.cs t ⟨(m.cs t).xs.set j v,(m.cs t).pc⟩ }:=by
 have hW:ab w (w.setCell ⟨X.kb,t*9+j,O⟩ (I N v)) (fun i=>i=X.kb):=(ab.refl _ _).put _ _ _ (.inl rfl)
 obtain⟨fr,os,cn,hp,hs⟩:=h.d9
 have hb:=h.cores.put (t*9+j) (I N v)
 rw[List.setIfInBounds_toArray,s8 h.mc.cs ht hj hv] at hb
 refine⟨h.ptr.within hW (Bk.aj h.ptr h.cores (by decide)),aq h.code hW (fun g e e2=>?_),hb,h.mem.within hW (Bk.aj h.mem.ptr h.cores (by decide)) (Bk.aj h.mem.cel.ptr h.cores (by decide)) (Bk.aj h.mem.cel.row h.cores (by decide)) (Bk.aj h.mem.row h.cores (by decide)),
  ⟨fr,os,cn,hp.kept hW (Bk.aj hp.ptr h.cores (by decide)) (Bk.aj hp.row h.cores (by decide)) (fun i hi e=>hp.dN h.cores (by decide) (by decide) (e ▸ hi)),hs⟩,h.lk,⟨h.mc.ws,h.mc.len,eT h.mc.cs ((h.mc.cs t ht).put j hv) t⟩⟩
 obtain⟨cs',hcs⟩:=aZ h.code e
 exact Bk.aj hcs h.cores (by decide) e2
def Fj (w:World)(k:Lk)(init r7:List Int)(e:Ending)(w':World):Prop:=
 ∃ X,e=.returned (.tuple #[S (Z ⟨X.x,0,O⟩),I Q 0])/\Ex w' X k (oN k init r7)/\Below w.heap.size w w'/\∀ i,X.Own k.n i->w.heap.size<=i
theorem yn:(Tryz.prog.info? 108).map (fun i=>(i.zero,i.size,i.bytes))=Z (Z (.agg #[I N 0,I N 0,I N 0,I N 0,I N 0,I N 0,I N 0,I N 0,I Q 0]),9,40):=by kernel_rfl
def EQ (w:World)(k:Lk)(v:Value)(W:World):Prop:=∃ sl,v=.agg #[sl,I Q k.lo,I Q k.un]/\W.ownsRow w.heap.size 119 8 sl k.l.length (bH k.l)
def EP (w:World)(k:Lk)(v:Value)(W:World):Prop:=∃ b,v=V (Z ⟨b,0,O⟩) k.n k.n/\w.heap.size<=b/\Bk W b 108 (eS (fun _=>⟨[0,0,0,0,0,0,0,0],0⟩) k.n).toArray
def EO (w:World)(k:Lk)(p pp:Nat)(v:Value)(W:World):Prop:=∃ sl b,v=.agg #[sl,I Q k.lo,I Q k.un,S (Z ⟨p,0,O⟩),S (Z ⟨pp,0,O⟩),V (Z ⟨b,0,O⟩) k.n k.n]/\W.ownsRow w.heap.size 119 8 sl k.l.length (bH k.l)/\w.heap.size<=b/\Bk W b 108 (eS (fun _=>⟨[0,0,0,0,0,0,0,0],0⟩) k.n).toArray
def Dx (w:World)(k:Lk)(p pp:Nat)(v:Value)(W:World):Prop:=∃ x sl b,v=S (Z ⟨x,0,O⟩)/\w.heap.size<=x/\Bk W x 105 #[sl,I Q k.lo,I Q k.un,S (Z ⟨p,0,O⟩),S (Z ⟨pp,0,O⟩),V (Z ⟨b,0,O⟩) k.n k.n]/\W.ownsRow w.heap.size 119 8 sl k.l.length (bH k.l)/\w.heap.size<=b/\Bk W b 108 (eS (fun _=>⟨[0,0,0,0,0,0,0,0],0⟩) k.n).toArray
theorem EQ.below {W W':World}{v:Value}(h:EQ w k v W)(hb:Below W.heap.size W W'):EQ w k v W':=by
 obtain⟨sl,e,h⟩:=h
 exact⟨sl,e,dJ h hb⟩
theorem EP.below {W W':World}{v:Value}(h:EP w k v W)(hb:Below W.heap.size W W'):EP w k v W':=by
 obtain⟨b,e,h1,h2⟩:=h
 exact⟨b,e,h1,(hb.block _ h2.lt).trans h2⟩
theorem EO.below {W W':World}{p pp:Nat}{v:Value}(h:EO w k p pp v W)(hb:Below W.heap.size W W'):EO w k p pp v W':=by
 obtain⟨sl,b,e,h1,h2,h3⟩:=h
 exact⟨sl,b,e,dJ h1 hb,h2,(hb.block _ h3.lt).trans h3⟩
theorem Dx.below {W W':World}{p pp:Nat}{v:Value}(h:Dx w k p pp v W)(hb:Below W.heap.size W W'):Dx w k p pp v W':=by
 obtain⟨x,sl,b,e,h1,h2,h3,h4,h5⟩:=h
 exact⟨x,sl,b,e,h1,(hb.block _ h2.lt).trans h2,dJ h3 hb,h4,(hb.block _ h5.lt).trans h5⟩
theorem EZ {v:Value}{init r7:List Int}(hk:mz k)(hv:Sv w v ⟨k.l,k.lo,k.un⟩ k.zs init r7 k.each)(hi:init.length=jU k.zs)(hiu:fM init)(hr:r7.length=k.n)(hru:fM r7):
 Calls Tryz.prog 19 #[v,I Q k.n] w (Fj w k init r7):=by
 have HI:=T (And.intro hi (And.intro hiu (And.intro hr hru)))
 clear hi hiu hr hru
 have hn1:=hk.n1
 have hn64:=hk.n64
 have hl64:=hk.parts.2.1
 obtain⟨aL,cL,aS,cS,aI,cI,aR,cR,rfl,hpv,hgS,hgI,hgR,hm1,hm2,hm3⟩:=hv
 simp only at hpv ⊢
 obtain⟨i0,hi0,hz0,hz1,hz2⟩:=info_parts yn
 have hmk:=fun W:World=>run_make (P:=Tryz.prog) W 103 108 i0 _ Tryz.underlying103 hi0 hz0 .i64 .i64 k.n k.n (by omega) (by omega) (by rw[hz2];omega) (by omega)
 rw[hz1] at hmk
 clear hi0 hz0 hz1 hz2
 have HMK:=T hmk
 clear hmk
 have q0:=Bk.made w 29 #[V aL k.l.length cL,I Q k.lo,I Q k.un,V aS k.zs.length cS,V aI init.length cI,I Q k.each,V aR r7.length cR]
 have b0:Below w.heap.size w (w.alloc (.cells #[V aL k.l.length cL,I Q k.lo,I Q k.un,V aS k.zs.length cS,V aI init.length cI,I Q k.each,V aR r7.length cR] 29)):=(R _ _).alloc (Nat.le_refl _) _
 go_enter Tryz.func19,Tryz.ntmps19
 go_upto_region 1 with fail
 generalize w.alloc (.cells #[V aL k.l.length cL,I Q k.lo,I Q k.un,V aS k.zs.length cS,V aI init.length cI,I Q k.each,V aR r7.length cR] 29)=y at *
 have hR:=tf ⟨k.l,k.lo,k.un⟩ _ y (hpv.below b0) hk.k32
 rw[hk.code] at hR
 obtain⟨y0,y1,y2,y3,y4,y5,y6⟩:=q0.Bg
 go_wp2_with fail
 refine hR.mono ?_
 rintro e z1 ⟨rfl,hz⟩
 have q1:=(hz.block _ q0.lt).trans q0
 have b1:=b0.trans (hz.mono b0.size)
 clear q0 b0 hz hR y0 y1 y2 y3 y4 y5 y6
 have hlen:((r7.length:Int) != (k.n:Int))=false:=by rw[HI.out.2.2.1];simp
 obtain⟨y0,y1,y2,y3,y4,y5,y6⟩:z1.cell? ⟨w.heap.size,0,O⟩=Z (V aL k.l.length cL)/\z1.cell? ⟨w.heap.size,1,O⟩=Z (I Q k.lo)/\z1.cell? ⟨w.heap.size,2,O⟩=Z (I Q k.un)/\z1.cell? ⟨w.heap.size,3,O⟩=Z (V aS k.zs.length cS)/\z1.cell? ⟨w.heap.size,4,O⟩=Z (V aI init.length cI)/\z1.cell? ⟨w.heap.size,5,O⟩=Z (I Q k.each)/\z1.cell? ⟨w.heap.size,6,O⟩=Z (V aR r7.length cR):=⟨Bk.cell q1 0,Bk.cell q1 1,Bk.cell q1 2,Bk.cell q1 3,Bk.cell q1 4,Bk.cell q1 5,Bk.cell q1 6⟩
 have hM:=Fa (hgS.below b1) (hgI.below b1) hk.zs HI.out.1.symm (by rw[HI.out.1];exact hk.few) HI.out.2.1 cS cI
 go_wp2_with fail
 refine hM.mono ?_
 rintro e z2 ⟨p,q,g,s,rfl,hMm,hbnd,hgr⟩
 have hz:=aP hgr
 have q2:=(hz.block _ (Bk.lt q1)).trans q1
 have b2:=b1.trans (hz.mono b1.size)
 clear hM hgr y0 y1 y2 y3 y4 y5 y6 hz q1 hlen
 have hbw:=b1.size
 obtain⟨y0,y1,y2,y3,y4,y5,y6⟩:z2.cell? ⟨w.heap.size,0,O⟩=Z (V aL k.l.length cL)/\z2.cell? ⟨w.heap.size,1,O⟩=Z (I Q k.lo)/\z2.cell? ⟨w.heap.size,2,O⟩=Z (I Q k.un)/\z2.cell? ⟨w.heap.size,3,O⟩=Z (V aS k.zs.length cS)/\z2.cell? ⟨w.heap.size,4,O⟩=Z (V aI init.length cI)/\z2.cell? ⟨w.heap.size,5,O⟩=Z (I Q k.each)/\z2.cell? ⟨w.heap.size,6,O⟩=Z (V aR r7.length cR):=⟨Bk.cell q2 0,Bk.cell q2 1,Bk.cell q2 2,Bk.cell q2 3,Bk.cell q2 4,Bk.cell q2 5,Bk.cell q2 6⟩
 have hP:=D2 k.n k.each hn1 hn64 hk.each z2
 go_wp2_with fail
 refine hP.mono ?_
 rintro e z3 ⟨pp,M,rfl,hPl,hgr,hMn,hpn,hgn⟩
 have hz:=aP hgr
 have q3:=(hz.block _ (Bk.lt q2)).trans q2
 have b3:=b2.trans (hz.mono b2.size)
 replace hMm:=hMm.grown hgr
 clear hP hgr y0 y1 y2 y3 y4 y5 y6 hz q2
 have hbw2:=b2.size
 have hNW:Hid ((w.heap.size<=p/\w.heap.size<=q/\w.heap.size<=g/\w.heap.size<=s)/\w.heap.size<=pp/\w.heap.size<=M.g/\∀ i,M.Has k.n i->w.heap.size<=i):=T ⟨by omega,by omega,by omega,fun i hi=>Nat.le_trans hbw2 (hMn i hi)⟩
 clear hbnd hMn hpn hgn hbw hbw2 b1 b2
 have hPA:zj z3 pp k.n k.each M (oM k.n k.each):=⟨_,_,_,hPl,qA k.n k.each hn64 hk.each⟩
 clear hPl
 have HCP:=T (fun W (hW:Below w.heap.size w W)=>Ei ⟨k.l,k.lo,k.un⟩ _ W (hpv.below hW) (by show k.l.length<=1000;omega))
 go_upto_region 9 with fail
 refine cN [] (fun _ W=>Bk W w.heap.size 29 #[V aL k.l.length cL,I Q k.lo,I Q k.un,V aS k.zs.length cS,V aI init.length cI,I Q k.each,V aR r7.length cR]/\Below w.heap.size w W/\Below z3.heap.size z3 W) (fun _ _ _=>False) (fun vs=>{ tmps:=#[.agg #[V aL k.l.length cL,I Q k.lo,I Q k.un,V aS k.zs.length cS,V aI init.length cI,I Q (k.each:Int),V aR r7.length cR],I Q (k.n:Int),S (Z ⟨w.heap.size,0,O⟩),U,S O,I Q 0,S (Z ⟨p,0,O⟩),I Q 0,S (Z ⟨pp,0,O⟩),vs 9,U,U,S (Z ⟨w.heap.size,0,O⟩),.agg #[V aL k.l.length cL,I Q k.lo,I Q k.un],.bool true,.bool false,.bool false,S (Z ⟨w.heap.size,6,O⟩),V aR r7.length cR,I Q (r7.length:Int),I Q (k.n:Int),.bool false,.bool false,.tuple #[S (Z ⟨p,0,O⟩),I Q 0],S (Z ⟨w.heap.size,3,O⟩),V aS k.zs.length cS,S (Z ⟨w.heap.size,4,O⟩),V aI init.length cI,.tuple #[S (Z ⟨p,0,O⟩),I Q 0],S (Z ⟨p,0,O⟩),I Q 0,I Q 0,.bool false,.tuple #[S (Z ⟨pp,0,O⟩),I Q 0],I Q (k.n:Int),S (Z ⟨w.heap.size,5,O⟩),I Q (k.each:Int),.tuple #[S (Z ⟨pp,0,O⟩),I Q 0],S (Z ⟨pp,0,O⟩),I Q 0,I Q 0,.bool false,vs 0,vs 1,vs 2,vs 3,vs 4,vs 5,vs 6,vs 7,vs 8,U,U,U,U,U,U,U,U,U,U,U,U,U,U,U,U,U,U,U],defers:=[] }) (lh [(2,(EQ w k)),(6,(EP w k)),(7,(EO w k p pp)),(8,(Dx w k p pp)),(9,(Dx w k p pp))] [S (Z ⟨w.heap.size,0,O⟩),.agg #[V aL k.l.length cL,I Q k.lo,I Q k.un],U,S (Z ⟨p,0,O⟩),S (Z ⟨pp,0,O⟩),I Q (k.n:Int),U,U,U,U]) ?ghm ?ghr ?ghc ?ghnd ?ghlit ?gh0 ?ghW ?ghF ?ghS ?gops ?gdone
 case ghm=>kernel_rfl
 case ghr=>kernel_rfl
 case ghc=>kernel_rfl
 case ghnd=>decide
 case ghlit=>intro vs;rfl
 case gh0=>exact⟨q3,b3,R _ _⟩
 case ghW=>exact fun kk W W2 h hb=>⟨(hb.block _ (Bk.lt h.1)).trans h.1,h.2.1.trans (hb.mono h.2.1.size),h.2.2.trans (hb.mono h.2.2.size)⟩
 case ghF=>exact dz (by
  intro p0 hp
  simp only[List.mem_cons,List.not_mem_nil,or_false] at hp
  rcases hp with rfl|rfl|rfl|rfl|rfl
  ·exact fun v W W2 h hb=>EQ.below h hb
  ·exact fun v W W2 h hb=>EP.below h hb
  ·exact fun v W W2 h hb=>EO.below h hb
  ·exact fun v W W2 h hb=>Dx.below h hb
  ·exact fun v W W2 h hb=>Dx.below h hb)
 case ghS=>exact fun kk W W2 _ hs i v h=>hs.elim
 case gops=>
  refine⟨?_,?_,?_,?_,?_,?_,?_,?_,?_,?_,trivial⟩
  ·intro vs W kk h1 h2 hW hd
   obtain rfl:kk=0:=Nat.le_zero.1 h2
   refine aa rfl ?_
   clear hd
   go_simp
   exact⟨rfl,R _ _⟩
  ·intro vs W kk h1 h2 hW hd
   obtain rfl:kk=0:=Nat.le_zero.1 h2
   refine aa rfl ?_
   have e0:vs 0=S (Z ⟨w.heap.size,0,O⟩):=hd 0 (by decide)
   have hq:Bk W w.heap.size 29 #[V aL k.l.length cL,I Q k.lo,I Q k.un,V aS k.zs.length cS,V aI init.length cI,I Q k.each,V aR r7.length cR]:=hW.1;obtain⟨y0,y1,y2⟩:=hq.kX;clear hq
   clear hd
   go_simp
   exact⟨rfl,R _ _⟩
  ·intro vs W kk h1 h2 hW hd
   obtain rfl:kk=0:=Nat.le_zero.1 h2
   refine aa rfl ?_
   have e1:vs 1=.agg #[V aL k.l.length cL,I Q k.lo,I Q k.un]:=hd 1 (by decide)
   have HS:=T (HCP.out W hW.2.1)
   have hsz:=hW.2.1.size
   clear hd
   go_simp
   refine HS.out.mono ?_
   rintro e zz ⟨v9,he,⟨sl,e9,ho⟩,hb⟩
   exact⟨v9,he,⟨sl,e9,World.ownsRow.mono (base':=w.heap.size) ho hsz⟩,hb⟩
  ·intro vs W kk h1 h2 hW hd
   obtain rfl:kk=0:=Nat.le_zero.1 h2
   refine aa rfl ?_
   clear hd
   go_simp
   exact⟨rfl,R _ _⟩
  ·intro vs W kk h1 h2 hW hd
   obtain rfl:kk=0:=Nat.le_zero.1 h2
   refine aa rfl ?_
   clear hd
   go_simp
   exact⟨rfl,R _ _⟩
  ·intro vs W kk h1 h2 hW hd
   obtain rfl:kk=0:=Nat.le_zero.1 h2
   refine aa rfl ?_
   clear hd
   go_simp
   exact⟨rfl,R _ _⟩
  ·intro vs W kk h1 h2 hW hd
   obtain rfl:kk=0:=Nat.le_zero.1 h2
   refine aa rfl ?_
   have e5:vs 5=I Q (k.n:Int):=hd 5 (by decide)
   have hmk:=HMK.out W
   have hsz:=hW.2.1.size
   clear hd
   go_simp
   exact⟨⟨W.heap.size,rfl,hsz,by rw[<-sx];exact Bk.made _ _ _⟩,(R _ _).alloc (Nat.le_refl _) _⟩
  ·intro vs W kk h1 h2 hW hd
   obtain rfl:kk=0:=Nat.le_zero.1 h2
   refine aa rfl ?_
   have e3:vs 3=S (Z ⟨p,0,O⟩):=hd 3 (by decide)
   have e4:vs 4=S (Z ⟨pp,0,O⟩):=hd 4 (by decide)
   obtain⟨sl,e2,ho⟩:EQ w k (vs 2) W:=hd 2 (by decide)
   obtain⟨kb,e6,hkb,hk6⟩:EP w k (vs 6) W:=hd 6 (by decide)
   clear hd
   go_simp
   exact⟨⟨sl,kb,rfl,ho,hkb,hk6⟩,R _ _⟩
  ·intro vs W kk h1 h2 hW hd
   obtain rfl:kk=0:=Nat.le_zero.1 h2
   refine aa rfl ?_
   obtain⟨sl,kb,e7,ho,hkb,hk6⟩:EO w k p pp (vs 7) W:=hd 7 (by decide)
   have hsz:=hW.2.1.size
   clear hd
   go_simp
   exact⟨⟨W.heap.size,sl,kb,rfl,hsz,Bk.made _ _ _,aq ho ((ab.refl _ (fun _=>False)).alloc _) (by simp),hkb,Bk.alloc hk6 _⟩,(R _ _).alloc (Nat.le_refl _) _⟩
  ·intro vs W kk h1 h2 hW hd
   obtain rfl:kk=0:=Nat.le_zero.1 h2
   refine aa rfl ?_
   have h8:Dx w k p pp (vs 8) W:=hd 8 (by decide)
   clear hd
   go_simp
   exact⟨h8,R _ _⟩
 case gdone=>
  intro vs W hW hf
  have f0:vs 0=S (Z ⟨w.heap.size,0,O⟩):=hf 0 (by decide)
  have f1:vs 1=.agg #[V aL k.l.length cL,I Q k.lo,I Q k.un]:=hf 1 (by decide)
  have f3:vs 3=S (Z ⟨p,0,O⟩):=hf 3 (by decide)
  have f4:vs 4=S (Z ⟨pp,0,O⟩):=hf 4 (by decide)
  have f5:vs 5=I Q (k.n:Int):=hf 5 (by decide)
  simp only[f0,f1,f3,f4,f5]
  clear f0 f1 f3 f4 f5
  have h9:Dx w k p pp (vs 9) W:=hf 9 (by decide)
  obtain⟨x,sl,kb,e9,hx,hBx,ho,hkb,hBk⟩:=h9
  simp only[e9]
  clear hf
  generalize vs 2=w2 at *
  generalize vs 6=w6 at *
  generalize vs 7=w7 at *
  generalize vs 8=w8 at *
  obtain⟨hqW,hbW,hzW⟩:=hW
  obtain⟨fr0,os0,cn0,hPl,hSm⟩:=hPA
  have hX:Ex W ⟨x,sl,kb,p,q,g,s,pp,M⟩ k { oN k init r7 with cs:=Bl r7 0 }:=by
   refine⟨hBx,World.ownsRow.mono (base':=0) ho (Nat.zero_le _),?_,hMm.grown (bN hzW),⟨fr0,os0,cn0,hPl.grown (bN hzW),hSm⟩,hk,⟨HI.out.2.1,HI.out.1,?_⟩⟩
   ·rw[BJ];exact hBk
   ·intro t ht
    rw[BJ]
    exact⟨rfl,fM.fX 8⟩
  have hOwn:Hid (∀ i,XP.Own ⟨x,sl,kb,p,q,g,s,pp,M⟩ k.n i->w.heap.size<=i):=T fun i hi=>by
   obtain⟨⟨n1,n2,n3,n4⟩,n5,n6,n7⟩:=hNW.out
   rcases hi with e | e | e | e | e | e | e | e | e | e
   ·simp only at e;omega
   ·exact(World.ownsRow.lt ho i e).1
   ·simp only at e;omega
   ·simp only at e;omega
   ·simp only at e;omega
   ·simp only at e;omega
   ·simp only at e;omega
   ·simp only at e;omega
   ·simp only at e;omega
   ·exact n7 i e
  have hqW6:Hid (W.cell? ⟨w.heap.size,6,O⟩=Z (V aR r7.length cR)):=T (Bk.cell hqW 6)
  clear hBx ho hBk hMm hPl hSm hqW hzW q3 b3 hNW HCP HMK hx hkb
  have c5x:W.cell? ⟨w.heap.size,6,O⟩=Z (V aR r7.length cR):=hqW6.out
  go_wp2
  go_loopw [54] (fun i wr=>∃ j:Nat,j<=k.n/\i=I Q j/\Ex wr ⟨x,sl,kb,p,q,g,s,pp,M⟩ k { oN k init r7 with cs:=Bl r7 j }/\Below w.heap.size w wr) (fun i _=>k.n-(intOf i).toNat)
  case atStart=>exact⟨0,Nat.zero_le _,rfl,hX,hbW⟩
  case round=>
   clear hX hbW c5x
   obtain⟨j,hj,rfl,hX,hbr⟩:=hrel
   by_cases hlt:j<k.n
   ·have hji:(j:Int)<k.n:=by omega
    have hrl:(j:Int)<r7.length:=by rw[HI.out.2.2.1];omega
    have hrl2:j<r7.length:=by rw[HI.out.2.2.1];omega
    obtain⟨b',off,rfl,hcell⟩:=(hgR.below hbr).here hrl2
    have hc5:wr.cell? ⟨x,5,O⟩=Z (V (Z ⟨kb,0,O⟩) k.n k.n):=hX.c5
    have hc7:wr.cell? ⟨kb,j*9+7,O⟩=Z (I N 0):=(hX.uo hlt (j:=7) (by omega)).trans (by unfold Bl;simp[bQ])
    have hz7:=hX.free
    have hst:=hX.Ci hlt (j:=7) (by omega) (HI.out.2.2.2.at_ j)
    have HST:Hid (Ex (wr.setCell ⟨kb,j*9+7,O⟩ (I N (aG r7 j))) ⟨x,sl,kb,p,q,g,s,pp,M⟩ k { oN k init r7 with cs:=Bl r7 (j+1) }):=T (by rw[<-ym];exact hst)
    have HBR:=T (hbr.setCell (p:=⟨kb,j*9+7,O⟩) (hOwn.out kb (.inr (.inr (.inl rfl)))) (I N (aG r7 j)))
    clear hst hX hbr
    go_wp2
    go_roundw
    case rel=>exact⟨j+1,by omega,by go_num,HST.out,HBR.out⟩
    case measure=>simp[intOf];omega
   ·obtain rfl:j=k.n:=by omega
    have hrl:¬ (k.n:Int)<r7.length:=by rw[HI.out.2.2.1];omega
    rw[AX (init:=init) HI.out.2.2.1] at hX
    go_wp2
    go_ret2
    exact⟨_,rfl,hX,hbr,hOwn.out⟩
end
