import Derived.Test.YtieiifdhdjhnoaaGreatDoorQRuB
import Derived.Test.YtieiifdhdjhnoaaGreatDoorQWdA
set_option linter.unusedVariables false
set_option maxHeartbeats 4000000
set_option maxRecDepth 100000
open Go.Value renaming int->I,slice->Z,pointer->P
open Go.IntKind renaming i64->Q
open Option renaming none->N,some->O
open Go.Obj renaming cells->S
open Go.Lib renaming hid->T
open Go.RowKit.Below renaming refl->U
open Nat renaming le_refl->K
open Go renaming undef->J
namespace Go.Proofs.YtieiifdhdjhnoaaGreatDoor
open Go.ChangeShapes Go.WideShapes Go.ChangeAt Go.RowKit
theorem yM:(Tryz.prog.info? 111).map (fun i=>(i.zero,i.size,i.bytes))=O (O (.agg #[I Q 0,I Q 0,I Q 0,I Q 0,I Q 0,I Q 0,I Q 0,I Q 0,I Q 0]),9,72):=by kernel_rfl
theorem Ae (xs:List Int)(pc:Int):∀ u∈dE xs pc,u.oneCell'=true:=by
 intro u hu
 simp only[dE,List.mem_append,List.mem_map,List.mem_singleton] at hu
 rcases hu with ⟨x,_,rfl⟩ | rfl <;> rfl
def BM (w:World)(base:Nat)(k:Lk)(init r7:List Int)(e:Ending)(w':World):Prop:=
 ∃ Y:YP,e=.returned (P (O ⟨Y.y,0,N⟩))/\Ey w' Y k (zA k init r7)/\Below w.heap.size w w'/\∀ i,Y.Own k.n i->base<=i/\(Y.cv.ownBlock=O i\/w.heap.size<=i)
def GI (w:World)(k:Lk)(v:Value)(W:World):Prop:=∃ x R,v=P (O ⟨x,0,N⟩)/\Rf W x k.n k.each R (rG k.n k.each).free (rG k.n k.each).gen (rG k.n k.each).out/\(∀ i,R.Has k.n i->w.heap.size<=i)/\w.heap.size<=x
def GH (w:World)(k:Lk)(cv cl:Value)(v:Value)(W:World):Prop:=∃ x R,v=.agg #[cv,I Q k.lo,I Q k.un,cl,Z N 0 0,P (O ⟨x,0,N⟩),Z N 0 0,I Q 0]/\Rf W x k.n k.each R (rG k.n k.each).free (rG k.n k.each).gen (rG k.n k.each).out/\(∀ i,R.Has k.n i->w.heap.size<=i)/\w.heap.size<=x
def Ft (w:World)(base:Nat)(k:Lk)(cs:Nat->zE)(v:Value)(W:World):Prop:=∃ Y:YP,v=P (O ⟨Y.y,0,N⟩)/\Y.wl=Z N 0 0/\Y.kl=Z N 0 0/\ud w base k Y [] cs 0 W
theorem GI.below {w:World}{k:Lk}{v:Value}{W W2:World}(h:GI w k v W)(hb:Below W.heap.size W W2):GI w k v W2:=by
 obtain⟨x,R,e,h1,h2⟩:=h
 exact⟨x,R,e,h1.grown (eR hb),h2⟩
theorem GH.below {w:World}{k:Lk}{cv cl v:Value}{W W2:World}(h:GH w k cv cl v W)(hb:Below W.heap.size W W2):GH w k cv cl v W2:=by
 obtain⟨x,R,e,h1,h2⟩:=h
 exact⟨x,R,e,h1.grown (eR hb),h2⟩
theorem Ft.below {w:World}{base:Nat}{k:Lk}{cs:Nat->zE}{v:Value}{W W2:World}(h:Ft w base k cs v W)(hb:Below W.heap.size W W2):Ft w base k cs v W2:=by
 obtain⟨Y,e,e1,e2,h⟩:=h
 exact⟨Y,e,e1,e2,h.below hb⟩
section
variable {w w':World}{k:Lk}
theorem Fw {base:Nat}{v:Value}{init r7:List Int}(hb:base<=w.heap.size)(hk:gH k)(hv:Rv base w v ⟨k.l,k.lo,k.un⟩ k.zs init r7 k.each)(hi:init.length=jP k.zs)(hiu:gF init)(hr:r7.length=k.n)(hru:gF r7):
 Calls Tryz.prog 20 #[v,I Q k.n] w (BM w base k init r7):=by
 have hn1:=hk.n1
 have hn64:=hk.n64
 have hi8:init.length<=8192:=by rw[hi];exact hk.few
 obtain⟨sl,aS,cS,aI,cI,aR,cR,rfl,ho,hgS,hgI,hgR,hm1,hm2,hm3⟩:=hv
 simp only at ho ⊢
 obtain⟨aL,cL,rfl,_⟩:=aX ho
 obtain⟨cs,hcs⟩:∃ cs,cs=(zA k init r7).cs:=⟨_,rfl⟩
 have HI:=T (And.intro hi (And.intro hiu (And.intro hr (And.intro hru (And.intro hk hcs)))))
 have HO:=T (fun W (hW:Below w.heap.size w W)=>oh (dw ho hW))
 have HOB:Hid (∀ g,(Value.slice aL k.l.length cL).ownBlock=O g->base<=g):=T fun g e=>(World.ownsRow.lt ho g e).1
 have HGI:=T (fun W (hW:Below w.heap.size w W)=>hgI.below hW)
 have HGR:=T hgR
 have HPN:=T (fun W=>FK k.n k.each hn1 hn64 hk.each W)
 clear hi hiu hr hru hcs ho
 have q0:=Bk.made w 36 #[Z aL k.l.length cL,I Q k.lo,I Q k.un,Z aS k.zs.length cS,Z aI init.length cI,I Q k.each,Z aR r7.length cR]
 have b0:Below w.heap.size w (w.alloc (S #[Z aL k.l.length cL,I Q k.lo,I Q k.un,Z aS k.zs.length cS,Z aI init.length cI,I Q k.each,Z aR r7.length cR] 36)):=(U _ _).alloc (K _) _
 go_enter Tryz.func20,Tryz.ntmps20
 go_upto_region 1 with fail
 generalize w.alloc (S #[Z aL k.l.length cL,I Q k.lo,I Q k.un,Z aS k.zs.length cS,Z aI init.length cI,I Q k.each,Z aR r7.length cR] 36)=y at *
 have hC:=Bh (hgS.below b0) hm1 cS
 have y3:y.cell? ⟨w.heap.size,3,N⟩=O (Z aS k.zs.length cS):=q0.cell 3
 go_wp2_with fail
 refine hC.mono ?_
 rintro e z ⟨hgr,hcase⟩
 obtain⟨FL,vc,rfl,hCs⟩:∃ FL vc,e=.returned (.tuple #[vc,.bool FL])/\Cs y.heap.size z vc (oX k.zs):=by
  rcases hcase with ⟨_,h⟩ | ⟨h,_⟩
  ·exact⟨_,h⟩
  ·exact absurd hk.zs h
 have hz:=aQ hgr
 have q1:=(hz.block _ q0.lt).trans q0
 have b1:=b0.trans (hz.mono b0.size)
 obtain⟨va,vcap,rfl,-⟩:=hCs.is
 rw[jh] at *
 have HCS:Hid (∀ W,Below z.heap.size z W->Cs 0 W (Z va (jP k.zs) vcap) (oX k.zs)):=T fun W hW=>oh (dw hCs hW)
 have HCB:Hid (∀ g,(Value.slice va (jP k.zs) vcap).ownBlock=O g->w.heap.size<=g):=T fun g e=>Nat.le_trans b0.size (World.ownsRow.lt hCs g e).1
 clear hC hgr hcase y3 hz q0 b0 hCs
 go_upto_region 2 with fail
 refine dT [] (fun _ W=>Bk W w.heap.size 36 #[Z aL k.l.length cL,I Q k.lo,I Q k.un,Z aS k.zs.length cS,Z aI init.length cI,I Q k.each,Z aR r7.length cR]/\Below w.heap.size w W/\Below z.heap.size z W) (fun _ _ _=>False) (fun vs=>{ tmps:=#[.agg #[Z aL k.l.length cL,I Q k.lo,I Q k.un,Z aS k.zs.length cS,Z aI init.length cI,I Q (k.each:Int),Z aR r7.length cR],I Q (k.n:Int),P (O ⟨w.heap.size,0,N⟩),J,P N,Z va (jP k.zs) vcap,.bool FL,vs 9,J,J,J,.tuple #[Z va (jP k.zs) vcap,.bool FL],P (O ⟨w.heap.size,3,N⟩),Z aS k.zs.length cS,.tuple #[Z va (jP k.zs) vcap,.bool FL],Z va (jP k.zs) vcap,.bool FL,vs 0,vs 1,vs 2,vs 3,vs 4,vs 5,vs 6,vs 7,vs 8,J,J,J,J,J,J,J,J,J,J,J,J,J,J,J,J,J,J,J,J,J,J,J,J,J,J,J,J,J,J,J,J,J],defers:=[] }) (nD [(6,(GI w k)),(7,(GH w k (Z aL k.l.length cL) (Z va (jP k.zs) vcap))),(8,(Ft w base k cs)),(9,(Ft w base k cs))] [P (O ⟨w.heap.size,0,N⟩),.agg #[Z aL k.l.length cL,I Q k.lo,I Q k.un],Z va (jP k.zs) vcap,I Q (k.n:Int),P (O ⟨w.heap.size,5,N⟩),I Q k.each,J,J,J,J]) ?ghm ?ghr ?ghc ?ghnd ?ghlit ?gh0 ?ghW ?ghF ?ghS ?gops ?gdone
 case ghm=>kernel_rfl
 case ghr=>kernel_rfl
 case ghc=>kernel_rfl
 case ghnd=>decide
 case ghlit=>intro vs;rfl
 case gh0=>exact⟨q1,b1,U _ _⟩
 case ghW=>exact fun kk W W2 h hb=>⟨(hb.block _ (Bk.lt h.1)).trans h.1,h.2.1.trans (hb.mono h.2.1.size),h.2.2.trans (hb.mono h.2.2.size)⟩
 case ghF=>exact dW (by
  intro p0 hp
  simp only[List.mem_cons,List.not_mem_nil,or_false] at hp
  rcases hp with rfl|rfl|rfl|rfl
  ·exact fun v W W2 h hb=>GI.below h hb
  ·exact fun v W W2 h hb=>GH.below h hb
  ·exact fun v W W2 h hb=>Ft.below h hb
  ·exact fun v W W2 h hb=>Ft.below h hb)
 case ghS=>exact fun kk W W2 _ hs i v h=>hs.elim
 case gops=>
  refine⟨?_,?_,?_,?_,?_,?_,?_,?_,?_,?_,trivial⟩
  ·intro vs W kk h1 h2 hW hd
   obtain rfl:kk=0:=Nat.le_zero.1 h2
   refine aa rfl ?_
   clear hd
   go_simp
   exact⟨rfl,U _ _⟩
  ·intro vs W kk h1 h2 hW hd
   obtain rfl:kk=0:=Nat.le_zero.1 h2
   refine aa rfl ?_
   have e0:vs 0=P (O ⟨w.heap.size,0,N⟩):=hd 0 (by decide)
   have hq:Bk W w.heap.size 36 #[Z aL k.l.length cL,I Q k.lo,I Q k.un,Z aS k.zs.length cS,Z aI init.length cI,I Q k.each,Z aR r7.length cR]:=hW.1;obtain⟨y0,y1,y2,y3,y4,y5,y6⟩:=hq.lZ;clear hq
   clear hd
   go_simp
   exact⟨rfl,U _ _⟩
  ·intro vs W kk h1 h2 hW hd
   obtain rfl:kk=0:=Nat.le_zero.1 h2
   refine aa rfl ?_
   clear hd
   go_simp
   exact⟨rfl,U _ _⟩
  ·intro vs W kk h1 h2 hW hd
   obtain rfl:kk=0:=Nat.le_zero.1 h2
   refine aa rfl ?_
   clear hd
   go_simp
   exact⟨rfl,U _ _⟩
  ·intro vs W kk h1 h2 hW hd
   obtain rfl:kk=0:=Nat.le_zero.1 h2
   refine aa rfl ?_
   clear hd
   go_simp
   exact⟨rfl,U _ _⟩
  ·intro vs W kk h1 h2 hW hd
   obtain rfl:kk=0:=Nat.le_zero.1 h2
   refine aa rfl ?_
   have e4:vs 4=P (O ⟨w.heap.size,5,N⟩):=hd 4 (by decide)
   have hq:Bk W w.heap.size 36 #[Z aL k.l.length cL,I Q k.lo,I Q k.un,Z aS k.zs.length cS,Z aI init.length cI,I Q k.each,Z aR r7.length cR]:=hW.1;obtain⟨y0,y1,y2,y3,y4,y5,y6⟩:=hq.lZ;clear hq
   clear hd
   go_simp
   exact⟨rfl,U _ _⟩
  ·intro vs W kk h1 h2 hW hd
   obtain rfl:kk=0:=Nat.le_zero.1 h2
   refine aa rfl ?_
   have e3:vs 3=I Q (k.n:Int):=hd 3 (by decide)
   have e5:vs 5=I Q k.each:=hd 5 (by decide)
   have HS:=T (HPN.out W)
   have hsz:=hW.2.1.size
   clear hd
   go_simp
   refine HS.out.mono ?_
   rintro e zz ⟨x,R,rfl,hM⟩
   exact⟨_,rfl,⟨x,R,rfl,hM.rf,fun i hi=>Nat.le_trans hsz (hM.new i hi),Nat.le_trans hsz hM.newx⟩,aQ hM.gr⟩
  ·intro vs W kk h1 h2 hW hd
   obtain rfl:kk=0:=Nat.le_zero.1 h2
   refine aa rfl ?_
   have e1:vs 1=.agg #[Z aL k.l.length cL,I Q k.lo,I Q k.un]:=hd 1 (by decide)
   have e2:vs 2=Z va (jP k.zs) vcap:=hd 2 (by decide)
   obtain⟨x,R,e6,h6⟩:GI w k (vs 6) W:=hd 6 (by decide)
   clear hd
   go_simp
   exact⟨⟨x,R,rfl,h6⟩,U _ _⟩
  ·intro vs W kk h1 h2 hW hd
   obtain rfl:kk=0:=Nat.le_zero.1 h2
   refine aa rfl ?_
   obtain⟨x,R,e7,h6,h6n,h6x⟩:GH w k (Z aL k.l.length cL) (Z va (jP k.zs) vcap) (vs 7) W:=hd 7 (by decide)
   have hBW:=hW.2.1
   have hZW:=hW.2.2
   have hA:Below W.heap.size W (W.alloc (S #[Z aL k.l.length cL,I Q k.lo,I Q k.un,Z va (jP k.zs) vcap,Z N 0 0,P (O ⟨x,0,N⟩),Z N 0 0,I Q 0] 90)):=(U _ _).alloc (K _) _
   clear hd
   go_simp
   refine⟨⟨⟨W.heap.size,Z aL k.l.length cL,Z va (jP k.zs) vcap,Z N 0 0,x,Z N 0 0,0,R⟩,rfl,rfl,rfl,Bk.made _ _ _,HO.out _ (hBW.trans (hA.mono hBW.size)),HCS.out _ (hZW.trans (hA.mono hZW.size)),ef.nil _ _ _,h6.grown (eR hA),World.ownsRow_nil _ _ _ _,hBW.trans (hA.mono hBW.size),hBW.size,fun i hi=>?_⟩,hA⟩
   rcases hi with e | e | e | e | e | e | e
   ·rw[e];exact⟨Nat.le_trans hb hBW.size,.inr hBW.size⟩
   ·exact⟨HOB.out i e,.inl e⟩
   ·exact⟨Nat.le_trans hb (HCB.out i e),.inr (HCB.out i e)⟩
   ·cases e
   ·rw[e];exact⟨Nat.le_trans hb h6x,.inr h6x⟩
   ·cases e
   ·exact⟨Nat.le_trans hb (h6n i e),.inr (h6n i e)⟩
  ·intro vs W kk h1 h2 hW hd
   obtain rfl:kk=0:=Nat.le_zero.1 h2
   refine aa rfl ?_
   have h8:Ft w base k cs (vs 8) W:=hd 8 (by decide)
   clear hd
   go_simp
   exact⟨h8,U _ _⟩
 case gdone=>
  intro vs W hW hf
  have f0:vs 0=P (O ⟨w.heap.size,0,N⟩):=hf 0 (by decide)
  have f1:vs 1=.agg #[Z aL k.l.length cL,I Q k.lo,I Q k.un]:=hf 1 (by decide)
  have f2:vs 2=Z va (jP k.zs) vcap:=hf 2 (by decide)
  have f3:vs 3=I Q (k.n:Int):=hf 3 (by decide)
  have f4:vs 4=P (O ⟨w.heap.size,5,N⟩):=hf 4 (by decide)
  have f5:vs 5=I Q k.each:=hf 5 (by decide)
  simp only[f0,f1,f2,f3,f4,f5]
  clear f0 f1 f2 f3 f4 f5
  obtain⟨Y,e9,ew,ek,hN0⟩:Ft w base k cs (vs 9) W:=hf 9 (by decide)
  have q2:Bk W w.heap.size _ _:=hW.1
  simp only[e9]
  generalize vs 6=w6 at *
  generalize vs 7=w7 at *
  generalize vs 8=w8 at *
  have HY:=T (And.intro ew ek)
  clear hf e9 hW ew ek
  go_upto_region 3 with fail
  refine dT [7,10] (fun j W=>match j with | 0=>Bk W w.heap.size 36 #[Z aL k.l.length cL,I Q k.lo,I Q k.un,Z aS k.zs.length cS,Z aI init.length cI,I Q k.each,Z aR r7.length cR]/\ud w base k Y [] cs 0 W | 1=>Bk W w.heap.size 36 #[Z aL k.l.length cL,I Q k.lo,I Q k.un,Z aS k.zs.length cS,Z aI init.length cI,I Q k.each,Z aR r7.length cR]/\ud w base k Y [] cs 0 W | _=>Bk W w.heap.size 36 #[Z aL k.l.length cL,I Q k.lo,I Q k.un,Z aS k.zs.length cS,Z aI init.length cI,I Q k.each,Z aR r7.length cR]/\∃ wl,ud w base k { Y with wl:=wl } init cs 0 W) (fun j W W2=>match j with | 0=>Below W.heap.size W W2 | _=>ag W W2 (fun i=>i=Y.y)/\Bk W Y.y 90 #[Y.cv,I Q k.lo,I Q k.un,Y.cl,Z N 0 0,P (O ⟨Y.x,0,N⟩),Z N 0 0,I Q Y.ac]) (fun vs=>{ tmps:=#[.agg #[Z aL k.l.length cL,I Q k.lo,I Q k.un,Z aS k.zs.length cS,Z aI init.length cI,I Q (k.each:Int),Z aR r7.length cR],I Q (k.n:Int),P (O ⟨w.heap.size,0,N⟩),J,P N,Z va (jP k.zs) vcap,.bool FL,P (O ⟨Y.y,0,N⟩),J,J,J,.tuple #[Z va (jP k.zs) vcap,.bool FL],P (O ⟨w.heap.size,3,N⟩),Z aS k.zs.length cS,.tuple #[Z va (jP k.zs) vcap,.bool FL],Z va (jP k.zs) vcap,.bool FL,P (O ⟨w.heap.size,0,N⟩),.agg #[Z aL k.l.length cL,I Q k.lo,I Q k.un],Z va (jP k.zs) vcap,I Q (k.n:Int),P (O ⟨w.heap.size,5,N⟩),I Q (k.each:Int),w6,w7,w8,vs 0,vs 1,vs 2,vs 3,vs 4,vs 5,vs 6,vs 7,vs 8,vs 9,J,J,J,J,J,J,J,J,J,J,J,J,J,J,J,J,J,J,J,J,J,J,J],defers:=[] }) (nD [(7,(fun v W=>ef .u32 70 W v init/\∀ g,v.ownBlock=O g->w.heap.size<=g))] [P (O ⟨Y.y,0,N⟩),P (O ⟨Y.y,0,N⟩),P (O ⟨Y.y,0,N⟩),P (O ⟨Y.y,4,N⟩),Z N 0 0,P (O ⟨w.heap.size,4,N⟩),Z aI init.length cI,J,P (O ⟨Y.y,0,N⟩),P (O ⟨Y.y,4,N⟩),J]) ?ghm ?ghr ?ghc ?ghnd ?ghlit ?gh0 ?ghW ?ghF ?ghS ?gops ?gdone
  case ghm=>kernel_rfl
  case ghr=>kernel_rfl
  case ghc=>kernel_rfl
  case ghnd=>decide
  case ghlit=>intro vs;rfl
  case gh0=>exact⟨q2,hN0⟩
  case ghW=>exact fun kk W W2 h hb=>match kk,h with
   | 0,h=>⟨(hb.block _ (Bk.lt h.1)).trans h.1,h.2.below hb⟩
   | 1,h=>⟨(hb.block _ (Bk.lt h.1)).trans h.1,h.2.below hb⟩
   | _+2,⟨h1,wl,h2⟩=>⟨(hb.block _ (Bk.lt h1)).trans h1,wl,h2.below hb⟩
  case ghF=>exact dW (by
   intro p0 hp
   simp only[List.mem_cons,List.not_mem_nil,or_false] at hp
   rcases hp with rfl
   exact fun v W W2 h hb=>⟨h.1.within (af hb) (by simp),h.2⟩)
  case ghS=>exact fun kk W W2 _ hs i v h=>jq (R:=fun W W2=>Below W.heap.size W W2\/(ag W W2 (fun i=>i=Y.y)/\Bk W Y.y 90 #[Y.cv,I Q k.lo,I Q k.un,Y.cl,Z N 0 0,P (O ⟨Y.x,0,N⟩),Z N 0 0,I Q Y.ac])) (ps:=[(7,(fun v W=>ef .u32 70 W v init/\∀ g,v.ownBlock=O g->w.heap.size<=g))]) (l:=[P (O ⟨Y.y,0,N⟩),P (O ⟨Y.y,0,N⟩),P (O ⟨Y.y,0,N⟩),P (O ⟨Y.y,4,N⟩),Z N 0 0,P (O ⟨w.heap.size,4,N⟩),Z aI init.length cI,J,P (O ⟨Y.y,0,N⟩),P (O ⟨Y.y,4,N⟩),J]) (by
   intro p0 hp
   simp only[List.mem_cons,List.not_mem_nil,or_false] at hp
   rcases hp with rfl
   rintro v W W2 h (hs | hs)
   ·exact⟨h.1.within (af hs) (by simp),h.2⟩
   ·exact⟨h.1.within hs.1 (fun g e e2=>by obtain⟨c,hc⟩:=h.1.bk e;exact Bk.av hc hs.2 (by decide) e2),h.2⟩) i v W W2 h (match kk,hs with | 0,hs=>.inl hs | _+1,hs=>.inr hs)
  case gops=>
   refine⟨?_,?_,?_,?_,?_,?_,?_,?_,?_,?_,?_,trivial⟩
   ·intro vs W kk h1 h2 hW hd
    refine aa rfl ?_
    clear hd
    go_simp
    exact⟨rfl,U _ _⟩
   ·intro vs W kk h1 h2 hW hd
    refine aa rfl ?_
    clear hd
    go_simp
    exact⟨rfl,U _ _⟩
   ·intro vs W kk h1 h2 hW hd
    refine aa rfl ?_
    have e1:vs 1=P (O ⟨Y.y,0,N⟩):=hd 1 (by decide)
    clear hd
    go_simp
    exact⟨rfl,U _ _⟩
   ·intro vs W kk h1 h2 hW hd
    refine aa rfl ?_
    have e2:vs 2=P (O ⟨Y.y,0,N⟩):=hd 2 (by decide)
    clear hd
    go_simp
    exact⟨rfl,U _ _⟩
   ·intro vs W kk h1 h2 hW hd
    obtain rfl:kk=0:=Nat.le_zero.1 h2
    refine aa rfl ?_
    have e3:vs 3=P (O ⟨Y.y,4,N⟩):=hd 3 (by decide)
    have hw0:Bk W w.heap.size 36 #[Z aL k.l.length cL,I Q k.lo,I Q k.un,Z aS k.zs.length cS,Z aI init.length cI,I Q k.each,Z aR r7.length cR]/\ud w base k Y [] cs 0 W:=hW;obtain⟨hq,hN⟩:=hw0;obtain⟨y0,y1,y2,y3,y4,y5,y6⟩:W.cell? ⟨w.heap.size,0,N⟩=O (Z aL k.l.length cL)/\W.cell? ⟨w.heap.size,1,N⟩=O (I Q k.lo)/\W.cell? ⟨w.heap.size,2,N⟩=O (I Q k.un)/\W.cell? ⟨w.heap.size,3,N⟩=O (Z aS k.zs.length cS)/\W.cell? ⟨w.heap.size,4,N⟩=O (Z aI init.length cI)/\W.cell? ⟨w.heap.size,5,N⟩=O (I Q k.each)/\W.cell? ⟨w.heap.size,6,N⟩=O (Z aR r7.length cR):=⟨hq.cell 0,hq.cell 1,hq.cell 2,hq.cell 3,hq.cell 4,hq.cell 5,hq.cell 6⟩;have hp:=hN.ptr;rw[HY.out.1,HY.out.2] at hp;obtain⟨x0,x1,x2,x3,x4,x5,x6,x7⟩:=hp.G5;have zf:=Bk.free hp;clear hq hN hp
    clear hd
    go_simp
    exact⟨rfl,U _ _⟩
   ·intro vs W kk h1 h2 hW hd
    refine aa rfl ?_
    clear hd
    go_simp
    exact⟨rfl,U _ _⟩
   ·intro vs W kk h1 h2 hW hd
    obtain rfl:kk=0:=Nat.le_zero.1 h2
    refine aa rfl ?_
    have e5:vs 5=P (O ⟨w.heap.size,4,N⟩):=hd 5 (by decide)
    have hw0:Bk W w.heap.size 36 #[Z aL k.l.length cL,I Q k.lo,I Q k.un,Z aS k.zs.length cS,Z aI init.length cI,I Q k.each,Z aR r7.length cR]/\ud w base k Y [] cs 0 W:=hW;obtain⟨hq,hN⟩:=hw0;obtain⟨y0,y1,y2,y3,y4,y5,y6⟩:W.cell? ⟨w.heap.size,0,N⟩=O (Z aL k.l.length cL)/\W.cell? ⟨w.heap.size,1,N⟩=O (I Q k.lo)/\W.cell? ⟨w.heap.size,2,N⟩=O (I Q k.un)/\W.cell? ⟨w.heap.size,3,N⟩=O (Z aS k.zs.length cS)/\W.cell? ⟨w.heap.size,4,N⟩=O (Z aI init.length cI)/\W.cell? ⟨w.heap.size,5,N⟩=O (I Q k.each)/\W.cell? ⟨w.heap.size,6,N⟩=O (Z aR r7.length cR):=⟨hq.cell 0,hq.cell 1,hq.cell 2,hq.cell 3,hq.cell 4,hq.cell 5,hq.cell 6⟩;have hp:=hN.ptr;rw[HY.out.1,HY.out.2] at hp;obtain⟨x0,x1,x2,x3,x4,x5,x6,x7⟩:=hp.G5;have zf:=Bk.free hp;clear hq hN hp
    clear hd
    go_simp
    exact⟨rfl,U _ _⟩
   ·intro vs W hW hd
    have e4:vs 4=Z N 0 0:=hd 4 (by decide)
    have e6:vs 6=Z aI init.length cI:=hd 6 (by decide)
    have hw0:Bk W w.heap.size 36 #[Z aL k.l.length cL,I Q k.lo,I Q k.un,Z aS k.zs.length cS,Z aI init.length cI,I Q k.each,Z aR r7.length cR]/\ud w base k Y [] cs 0 W:=hW
    obtain⟨hq,hN⟩:=hw0
    obtain⟨v',W',hr,hl,hB,hnew⟩:=zZ (cap0:=cI) (HGI.out W hN.gr) (by omega:init.length<=100000)
    have HEND:=T (And.intro (And.intro hl (fun g e=>Nat.le_trans hN.gr.size (hnew g e))) (And.intro (And.intro ((hB.block _ hq.lt).trans hq) (hN.below hB)) hB))
    clear hd hW hl hB hnew hq hN
    refine bh rfl ?_
    simp[execOp,resolve,invoke,builtin,Act.eval,e4,e6,hr,Result.andThen,gS]
    exact HEND.out
   ·intro vs W kk h1 h2 hW hd
    refine aa rfl ?_
    have e0:vs 0=P (O ⟨Y.y,0,N⟩):=hd 0 (by decide)
    clear hd
    go_simp
    exact⟨rfl,U _ _⟩
   ·intro vs W kk h1 h2 hW hd
    refine aa rfl ?_
    have e8:vs 8=P (O ⟨Y.y,0,N⟩):=hd 8 (by decide)
    clear hd
    go_simp
    exact⟨rfl,U _ _⟩
   ·intro vs W hW hd
    have e9:vs 9=P (O ⟨Y.y,4,N⟩):=hd 9 (by decide)
    obtain⟨hl,hnew⟩:ef .u32 70 W (vs 7) init/\∀ g,(vs 7).ownBlock=O g->w.heap.size<=g:=hd 7 (by decide)
    obtain⟨va7,vc7,e7,-⟩:=hl.is
    rw[e7] at hl hnew
    have hw0:Bk W w.heap.size 36 #[Z aL k.l.length cL,I Q k.lo,I Q k.un,Z aS k.zs.length cS,Z aI init.length cI,I Q k.each,Z aR r7.length cR]/\ud w base k Y [] cs 0 W:=hW
    obtain⟨hq,hN⟩:=hw0
    have hp:=hN.ptr
    rw[HY.out.1,HY.out.2] at hp
    have x4:W.cell? ⟨Y.y,4,N⟩=O (Z N 0 0):=hp.cell 4
    have zf:=Bk.free hp
    have h9:=hN.D6 hl (fun g e=>⟨Nat.le_trans hb (hnew g e),hnew g e⟩)
    have hw9:=cT W Y.y 4 (Z va7 init.length vc7)
    have hq9:=hq.within hw9 (Bk.av hq hp (by decide))
    have HEND:=T (And.intro (And.intro hq9 h9) (And.intro hw9 hp))
    clear hd hW hl hnew hq hN hp h9 hw9 hq9
    refine bh rfl ?_
    go_simp
    exact⟨rfl,⟨HEND.out.1.1,_,HEND.out.1.2⟩,HEND.out.2⟩
  case gdone=>
   intro vs W hW hf
   have f0:vs 0=P (O ⟨Y.y,0,N⟩):=hf 0 (by decide)
   have f1:vs 1=P (O ⟨Y.y,0,N⟩):=hf 1 (by decide)
   have f2:vs 2=P (O ⟨Y.y,0,N⟩):=hf 2 (by decide)
   have f3:vs 3=P (O ⟨Y.y,4,N⟩):=hf 3 (by decide)
   have f4:vs 4=Z N 0 0:=hf 4 (by decide)
   have f5:vs 5=P (O ⟨w.heap.size,4,N⟩):=hf 5 (by decide)
   have f6:vs 6=Z aI init.length cI:=hf 6 (by decide)
   have f8:vs 8=P (O ⟨Y.y,0,N⟩):=hf 8 (by decide)
   have f9:vs 9=P (O ⟨Y.y,4,N⟩):=hf 9 (by decide)
   simp only[f0,f1,f2,f3,f4,f5,f6,f8,f9]
   clear f0 f1 f2 f3 f4 f5 f6 f8 f9
   obtain⟨hq3,wl,hN⟩:Bk W w.heap.size 36 #[Z aL k.l.length cL,I Q k.lo,I Q k.un,Z aS k.zs.length cS,Z aI init.length cI,I Q k.each,Z aR r7.length cR]/\∃ wl,ud w base k { Y with wl:=wl } init cs 0 W:=hW
   generalize vs 7=w7 at *
   clear hf
   have y6:W.cell? ⟨w.heap.size,6,N⟩=O (Z aR r7.length cR):=hq3.cell 6
   go_wp2
   clear y6
   go_loopw [39] (fun jv wr=>∃ (j:Nat) (kl:Value),j<=r7.length/\jv=I Q j/\ud w base k { Y with wl:=wl,kl:=kl } init cs j wr) (fun jv _=>r7.length-(intOf jv).toNat)
   case atStart=>exact⟨0,Y.kl,Nat.zero_le _,rfl,hN⟩
   case round=>
    clear hN hq3
    obtain⟨j,kl,hj,rfl,hN⟩:=hrel
    by_cases hlt:j<r7.length
    ·obtain⟨b7,off7,rfl,hc7⟩:=HGR.out.at_ hlt hN.gr
     have rV:=HI.out.2.2.2.1.at_ j
     obtain⟨V,hV⟩:∃ v,v=aD r7 j:=⟨_,rfl⟩
     rw[<-hV] at hc7 rV
     have HV:=T hV
     have wV:=bT rV
     clear hV
     have hjl:(j:Int)<r7.length:=by omega
     go_upto_region 9 with fail
     have hA:Below wr.heap.size wr (wr.alloc (S #[I Q 0,I Q 0,I Q 0,I Q 0,I Q 0,I Q 0,I Q 0,I Q V,I Q 0] 111)):=(U _ _).alloc (K _) _
     have hNb:=hN.below hA
     have hC:Rb (wr.alloc (S #[I Q 0,I Q 0,I Q 0,I Q 0,I Q 0,I Q 0,I Q 0,I Q V,I Q 0] 111)) wr.heap.size [0,0,0,0,0,0,0,V] 0:=Rb.made wr [0,0,0,0,0,0,0,V] 0
     have hcsj:cs j=⟨[0,0,0,0,0,0,0,V],0⟩:=by rw[HI.out.2.2.2.2.2,HV.out];rfl
     have HCJ:=T hcsj
     clear hA hN hc7 hcsj
     generalize wr.alloc (S #[I Q 0,I Q 0,I Q 0,I Q 0,I Q 0,I Q 0,I Q 0,I Q V,I Q 0] 111)=wx at *
     generalize wr.heap.size=q at *
     obtain⟨akl,ckl,ekl0,hk1,hk2,-⟩:=aX hNb.cores
     have ekl:kl=Z akl j ckl:=ekl0
     subst ekl
     clear ekl0
     have hj64:j<64:=by have:=HI.out.2.2.1;omega
     have c6:wx.cell? ⟨Y.y,6,N⟩=O (Z akl j ckl):=hNb.ptr.cell 6
     have zf:=Bk.free hNb.ptr
     obtain⟨d0,d1,d2,d3,d4,d5,d6,d7,d8⟩:=Rb.cells hC
     have hB2:Below wx.heap.size wx (wx.drew.alloc (S #[I Q 0,I Q 0,I Q 0,I Q 0,I Q 0,I Q 0,I Q 0,I Q V,I Q 0] 111)):=(U wx.heap.size wx).drew.alloc (K _) _
     have hN2:=hNb.below hB2
     have HOA:=T hN2.cores
     have HNW:=T (fB (Bk.made wx.drew 111 #[I Q 0,I Q 0,I Q 0,I Q 0,I Q 0,I Q 0,I Q 0,I Q V,I Q 0]))
     have HL2:Hid (w.heap.size<=(wx.drew.alloc (S #[I Q 0,I Q 0,I Q 0,I Q 0,I Q 0,I Q 0,I Q 0,I Q V,I Q 0] 111)).heap.size):=T hN2.gr.size
     have HQ:Hid (∀ w':World,(wx.drew.alloc (S #[I Q 0,I Q 0,I Q 0,I Q 0,I Q 0,I Q 0,I Q 0,I Q V,I Q 0] 111)).grownBy w' (Value.slice akl j ckl).ownBlock->Bk w' Y.y 90 #[Y.cv,I Q k.lo,I Q k.un,Y.cl,wl,P (O ⟨Y.x,0,N⟩),Z akl j ckl,I Q Y.ac]):=T fun w' hg=>(hN2.grow hg (fun g e=>(World.ownsRow.lt hN2.cores g e).1)).1
     have rb:∀ o,(wx.alloc o).cell? ⟨Y.y,6,N⟩=O (Z akl j ckl):=fun o=>(Bk.alloc hNb.ptr o).cell 6
     have HEND:Hid (∀ (w':World) (v2:Value),(wx.drew.alloc (S #[I Q 0,I Q 0,I Q 0,I Q 0,I Q 0,I Q 0,I Q 0,I Q V,I Q 0] 111)).grownBy w' (Value.slice akl j ckl).ownBlock->w'.ownsRow w.heap.size 111 9 v2 (j+1) (fH cs j++dE [0,0,0,0,0,0,0,V] 0)->ud w base k { Y with wl:=wl,kl:=v2 } init cs (j+1) (w'.setCell ⟨Y.y,6,N⟩ v2)):=T fun w' v2 hg ho=>by
      have hs:=sA cs j
      rw[HCJ.out] at hs
      rw[hs] at ho
      exact(hN2.grow hg (fun g e=>(World.ownsRow.lt hN2.cores g e).1)).2 v2 ho hb
     clear hN2 hB2 hNb hC
     go_region_law (refine kv rfl (.tmp 51) (.tmp 53) 88 rfl _ 72 Tryz.underlying88 yM rfl (by omega) (by omega) HOA.out (by simp[Act.eval]) (dE [0,0,0,0,0,0,0,V] 0) rfl (Ae _ _) wx.heap.size (by simp[Act.eval]) HNW.out (by omega) HL2.out ?_;intro v' w' hown hgr hloc;have q1':=HQ.out w' hgr;have c0':w'.cell? ⟨Y.y,6,N⟩=O (Z akl j ckl):=q1'.cell 6;have f0':=Bk.free q1';obtain⟨a2,cap2,rfl,_,_,_⟩:=aX hown)
     all_goals (
      have hF:=HEND.out _ _ hgr hown
      go_wp2
      go_roundw
      case rel=>exact⟨j+1,_,by omega,by go_num,hF⟩
      case measure=>simp[intOf];omega)
    ·obtain rfl:j=r7.length:=by omega
     have hE:BM w base k init r7 (.returned (P (O ⟨Y.y,0,N⟩))) wr:=by
      rw[HI.out.2.2.1,HI.out.2.2.2.2.2] at hN
      exact⟨{ Y with wl:=wl,kl:=kl },rfl,hN.ey HI.out.2.2.2.2.1 HI.out.1 HI.out.2.1 HI.out.2.2.2.1,hN.gr,hN.new⟩
     have HE:=T hE
     clear hN hE
     go_wp2
     go_ret
     exact HE.out
end
