import Derived.Test.YtieiifdhdjhnoaaGreatDoorWExE
import Derived.Test.YtieiifdhdjhnoaaGreatDoorWAsmD
import Derived.Test.YtieiifdhdjhnoaaGreatDoorWCoreP
import Derived.Test.YtieiifdhdjhnoaaGreatDoorWPool
import Derived.Test.YtieiifdhdjhnoaaGreatDoorWWdB
import Derived.Test.YtieiifdhdjhnoaaGreatDoorWInstV
set_option linter.unusedVariables false
set_option maxHeartbeats 4000000
set_option maxRecDepth 100000
open Go.Value renaming int->I,slice->K,pointer->J
open Go.IntKind renaming i64->Q,u32->O
open Option renaming none->Z,some->V
open Bool renaming false->T,true->U
open Go.Obj renaming cells->H
open Go.Lib renaming hid->G
open Go.RowKit.Below renaming refl->F
open Nat renaming le_refl->C
open Go renaming undef->L
namespace Go.Proofs.YtieiifdhdjhnoaaGreatDoor
open Go.ChangeShapes Go.WideShapes Go.ChangeAt Go.RowKit
def dY (W W2:World):Prop:=∃ b t cs,Bk W b t cs/\t≠3/\ab W W2 (fun i=>i=b)
theorem dY.DG {B:Nat}{W W2:World}{m:Value}{ms:List Int}(h:dY W W2)(hl:dH B W m ms):dH B W2 m ms:=by
 obtain⟨b,t,cs,h1,h2,h3⟩:=h
 exact dC hl h3 (by rintro b' rfl;exact⟨t,cs,h1,h2⟩)
theorem bc.oU {v w w':World}{N:Nat}{X X':XP}{S:Nat->Prop}(h:bc v N X w X')(hw:ab w w' S)(hs:∀ i,S i->v.heap.size<=i):bc v N X w' X':=
 ⟨h.1.bp hw (fun i e=>.inr (hs i e)),h.2.1,h.2.2⟩
structure uB (w:World)(X X':XP)(k:Lk)(m:Mc)(W:World):Prop where
 ex:Ex W X' k m
 st:bc w k.n X W X'
 q:Bk W w.heap.size 61 #[K Z 0 0,I Q 0,I Q 0,.bool T,.bool T,I Q 0]
structure Ft (w:World)(X':XP)(n b9 b10:Nat):Prop where
 ir:∀ i,X'.Own n i->i≠w.heap.size/\i≠b9/\i≠b10
 n9:w.heap.size<b9
 n10:b9<b10
def Cm (w:World)(X X':XP)(k:Lk)(m:Mc)(b9 b10:Nat)(c0 c1:kX)(ad:Int)(wr:Bool)(ms:List Int)(D E:Int):Nat->World->Prop
 | 0,W=>uB w X X' k m W/\Cb W b9 c0.xs c0.pc/\Bk W b10 61 #[K Z 0 0,I Q (-1),I Q ad,.bool wr,.bool T,I Q 0]
 | 1,W=>uB w X X' k m W/\Cb W b9 c1.xs c1.pc/\Bk W b10 61 #[K Z 0 0,I Q (-1),I Q ad,.bool wr,.bool T,I Q 0]
 | 2,W=>uB w X X' k m W/\Cb W b9 c1.xs c1.pc/\∃ v,dH w.heap.size W v ms/\Bk W b10 61 #[v,I Q (-1),I Q ad,.bool wr,.bool T,I Q 0]
 | 3,W=>uB w X X' k m W/\Cb W b9 c1.xs c1.pc/\∃ v,dH w.heap.size W v ms/\Bk W b10 61 #[v,I Q D,I Q ad,.bool wr,.bool T,I Q 0]
 | _,W=>uB w X X' k m W/\Cb W b9 c1.xs c1.pc/\∃ v,dH w.heap.size W v ms/\Bk W b10 61 #[v,I Q D,I Q ad,.bool wr,.bool T,I Q E]
section
variable {w W W':World}{X X':XP}{k:Lk}{m:Mc}{b9 b10:Nat}{c0 c1:kX}{ad:Int}{wr:Bool}{ms:List Int}{D E:Int}
theorem uB.below (h:uB w X X' k m W)(hb:Below W.heap.size W W'):uB w X X' k m W':=⟨h.ex.below hb,h.st.grown hb,(hb.block _ h.q.lt).trans h.q⟩
theorem uB.ir (h:uB w X X' k m W)(hf:Ft w X' k.n b9 b10){S:Nat->Prop}(hw:ab W W' S)(hs:∀ i,S i->i=b9\/i=b10):uB w X X' k m W':=
 ⟨h.ex.kept hw (fun i hi e=>by have:=hf.ir i hi;have:=hs i e;omega),h.st.oU hw (fun i e=>by have:=hs i e;have:=hf.n9;have:=hf.n10;omega),h.q.within hw (fun e=>by have:=hs _ e;have:=hf.n9;have:=hf.n10;omega)⟩
theorem uM {j:Nat}(h:Cm w X X' k m b9 b10 c0 c1 ad wr ms D E j W)(hb:Below W.heap.size W W'):Cm w X X' k m b9 b10 c0 c1 ad wr ms D E j W':=by
 match j,h with
 | 0,⟨h1,h2,h3⟩=>exact⟨h1.below hb,Cb.below h2 hb,(hb.block _ h3.lt).trans h3⟩
 | 1,⟨h1,h2,h3⟩=>exact⟨h1.below hb,Cb.below h2 hb,(hb.block _ h3.lt).trans h3⟩
 | 2,⟨h1,h2,v,h4,h3⟩=>exact⟨h1.below hb,Cb.below h2 hb,v,eC h4 hb,(hb.block _ h3.lt).trans h3⟩
 | 3,⟨h1,h2,v,h4,h3⟩=>exact⟨h1.below hb,Cb.below h2 hb,v,eC h4 hb,(hb.block _ h3.lt).trans h3⟩
 | _+4,⟨h1,h2,v,h4,h3⟩=>exact⟨h1.below hb,Cb.below h2 hb,v,eC h4 hb,(hb.block _ (Bk.lt h3)).trans h3⟩
theorem Ek {s0 s1 s2 s3 s4 s5 s6 s7 u0 u1 u2 u3 u4 u5 u6 u7 PC P2:Int}(hf:Ft w X' k.n b9 b10)(h:Cm w X X' k m b9 b10 ⟨[s0,s1,s2,s3,s4,s5,s6,s7],PC⟩ ⟨[u0,u1,u2,u3,u4,u5,u6,u7],P2⟩ ad wr ms D E 0 W):
 Cm w X X' k m b9 b10 ⟨[s0,s1,s2,s3,s4,s5,s6,s7],PC⟩ ⟨[u0,u1,u2,u3,u4,u5,u6,u7],P2⟩ ad wr ms D E 1 (bn W b9 (I O u0) (I O u1) (I O u2) (I O u3) (I O u4) (I O u5) (I O u6) (I O u7) (I Q P2))/\dY W (bn W b9 (I O u0) (I O u1) (I O u2) (I O u3) (I O u4) (I O u5) (I O u6) (I O u7) (I Q P2)):=by
 obtain⟨h1,h2,h3⟩:=h
 have hW:=gp (y:=W) (g:=b9) (I O u0) (I O u1) (I O u2) (I O u3) (I O u4) (I O u5) (I O u6) (I O u7) (I Q P2)
 have h4:Cb (bn W b9 (I O u0) (I O u1) (I O u2) (I O u3) (I O u4) (I O u5) (I O u6) (I O u7) (I Q P2)) b9 [u0,u1,u2,u3,u4,u5,u6,u7] P2:=bz h2 (I O u0) (I O u1) (I O u2) (I O u3) (I O u4) (I O u5) (I O u6) (I O u7) (I Q P2)
 generalize bn W b9 (I O u0) (I O u1) (I O u2) (I O u3) (I O u4) (I O u5) (I O u6) (I O u7) (I Q P2)=z at *
 exact⟨⟨h1.ir hf hW (fun i e=>.inl e),h4,h3.within hW (by have:=hf.n10;omega)⟩,b9,_,_,h2,by decide,hW⟩
theorem Ej {v:Value}(hf:Ft w X' k.n b9 b10)(h:Cm w X X' k m b9 b10 c0 c1 ad wr ms D E 1 W)(hl:dH w.heap.size W v ms):
 Cm w X X' k m b9 b10 c0 c1 ad wr ms D E 2 (W.setCell ⟨b10,0,Z⟩ v)/\dY W (W.setCell ⟨b10,0,Z⟩ v):=by
 obtain⟨h1,h2,h3⟩:=h
 have hW:ab W (W.setCell ⟨b10,0,Z⟩ v) (fun i=>i=b10):=(ab.refl _ _).put _ _ _ (.inl rfl)
 have h5:dY W (W.setCell ⟨b10,0,Z⟩ v):=⟨b10,_,_,h3,by decide,hW⟩
 exact⟨⟨h1.ir hf hW (fun i e=>.inr e),Bk.within h2 hW (by have:=hf.n10;omega),v,h5.DG hl,h3.put 0 v⟩,h5⟩
theorem Ei (hf:Ft w X' k.n b9 b10)(h:Cm w X X' k m b9 b10 c0 c1 ad wr ms D E 2 W):
 Cm w X X' k m b9 b10 c0 c1 ad wr ms D E 3 (W.setCell ⟨b10,1,Z⟩ (I Q D))/\dY W (W.setCell ⟨b10,1,Z⟩ (I Q D)):=by
 obtain⟨h1,h2,v,hl,h3⟩:=h
 have hW:ab W (W.setCell ⟨b10,1,Z⟩ (I Q D)) (fun i=>i=b10):=(ab.refl _ _).put _ _ _ (.inl rfl)
 have h5:dY W (W.setCell ⟨b10,1,Z⟩ (I Q D)):=⟨b10,_,_,h3,by decide,hW⟩
 exact⟨⟨h1.ir hf hW (fun i e=>.inr e),Bk.within h2 hW (by have:=hf.n10;omega),v,h5.DG hl,h3.put 1 (I Q D)⟩,h5⟩
theorem Eh (hf:Ft w X' k.n b9 b10)(h:Cm w X X' k m b9 b10 c0 c1 ad wr ms D E 3 W):
 Cm w X X' k m b9 b10 c0 c1 ad wr ms D E 4 (W.setCell ⟨b10,5,Z⟩ (I Q E))/\dY W (W.setCell ⟨b10,5,Z⟩ (I Q E)):=by
 obtain⟨h1,h2,v,hl,h3⟩:=h
 have hW:ab W (W.setCell ⟨b10,5,Z⟩ (I Q E)) (fun i=>i=b10):=(ab.refl _ _).put _ _ _ (.inl rfl)
 have h5:dY W (W.setCell ⟨b10,5,Z⟩ (I Q E)):=⟨b10,_,_,h3,by decide,hW⟩
 exact⟨⟨h1.ir hf hW (fun i e=>.inr e),Bk.within h2 hW (by have:=hf.n10;omega),v,h5.DG hl,h3.put 5 (I Q E)⟩,h5⟩
end
section
variable {w w':World}{X:XP}{k:Lk}{m:Mc}
theorem yw (h:Ex w X k m){t:Nat}(ht:t<k.n){i:aN}{late:Bool}{c:kX}(hc:bh c.xs){r:Dn}(hr:Cc k m t c late i=V r):bh r.c.xs:=by
 unfold Cc at hr
 split at hr
 ·injection hr with hr
  subst hr
  obtain⟨fr,os,cn,hp,hs⟩:=h.dV
  refine hc.put _ ?_
  unfold kV
  cases he:m.pn.free t with
  | nil=>simp only;omega
  | cons q rest=>exact qZ hs (hs.take ht he).1
 ·split at hr
  ·split at hr
   ·cases hr
   ·injection hr with hr
    subst hr
    exact hc
  ·split at hr
   ·cases hr
   ·injection hr with hr
    subst hr
    exact my h.mc.ws hc
theorem D2 (h:Ex w X k m)(t:Nat)(ht:t<k.n)(late:Bool):
 Calls Tryz.prog 24 #[J (V ⟨X.x,0,Z⟩),I Q t,.bool late] w (zY w X k (dv k m t late)):=by
 have hnn:=h.lk.n64
 have hl:=h.lk.parts.2.1
 have hx8:=G (h.mc.cs t ht)
 have HX:=G h
 have hOwn:∀ i,X.Own k.n i->i<w.heap.size:=fun i hi=>h.lt hi
 have q0:=Bk.made w 61 #[K Z 0 0,I Q 0,I Q 0,.bool T,.bool T,I Q 0]
 have b0:Below w.heap.size w (w.alloc (H #[K Z 0 0,I Q 0,I Q 0,.bool T,.bool T,I Q 0] 61)):=(F _ _).alloc (C _) _
 cases hm:iq k (m.cs t).pc with
 | none=>
  rw[nZ hm]
  go_enter Tryz.func24,Tryz.ntmps24
  go_upto_region 1 with fail
  generalize w.alloc (H #[K Z 0 0,I Q 0,I Q 0,.bool T,.bool T,I Q 0] 61)=y at *
  have h2:=h.below b0
  have hst:=rP h2 t ht hm
  unfold tS iv aN.zero at hst
  simp only at hst
  clear h
  go_wp2_with fail
  refine hst.mono ?_
  rintro e z1 ⟨rfl,hz⟩
  clear hst
  replace h2:=h2.below hz
  replace q0:=(hz.block _ q0.lt).trans q0
  replace b0:=b0.trans (hz.mono b0.size)
  clear hz
  go_upto_region 3 with fail
  have hz:=(F z1.heap.size z1).alloc (C _) (H #[I Q 0,I Q 0,I Q 0,I Q 0,I Q 0,I Q 0,I O 0,I Q 0] 117)
  replace h2:=h2.below hz
  replace q0:Bk _ w.heap.size _ _:=(hz.block _ (Bk.lt q0)).trans q0
  replace b0:=b0.trans (hz.mono b0.size)
  clear hz
  generalize z1.heap.size=b7 at *
  generalize z1.alloc (H #[I Q 0,I Q 0,I Q 0,I Q 0,I Q 0,I Q 0,I O 0,I Q 0] 117)=z2 at *
  have hTr:=zE z2
  unfold zP eL at hTr
  simp only at hTr
  go_wp2_with fail
  refine hTr.mono ?_
  rintro e z ⟨rfl,hz⟩
  have hx:=h2.below hz
  replace q0:Bk z w.heap.size 61 #[K Z 0 0,I Q 0,I Q 0,.bool T,.bool T,I Q 0]:=(hz.block _ (Bk.lt q0)).trans q0
  have hst:=bc.az (n:=k.n) (X:=X) (b0.trans (hz.mono b0.size))
  have hfar:∀ i,X.Own k.n i->i≠w.heap.size/\True:=fun i hi=>⟨by have:=hOwn i hi;omega,trivial⟩
  clear hz h2 b0 hTr
  obtain⟨y0,y1,y2,y3,y4,y5⟩:=q0.gS
  have zf:=Bk.free q0
  have p1:=cm q0 (K Z 0 0) (I Q (-1)) (I Q (-1)) (.bool T) (.bool T) (I Q 11)
  have p2:=bd (y:=z) (g:=w.heap.size) (K Z 0 0) (I Q (-1)) (I Q (-1)) (.bool T) (.bool T) (I Q 11)
  have l6:=dC (dH.nil w.heap.size z) p2 (by rintro b' rfl;exact⟨_,_,q0,by decide⟩)
  have h6:=hx.kept p2 (fun i hi e=>(hfar i hi).1 e)
  have st6:=hst.oU p2 (fun i e=>by omega)
  have HFE:=G (And.intro l6 (And.intro h6 st6))
  clear l6 h6 st6 hx hst
  go_wp2
  generalize hv9:((((((z.setCell ⟨w.heap.size,0,Z⟩ (K Z 0 0)).setCell ⟨w.heap.size,1,Z⟩ (I Q (-1))).setCell ⟨w.heap.size,2,Z⟩ (I Q (-1))).setCell ⟨w.heap.size,3,Z⟩ (.bool T)).setCell ⟨w.heap.size,4,Z⟩ (.bool T)).setCell ⟨w.heap.size,5,Z⟩ (I Q 11))=v9
  replace hv9:co z w.heap.size (K Z 0 0) (I Q (-1)) (I Q (-1)) (.bool T) (.bool T) (I Q 11)=v9:=hv9
  rw[hv9] at p1 HFE
  clear hv9 p2 q0 y0 y1 y2 y3 y4 y5 zf
  obtain⟨o0,o1,o2,o3,o4,o5⟩:=p1.gS
  exact bodyPost_ret (v:=.agg #[K Z 0 0,I Q (-1),I Q (-1),.bool T,.bool T,I Q 11]) (by simp[results,Tryz.results24,go_sem,o0,o1,o2,o3,o4,o5]) rfl ⟨K Z 0 0,X.M,rfl,HFE.out.1,HFE.out.2.1,HFE.out.2.2⟩
 | some i=>
  have hiM:=h.lk.DS hm
  rw[Al hm hiM]
  obtain⟨R,hR⟩:∃ R,R=Cc k m t (m.cs t) late i:=⟨_,rfl⟩
  rw[<-hR]
  have HR:=G hR
  clear hR
  go_enter Tryz.func24,Tryz.ntmps24
  go_upto_region 1 with fail
  generalize w.alloc (H #[K Z 0 0,I Q 0,I Q 0,.bool T,.bool T,I Q 0] 61)=y at *
  have h2:=h.below b0
  have hst:=uE h2 t ht hm
  unfold pM iv at hst
  clear h
  go_wp2_with fail
  refine hst.mono ?_
  rintro e z1 ⟨rfl,hz⟩
  clear hst
  replace h2:=h2.below hz
  replace q0:=(hz.block _ q0.lt).trans q0
  replace b0:=b0.trans (hz.mono b0.size)
  clear hz
  have HDO:=G (fun W (hW:Ex W X k m)=>F6 hW t ht i late hm)
  rw[<-HR.out] at HDO
  obtain⟨op,d,s,t',u,a',k',pl⟩:=i
  unfold iv at HDO
  simp only at HDO
  go_upto_region 4 with fail
  have hz:=(F z1.heap.size z1).alloc (C _) (H #[I Q op,I Q d,I Q s,I Q t',I Q u,I Q a',I O k',I Q pl] 117)
  have q7:=Ib.made z1 op d s t' u a' k' pl
  replace h2:=h2.below hz
  replace q0:Bk _ w.heap.size _ _:=(hz.block _ (Bk.lt q0)).trans q0
  replace b0:=b0.trans (hz.mono b0.size)
  clear hz
  generalize z1.heap.size=b7 at *
  generalize z1.alloc (H #[I Q op,I Q d,I Q s,I Q t',I Q u,I Q a',I O k',I Q pl] 117)=z2 at *
  obtain⟨e0,e1,e2,e3,e4,e5,e6,e7⟩:=q7.cells
  simp only at e0 e1 e2 e3 e4 e5 e6 e7
  cases R with
  | none=>
   replace HDO:Hid (∀ W,Ex W X k m->Calls Tryz.prog 50 #[J (V ⟨X.x,0,Z⟩),I Q t,.agg #[I Q op,I Q d,I Q s,I Q t',I Q u,I Q a',I O k',I Q pl],.bool late] W fun e w'=>e=.returned (.tuple #[cv (m.cs t).xs (m.cs t).pc,zP (K Z 0 0) eL])/\Below W.heap.size W w'):=HDO
   obtain⟨r0,r1,r2,r3,r4,r5,r6,r7,pc,ec⟩:=h2.bA ht
   rw[ec] at HDO
   unfold zP eL cv at HDO
   simp only[bP,List.map_cons,List.map_nil,List.cons_append,List.nil_append] at HDO
   go_wp2_with fail
   refine(HDO.out _ h2).mono ?_
   rintro e z3 ⟨rfl,hz⟩
   replace h2:=h2.below hz
   replace q0:Bk z3 w.heap.size _ _:=(hz.block _ (Bk.lt q0)).trans q0
   replace b0:=b0.trans (hz.mono b0.size)
   clear hz q7 e0 e1 e2 e3 e4 e5 e6 e7 HDO
   go_upto_region 5 with fail
   have hz:=((F z3.heap.size z3).alloc (C _) (H #[I O r0,I O r1,I O r2,I O r3,I O r4,I O r5,I O r6,I O r7,I Q pc] 107)).alloc (by simp) (H #[(K Z 0 0),I Q (-1),I Q (-1),.bool T,.bool T,I Q 11] 61)
   have o10:=Bk.made (z3.alloc (H #[I O r0,I O r1,I O r2,I O r3,I O r4,I O r5,I O r6,I O r7,I Q pc] 107)) 61 #[(K Z 0 0),I Q (-1),I Q (-1),.bool T,.bool T,I Q 11]
   rw[World.size_alloc] at o10
   have hx:=h2.below hz
   replace q0:Bk _ w.heap.size 61 #[K Z 0 0,I Q 0,I Q 0,.bool T,.bool T,I Q 0]:=(hz.block _ (Bk.lt q0)).trans q0
   have hst:=bc.az (n:=k.n) (X:=X) (b0.trans (hz.mono b0.size))
   have hfar:∀ i,X.Own k.n i->i≠w.heap.size/\True:=fun i hi=>⟨by have:=hOwn i hi;omega,trivial⟩
   clear hz h2 b0
   generalize (z3.alloc (H #[I O r0,I O r1,I O r2,I O r3,I O r4,I O r5,I O r6,I O r7,I Q pc] 107)).alloc (H #[(K Z 0 0),I Q (-1),I Q (-1),.bool T,.bool T,I Q 11] 61)=z4 at *
   obtain⟨o0,o1,o2,o3,o4,o5⟩:=o10.gS
   obtain⟨y0,y1,y2,y3,y4,y5⟩:=q0.gS
   have zf:=Bk.free q0
   have p1:=cm q0 (K Z 0 0) (I Q (-1)) (I Q (-1)) (.bool T) (.bool T) (I Q 11)
   have p2:=bd (y:=z4) (g:=w.heap.size) (K Z 0 0) (I Q (-1)) (I Q (-1)) (.bool T) (.bool T) (I Q 11)
   have l6:=dC (dH.nil w.heap.size z4) p2 (by rintro b' rfl;exact⟨_,_,q0,by decide⟩)
   have h6:=hx.kept p2 (fun i hi e=>(hfar i hi).1 e)
   have st6:=hst.oU p2 (fun i e=>by omega)
   have HFE:=G (And.intro l6 (And.intro h6 st6))
   clear l6 h6 st6 hx hst
   go_wp2
   generalize hv9:((((((z4.setCell ⟨w.heap.size,0,Z⟩ (K Z 0 0)).setCell ⟨w.heap.size,1,Z⟩ (I Q (-1))).setCell ⟨w.heap.size,2,Z⟩ (I Q (-1))).setCell ⟨w.heap.size,3,Z⟩ (.bool T)).setCell ⟨w.heap.size,4,Z⟩ (.bool T)).setCell ⟨w.heap.size,5,Z⟩ (I Q 11))=v9
   replace hv9:co z4 w.heap.size (K Z 0 0) (I Q (-1)) (I Q (-1)) (.bool T) (.bool T) (I Q 11)=v9:=hv9
   rw[hv9] at p1 HFE
   clear hv9 p2 q0 y0 y1 y2 y3 y4 y5 zf
   obtain⟨o0,o1,o2,o3,o4,o5⟩:=p1.gS
   exact bodyPost_ret (v:=.agg #[K Z 0 0,I Q (-1),I Q (-1),.bool T,.bool T,I Q 11]) (by simp[results,Tryz.results24,go_sem,o0,o1,o2,o3,o4,o5]) rfl ⟨K Z 0 0,X.M,rfl,HFE.out.1,HFE.out.2.1,HFE.out.2.2⟩
  | some R=>
   obtain⟨RM,RC,AD,WR,ST⟩:=R
   have hE:=yw HX.out ht hx8.out HR.out.symm
   replace HDO:Hid (∀ W,Ex W X k m->Calls Tryz.prog 50 #[J (V ⟨X.x,0,Z⟩),I Q t,.agg #[I Q op,I Q d,I Q s,I Q t',I Q u,I Q a',I O k',I Q pl],.bool late] W fun e w'=>e=.returned (.tuple #[cv RC.xs RC.pc,zP (K Z 0 0) ⟨[],-1,AD,WR,ST,0⟩])/\∃ M',Ex w' { X with M:=M' } k RM/\bc W k.n X w' { X with M:=M' }):=HDO
   obtain⟨cxs,PC⟩:=RC
   simp only at hE HDO
   obtain⟨s0,s1,s2,s3,s4,s5,s6,s7,rfl⟩:=aC hE.1
   have HE8:=G hE
   unfold zP cv at HDO
   simp only[bP,List.map_cons,List.map_nil,List.cons_append,List.nil_append] at HDO
   go_wp2_with fail
   refine(HDO.out _ h2).mono ?_
   rintro e z3 ⟨rfl,M',hx,hst⟩
   have hown:∀ i,XP.Own { X with M:=M' } k.n i->i<w.heap.size\/(z2.heap.size<=i/\i<z3.heap.size):=fun i hi=>by
    rcases hst.2.1 i hi with e | e
    ·exact .inl (hOwn i e)
    ·exact .inr ⟨e,hx.lt hi⟩
   have hzw:w.heap.size<z2.heap.size:=Bk.lt q0
   have hzs:=hst.1.size
   replace q0:Bk z3 w.heap.size _ _:=Bk.within q0 hst.1 (fun e=>by have:=hOwn _ (XP.i4 e);omega)
   replace hst:=(bc.az (n:=k.n) (X:=X) b0).bp hst
   clear h2 b0 HDO q7 e0 e1 e2 e3 e4 e5 e6 e7 hE
   go_upto_region 5 with fail
   have hz:=((F z3.heap.size z3).alloc (C _) (H #[I O s0,I O s1,I O s2,I O s3,I O s4,I O s5,I O s6,I O s7,I Q PC] 107)).alloc (by simp) (H #[(K Z 0 0),I Q (-1),I Q AD,.bool WR,.bool ST,I Q 0] 61)
   have o10:=Bk.made (z3.alloc (H #[I O s0,I O s1,I O s2,I O s3,I O s4,I O s5,I O s6,I O s7,I Q PC] 107)) 61 #[(K Z 0 0),I Q (-1),I Q AD,.bool WR,.bool ST,I Q 0]
   rw[World.size_alloc] at o10
   have c9:Cb ((z3.alloc (H #[I O s0,I O s1,I O s2,I O s3,I O s4,I O s5,I O s6,I O s7,I Q PC] 107)).alloc (H #[(K Z 0 0),I Q (-1),I Q AD,.bool WR,.bool ST,I Q 0] 61)) z3.heap.size [s0,s1,s2,s3,s4,s5,s6,s7] PC:=Bk.alloc (Cb.made z3 [s0,s1,s2,s3,s4,s5,s6,s7] PC) _
   replace hx:=hx.below hz
   replace q0:Bk _ w.heap.size 61 #[K Z 0 0,I Q 0,I Q 0,.bool T,.bool T,I Q 0]:=(hz.block _ (Bk.lt q0)).trans q0
   replace hst:=hst.grown hz
   have hFr:Ft w { X with M:=M' } k.n z3.heap.size (z3.heap.size+1):=⟨fun i hi=>by rcases hown i hi with e | e <;> omega,by omega,by omega⟩
   have hfar:∀ i,XP.Own { X with M:=M' } k.n i->i≠w.heap.size/\True:=fun i hi=>⟨(hFr.ir i hi).1,trivial⟩
   clear hz hown hzw hzs
   generalize (z3.alloc (H #[I O s0,I O s1,I O s2,I O s3,I O s4,I O s5,I O s6,I O s7,I Q PC] 107)).alloc (H #[(K Z 0 0),I Q (-1),I Q AD,.bool WR,.bool ST,I Q 0] 61)=z4 at *
   generalize hb9:z3.heap.size=b9 at *
   obtain⟨b10,hb10⟩:∃ b,b=b9+1:=⟨_,rfl⟩
   rw[<-hb10] at o10 hFr ⊢
   clear hb9 hb10
   obtain⟨o0,o1,o2,o3,o4,o5⟩:=o10.gS
   cases ST with
   | true=>
    have HDo:Hid (fh k RM t ⟨[s0,s1,s2,s3,s4,s5,s6,s7],PC⟩ AD WR U=({ RM with cs:=fA RM.cs t ⟨[s0,s1,s2,s3,s4,s5,s6,s7],PC⟩ },⟨[],-1,AD,WR,U,0⟩)):=G rfl
    go_upto_region 9 with fail
    clear o0 o1 o2 o3 o4 o5
    have cx5:z4.cell? ⟨X.x,5,Z⟩=V (K (V ⟨X.kb,0,Z⟩) k.n k.n):=hx.c5
    obtain⟨r0,r1,r2,r3,r4,r5,r6,r7,pc0,ec0⟩:=hx.bA ht
    obtain⟨k0,k1,k2,k3,k4,k5,k6,k7,k8⟩:_:=hx.core ht ec0
    have zf:∀ i,z4.frozen? ⟨X.kb,i,Z⟩=T:=hx.free
    obtain⟨d0,d1,d2,d3,d4,d5,d6,d7,d8⟩:=c9.cells
    have hkb:X.kb<w.heap.size:=hOwn _ (.inr (.inr (.inl rfl)))
    have hkb2:w.heap.size≠X.kb:=by omega
    have hkb3:b10≠X.kb:=by have:=hFr.n9;have:=hFr.n10;omega
    go_region
    have h4:=hx.put ht (c:=⟨[s0,s1,s2,s3,s4,s5,s6,s7],PC⟩) HE8.out
    have hw4:ab z4 (ic z4 X.kb (t*9) (bP [s0,s1,s2,s3,s4,s5,s6,s7] PC)) (fun i=>i=X.kb):=.az (eF _ _ _) (by rintro i e;injection e with e;exact .inl e.symm)
    replace q0:=Bk.within q0 hw4 hkb2
    replace o10:=Bk.within o10 hw4 hkb3
    have st4:=hst.bp (bc.put (X:={ X with M:=M' }) (n:=k.n) (w:=z4) (t:=t*9) (vs:=bP [s0,s1,s2,s3,s4,s5,s6,s7] PC))
    generalize hv4:(((((((((z4.setCell ⟨X.kb,t*9,Z⟩ (I O s0)).setCell ⟨X.kb,t*9+1,Z⟩ (I O s1)).setCell ⟨X.kb,t*9+2,Z⟩ (I O s2)).setCell ⟨X.kb,t*9+3,Z⟩ (I O s3)).setCell ⟨X.kb,t*9+4,Z⟩ (I O s4)).setCell ⟨X.kb,t*9+5,Z⟩ (I O s5)).setCell ⟨X.kb,t*9+6,Z⟩ (I O s6)).setCell ⟨X.kb,t*9+7,Z⟩ (I O s7)).setCell ⟨X.kb,t*9+8,Z⟩ (I Q PC))=v4
    replace hv4:ic z4 X.kb (t*9) (bP [s0,s1,s2,s3,s4,s5,s6,s7] PC)=v4:=hv4
    have hv4':ic z4 (XP.kb { X with M:=M' }) (t*9) (bP [s0,s1,s2,s3,s4,s5,s6,s7] PC)=v4:=hv4
    simp only[hv4] at q0 o10 st4
    replace h4:Ex v4 { X with M:=M' } k { RM with cs:=fA RM.cs t ⟨[s0,s1,s2,s3,s4,s5,s6,s7],PC⟩ }:=by rw[<-hv4];exact h4
    clear hv4 hv4' hw4 d0 d1 d2 d3 d4 d5 d6 d7 d8 k0 k1 k2 k3 k4 k5 k6 k7 k8 zf cx5 hx hst c9
    have hx:=h4.below (F _ v4).drew
    replace q0:Bk v4.drew w.heap.size 61 #[K Z 0 0,I Q 0,I Q 0,.bool T,.bool T,I Q 0]:=q0
    replace o10:Bk v4.drew b10 61 #[K Z 0 0,I Q (-1),I Q AD,.bool WR,.bool U,I Q 0]:=o10
    have hst:=st4.grown (F _ v4).drew
    clear h4 st4
    generalize v4.drew=v5 at *
    obtain⟨n0,n1,n2,n3,n4,n5⟩:=o10.gS
    obtain⟨y0,y1,y2,y3,y4,y5⟩:=q0.gS
    have zf:=Bk.free q0
    have p1:=cm q0 (K Z 0 0) (I Q (-1)) (I Q AD) (.bool WR) (.bool U) (I Q 0)
    have p2:=bd (y:=v5) (g:=w.heap.size) (K Z 0 0) (I Q (-1)) (I Q AD) (.bool WR) (.bool U) (I Q 0)
    have l6:=dC (dH.nil w.heap.size v5) p2 (by rintro b' rfl;exact⟨_,_,q0,by decide⟩)
    have h6:=hx.kept p2 (fun i hi e=>(hfar i hi).1 e)
    have st6:=hst.oU p2 (fun i e=>by omega)
    have HFE:=G (And.intro l6 (And.intro h6 st6))
    clear l6 h6 st6 hx hst
    go_wp2
    generalize hv9:((((((v5.setCell ⟨w.heap.size,0,Z⟩ (K Z 0 0)).setCell ⟨w.heap.size,1,Z⟩ (I Q (-1))).setCell ⟨w.heap.size,2,Z⟩ (I Q AD)).setCell ⟨w.heap.size,3,Z⟩ (.bool WR)).setCell ⟨w.heap.size,4,Z⟩ (.bool U)).setCell ⟨w.heap.size,5,Z⟩ (I Q 0))=v9
    replace hv9:co v5 w.heap.size (K Z 0 0) (I Q (-1)) (I Q AD) (.bool WR) (.bool U) (I Q 0)=v9:=hv9
    rw[hv9] at p1 HFE
    clear hv9 p2 q0 y0 y1 y2 y3 y4 y5 zf
    obtain⟨o0,o1,o2,o3,o4,o5⟩:=p1.gS
    exact bodyPost_ret (v:=.agg #[K Z 0 0,I Q (-1),I Q AD,.bool WR,.bool U,I Q 0]) (by simp[results,Tryz.results24,go_sem,o0,o1,o2,o3,o4,o5]) rfl (by show zY w X k (fh k RM t _ AD WR U) _ _;rw[HDo.out];exact⟨K Z 0 0,M',rfl,HFE.out.1,HFE.out.2.1,HFE.out.2.2⟩)
   | false=>
    obtain⟨RR,hRR⟩:∃ q,q=fM (t:Int) k.l 256 [s0,s1,s2,s3,s4,s5,s6,s7] PC []:=⟨_,rfl⟩
    have hE2:bh RR.xs:=by rw[hRR];exact fV HX.out.lk.ok (by omega) (by omega) _ _ _ _ HE8.out
    have HRun0:=fun(v:Value) W hW=>Ce ⟨k.l,k.lo,k.un⟩ v [s0,s1,s2,s3,s4,s5,s6,s7] PC t W hW hl HX.out.lk.ok HE8.out (by omega) (by omega)
    rw[<-hRR] at HRun0
    have HDo:Hid (fh k RM t ⟨[s0,s1,s2,s3,s4,s5,s6,s7],PC⟩ AD WR T=({ RM with cs:=fA RM.cs t ⟨RR.xs,RR.pc⟩ },⟨RR.ms,RR.done,AD,WR,T,RR.e⟩)):=G (by
     unfold fh ib
     simp only[Bool.false_eq_true,if_false,<-hRR])
    clear hRR
    obtain⟨uxs,P2,ms,D,E⟩:=RR
    simp only at hE2 HDo
    obtain⟨u0,u1,u2,u3,u4,u5,u6,u7,rfl⟩:=aC hE2.1
    have HE9:=G hE2
    have HRun:Hid (∀ W,Ex W { X with M:=M' } k RM->Calls Tryz.prog 51 #[.agg #[I O s0,I O s1,I O s2,I O s3,I O s4,I O s5,I O s6,I O s7,I Q PC],.agg #[X.cv,I Q k.lo,I Q k.un],I Q t] W fun e w'=>∃ m5,e=.returned (.tuple #[.agg #[I O u0,I O u1,I O u2,I O u3,I O u4,I O u5,I O u6,I O u7,I Q P2],m5,I Q D,I Q E])/\dH W.heap.size w' m5 ms/\Below W.heap.size W w'):=G fun W hW=>HRun0 _ W hW.pv.1
    have hS0:uB w X { X with M:=M' } k RM z4/\Cb z4 b9 [s0,s1,s2,s3,s4,s5,s6,s7] PC/\Bk z4 b10 61 #[(K Z 0 0),I Q (-1),I Q AD,.bool WR,.bool T,I Q 0]:=⟨⟨hx,hst,q0⟩,c9,o10⟩
    clear HRun0 hE2 hx hst q0 c9
    go_upto_region 8 with fail
    clear o0 o1 o2 o3 o4 o5 o10
    refine cg [12,14,16,18] (Cm w X { X with M:=M' } k RM b9 b10 ⟨[s0,s1,s2,s3,s4,s5,s6,s7],PC⟩ ⟨[u0,u1,u2,u3,u4,u5,u6,u7],P2⟩ AD WR ms D E) (fun _ W W2=>dY W W2) (fun vs=>{ tmps:=#[J (V ⟨X.x,0,Z⟩),I Q (t:Int),.bool late,L,L,L,J (V ⟨w.heap.size,0,Z⟩),J (V ⟨b7,0,Z⟩),.bool U,J (V ⟨b9,0,Z⟩),J (V ⟨b10,0,Z⟩),.tuple #[.agg #[I Q op,I Q d,I Q s,I Q t',I Q u,I Q a',I O k',I Q pl],.bool U],J (V ⟨X.x,0,Z⟩),I Q (t:Int),.tuple #[.agg #[I Q op,I Q d,I Q s,I Q t',I Q u,I Q a',I O k',I Q pl],.bool U],.agg #[I Q op,I Q d,I Q s,I Q t',I Q u,I Q a',I O k',I Q pl],.bool U,.bool U,.bool T,L,.tuple #[.agg #[I O s0,I O s1,I O s2,I O s3,I O s4,I O s5,I O s6,I O s7,I Q PC],.agg #[K Z 0 0,I Q (-1),I Q AD,.bool WR,.bool T,I Q 0]],J (V ⟨X.x,0,Z⟩),I Q (t:Int),.agg #[I Q op,I Q d,I Q s,I Q t',I Q u,I Q a',I O k',I Q pl],.bool late,.tuple #[.agg #[I O s0,I O s1,I O s2,I O s3,I O s4,I O s5,I O s6,I O s7,I Q PC],.agg #[K Z 0 0,I Q (-1),I Q AD,.bool WR,.bool T,I Q 0]],.agg #[I O s0,I O s1,I O s2,I O s3,I O s4,I O s5,I O s6,I O s7,I Q PC],.agg #[K Z 0 0,I Q (-1),I Q AD,.bool WR,.bool T,I Q 0],J (V ⟨b10,5,Z⟩),I Q 0,.bool T,L,J (V ⟨b10,4,Z⟩),.bool T,.bool U,vs 7,vs 0,vs 1,vs 2,vs 3,vs 4,vs 5,vs 6,vs 8,vs 9,vs 10,vs 11,vs 13,vs 15,vs 17,L,L,L,L,L,L,L,L],defers:=[] }) (lE [(6,(gD w.heap.size (.agg #[I O u0,I O u1,I O u2,I O u3,I O u4,I O u5,I O u6,I O u7,I Q P2]) ms D E)),(7,(gD w.heap.size (.agg #[I O u0,I O u1,I O u2,I O u3,I O u4,I O u5,I O u6,I O u7,I Q P2]) ms D E)),(9,(fun v W=>dH w.heap.size W v ms))] [.agg #[I O s0,I O s1,I O s2,I O s3,I O s4,I O s5,I O s6,I O s7,I Q PC],J (V ⟨X.x,0,Z⟩),J (V ⟨X.x,0,Z⟩),J (V ⟨X.x,0,Z⟩),.agg #[X.cv,I Q k.lo,I Q k.un],I Q (t:Int),L,L,.agg #[I O u0,I O u1,I O u2,I O u3,I O u4,I O u5,I O u6,I O u7,I Q P2],L,I Q D,I Q E,L,J (V ⟨b10,0,Z⟩),L,J (V ⟨b10,1,Z⟩),L,J (V ⟨b10,5,Z⟩),L]) ?ghm ?ghr ?ghc ?ghnd ?ghlit ?gh0 ?ghW ?ghF ?ghS ?gops ?gdone
    case ghm=>kernel_rfl
    case ghr=>kernel_rfl
    case ghc=>kernel_rfl
    case ghnd=>decide
    case ghlit=>intro vs;rfl
    case gh0=>exact hS0
    case ghW=>exact fun k W W2 h hb=>uM h hb
    case ghF=>exact dB (by
     intro p hp
     simp only[List.mem_cons,List.not_mem_nil,or_false] at hp
     rcases hp with rfl|rfl|rfl
     ·exact fun v W W2 h hb=>gD.below h hb
     ·exact fun v W W2 h hb=>gD.below h hb
     ·exact fun v W W2 h hb=>eC h hb)
    case ghS=>exact fun kk W W2 _ hs i v h=>gN (R:=dY) (ps:=[(6,(gD w.heap.size (.agg #[I O u0,I O u1,I O u2,I O u3,I O u4,I O u5,I O u6,I O u7,I Q P2]) ms D E)),(7,(gD w.heap.size (.agg #[I O u0,I O u1,I O u2,I O u3,I O u4,I O u5,I O u6,I O u7,I Q P2]) ms D E)),(9,(fun v W=>dH w.heap.size W v ms))]) (l:=[.agg #[I O s0,I O s1,I O s2,I O s3,I O s4,I O s5,I O s6,I O s7,I Q PC],J (V ⟨X.x,0,Z⟩),J (V ⟨X.x,0,Z⟩),J (V ⟨X.x,0,Z⟩),.agg #[X.cv,I Q k.lo,I Q k.un],I Q (t:Int),L,L,.agg #[I O u0,I O u1,I O u2,I O u3,I O u4,I O u5,I O u6,I O u7,I Q P2],L,I Q D,I Q E,L,J (V ⟨b10,0,Z⟩),L,J (V ⟨b10,1,Z⟩),L,J (V ⟨b10,5,Z⟩),L]) (by
     intro p hp
     simp only[List.mem_cons,List.not_mem_nil,or_false] at hp
     rcases hp with rfl|rfl|rfl
     ·rintro v W W2 ⟨m5,e5,h5⟩ hs;exact⟨m5,e5,hs.DG h5⟩
     ·rintro v W W2 ⟨m5,e5,h5⟩ hs;exact⟨m5,e5,hs.DG h5⟩
     ·exact fun v W W2 h hs=>hs.DG h) i v W W2 h hs
    case gops=>
     refine⟨?_,?_,?_,?_,?_,?_,?_,?_,?_,?_,?_,?_,?_,?_,?_,?_,?_,?_,?_,trivial⟩
     ·intro vs W kk h1 h2 hW hd
      obtain rfl:kk=0:=Nat.le_zero.1 h2
      refine aa rfl ?_
      obtain⟨jb,jc,jo⟩:uB w X { X with M:=M' } k RM W/\Cb W b9 [s0,s1,s2,s3,s4,s5,s6,s7] PC/\Bk W b10 61 #[K Z 0 0,I Q (-1),I Q AD,.bool WR,.bool T,I Q 0]:=id hW;have c0x:W.cell? ⟨X.x,0,Z⟩=V X.cv:=jb.ex.c0;have c1x:W.cell? ⟨X.x,1,Z⟩=V (I Q k.lo):=jb.ex.c1;have c2x:W.cell? ⟨X.x,2,Z⟩=V (I Q k.un):=jb.ex.c2;obtain⟨c0,c1,c2,c3,c4,c5,c6,c7,c8⟩:=jc.cells;have zf:=Bk.free jc;clear jb jc jo
      clear hd
      go_simp
      exact⟨rfl,F _ _⟩
     ·intro vs W kk h1 h2 hW hd
      obtain rfl:kk=0:=Nat.le_zero.1 h2
      refine aa rfl ?_
      clear hd
      go_simp
      exact⟨rfl,F _ _⟩
     ·intro vs W kk h1 h2 hW hd
      obtain rfl:kk=0:=Nat.le_zero.1 h2
      refine aa rfl ?_
      have e1:vs 1=J (V ⟨X.x,0,Z⟩):=hd 1 (by decide)
      clear hd
      go_simp
      exact⟨rfl,F _ _⟩
     ·intro vs W kk h1 h2 hW hd
      obtain rfl:kk=0:=Nat.le_zero.1 h2
      refine aa rfl ?_
      have e2:vs 2=J (V ⟨X.x,0,Z⟩):=hd 2 (by decide)
      clear hd
      go_simp
      exact⟨rfl,F _ _⟩
     ·intro vs W kk h1 h2 hW hd
      obtain rfl:kk=0:=Nat.le_zero.1 h2
      refine aa rfl ?_
      have e3:vs 3=J (V ⟨X.x,0,Z⟩):=hd 3 (by decide)
      obtain⟨jb,jc,jo⟩:uB w X { X with M:=M' } k RM W/\Cb W b9 [s0,s1,s2,s3,s4,s5,s6,s7] PC/\Bk W b10 61 #[K Z 0 0,I Q (-1),I Q AD,.bool WR,.bool T,I Q 0]:=id hW;have c0x:W.cell? ⟨X.x,0,Z⟩=V X.cv:=jb.ex.c0;have c1x:W.cell? ⟨X.x,1,Z⟩=V (I Q k.lo):=jb.ex.c1;have c2x:W.cell? ⟨X.x,2,Z⟩=V (I Q k.un):=jb.ex.c2;obtain⟨c0,c1,c2,c3,c4,c5,c6,c7,c8⟩:=jc.cells;have zf:=Bk.free jc;clear jb jc jo
      clear hd
      go_simp
      exact⟨rfl,F _ _⟩
     ·intro vs W kk h1 h2 hW hd
      obtain rfl:kk=0:=Nat.le_zero.1 h2
      refine aa rfl ?_
      clear hd
      go_simp
      exact⟨rfl,F _ _⟩
     ·intro vs W kk h1 h2 hW hd
      obtain rfl:kk=0:=Nat.le_zero.1 h2
      refine aa rfl ?_
      have e0:vs 0=.agg #[I O s0,I O s1,I O s2,I O s3,I O s4,I O s5,I O s6,I O s7,I Q PC]:=hd 0 (by decide)
      have e4:vs 4=.agg #[X.cv,I Q k.lo,I Q k.un]:=hd 4 (by decide)
      have e5:vs 5=I Q (t:Int):=hd 5 (by decide)
      have HS:=G (HRun.out W (uB.ex hW.1))
      clear hd
      go_simp
      refine HS.out.mono ?_
      rintro e z ⟨m5,he,hm5,hz⟩
      exact⟨_,he,⟨m5,rfl,hm5.mono (uB.st hW.1).1.size⟩,hz⟩
     ·intro vs W kk h1 h2 hW hd
      obtain rfl:kk=0:=Nat.le_zero.1 h2
      refine aa rfl ?_
      obtain⟨m5,e6,hm5⟩:gD w.heap.size (.agg #[I O u0,I O u1,I O u2,I O u3,I O u4,I O u5,I O u6,I O u7,I Q P2]) ms D E (vs 6) W:=hd 6 (by decide)
      clear hd
      go_simp
      exact⟨⟨m5,rfl,hm5⟩,F _ _⟩
     ·intro vs W kk h1 h2 hW hd
      obtain rfl:kk=0:=Nat.le_zero.1 h2
      refine aa rfl ?_
      obtain⟨m5,e7,hm5⟩:gD w.heap.size (.agg #[I O u0,I O u1,I O u2,I O u3,I O u4,I O u5,I O u6,I O u7,I Q P2]) ms D E (vs 7) W:=hd 7 (by decide)
      clear hd
      go_simp
      exact⟨rfl,F _ _⟩
     ·intro vs W kk h1 h2 hW hd
      refine aa rfl ?_
      obtain⟨m5,e7,hm5⟩:gD w.heap.size (.agg #[I O u0,I O u1,I O u2,I O u3,I O u4,I O u5,I O u6,I O u7,I Q P2]) ms D E (vs 7) W:=hd 7 (by decide)
      clear hd
      go_simp
      exact⟨hm5,F _ _⟩
     ·intro vs W kk h1 h2 hW hd
      refine aa rfl ?_
      obtain⟨m5,e7,hm5⟩:gD w.heap.size (.agg #[I O u0,I O u1,I O u2,I O u3,I O u4,I O u5,I O u6,I O u7,I Q P2]) ms D E (vs 7) W:=hd 7 (by decide)
      clear hd
      go_simp
      exact⟨rfl,F _ _⟩
     ·intro vs W kk h1 h2 hW hd
      refine aa rfl ?_
      obtain⟨m5,e7,hm5⟩:gD w.heap.size (.agg #[I O u0,I O u1,I O u2,I O u3,I O u4,I O u5,I O u6,I O u7,I Q P2]) ms D E (vs 7) W:=hd 7 (by decide)
      clear hd
      go_simp
      exact⟨rfl,F _ _⟩
     ·intro vs W hW hd
      have e8:vs 8=.agg #[I O u0,I O u1,I O u2,I O u3,I O u4,I O u5,I O u6,I O u7,I Q P2]:=hd 8 (by decide)
      obtain⟨jb,jc,jo⟩:uB w X { X with M:=M' } k RM W/\Cb W b9 [s0,s1,s2,s3,s4,s5,s6,s7] PC/\Bk W b10 61 #[K Z 0 0,I Q (-1),I Q AD,.bool WR,.bool T,I Q 0]:=id hW;have c0x:W.cell? ⟨X.x,0,Z⟩=V X.cv:=jb.ex.c0;have c1x:W.cell? ⟨X.x,1,Z⟩=V (I Q k.lo):=jb.ex.c1;have c2x:W.cell? ⟨X.x,2,Z⟩=V (I Q k.un):=jb.ex.c2;obtain⟨c0,c1,c2,c3,c4,c5,c6,c7,c8⟩:=jc.cells;have zf:=Bk.free jc;clear jb jc jo
      refine aM rfl ?_
      clear hd
      go_simp
      exact⟨rfl,Ek hFr hW⟩
     ·intro vs W kk h1 h2 hW hd
      refine aa rfl ?_
      clear hd
      go_simp
      exact⟨rfl,F _ _⟩
     ·intro vs W hW hd
      have h9:dH w.heap.size W (vs 9) ms:=hd 9 (by decide)
      obtain⟨a9,c9,e9x,-⟩:=h9.1.is
      have e13:vs 13=J (V ⟨b10,0,Z⟩):=hd 13 (by decide)
      obtain⟨jb,jc,jo⟩:uB w X { X with M:=M' } k RM W/\Cb W b9 [u0,u1,u2,u3,u4,u5,u6,u7] P2/\Bk W b10 61 #[K Z 0 0,I Q (-1),I Q AD,.bool WR,.bool T,I Q 0]:=id hW;obtain⟨o0,o1,o2,o3,o4,o5⟩:=jo.gS;have of:=Bk.free jo;clear jb jc jo
      refine aM rfl ?_
      clear hd
      go_simp
      rw[<-e9x]
      exact⟨rfl,Ej hFr hW h9⟩
     ·intro vs W kk h1 h2 hW hd
      refine aa rfl ?_
      clear hd
      go_simp
      exact⟨rfl,F _ _⟩
     ·intro vs W hW hd
      have e10:vs 10=I Q D:=hd 10 (by decide)
      have e15:vs 15=J (V ⟨b10,1,Z⟩):=hd 15 (by decide)
      obtain⟨jb,jc,v5,hv5,jo⟩:uB w X { X with M:=M' } k RM W/\Cb W b9 [u0,u1,u2,u3,u4,u5,u6,u7] P2/\∃ v,dH w.heap.size W v ms/\Bk W b10 61 #[v,I Q (-1),I Q AD,.bool WR,.bool T,I Q 0]:=id hW;obtain⟨o0,o1,o2,o3,o4,o5⟩:=jo.gS;have of:=Bk.free jo;clear jb jc jo hv5
      refine aM rfl ?_
      clear hd
      go_simp
      exact⟨rfl,Ei hFr hW⟩
     ·intro vs W kk h1 h2 hW hd
      refine aa rfl ?_
      clear hd
      go_simp
      exact⟨rfl,F _ _⟩
     ·intro vs W hW hd
      have e11:vs 11=I Q E:=hd 11 (by decide)
      have e17:vs 17=J (V ⟨b10,5,Z⟩):=hd 17 (by decide)
      obtain⟨jb,jc,v5,hv5,jo⟩:uB w X { X with M:=M' } k RM W/\Cb W b9 [u0,u1,u2,u3,u4,u5,u6,u7] P2/\∃ v,dH w.heap.size W v ms/\Bk W b10 61 #[v,I Q D,I Q AD,.bool WR,.bool T,I Q 0]:=id hW;obtain⟨o0,o1,o2,o3,o4,o5⟩:=jo.gS;have of:=Bk.free jo;clear jb jc jo hv5
      refine aM rfl ?_
      clear hd
      go_simp
      exact⟨rfl,Eh hFr hW⟩
    case gdone=>
     intro vs W hW hf
     have f0:vs 0=.agg #[I O s0,I O s1,I O s2,I O s3,I O s4,I O s5,I O s6,I O s7,I Q PC]:=hf 0 (by decide)
     have f1:vs 1=J (V ⟨X.x,0,Z⟩):=hf 1 (by decide)
     have f2:vs 2=J (V ⟨X.x,0,Z⟩):=hf 2 (by decide)
     have f3:vs 3=J (V ⟨X.x,0,Z⟩):=hf 3 (by decide)
     have f4:vs 4=.agg #[X.cv,I Q k.lo,I Q k.un]:=hf 4 (by decide)
     have f5:vs 5=I Q (t:Int):=hf 5 (by decide)
     have f8:vs 8=.agg #[I O u0,I O u1,I O u2,I O u3,I O u4,I O u5,I O u6,I O u7,I Q P2]:=hf 8 (by decide)
     have f10:vs 10=I Q D:=hf 10 (by decide)
     have f11:vs 11=I Q E:=hf 11 (by decide)
     have f13:vs 13=J (V ⟨b10,0,Z⟩):=hf 13 (by decide)
     have f15:vs 15=J (V ⟨b10,1,Z⟩):=hf 15 (by decide)
     have f17:vs 17=J (V ⟨b10,5,Z⟩):=hf 17 (by decide)
     simp only[f0,f1,f2,f3,f4,f5,f8,f10,f11,f13,f15,f17]
     clear f0 f1 f2 f3 f4 f5 f8 f10 f11 f13 f15 f17
     obtain⟨⟨hx,hst,q0⟩,c9,m2,hl5,o10⟩:uB w X { X with M:=M' } k RM W/\Cb W b9 [u0,u1,u2,u3,u4,u5,u6,u7] P2/\∃ v,dH w.heap.size W v ms/\Bk W b10 61 #[v,I Q D,I Q AD,.bool WR,.bool T,I Q E]:=id hW
     clear hW hf hS0 HRun
     generalize vs 6=w6 at *
     generalize vs 7=w7 at *
     generalize vs 9=w9 at *
     obtain⟨a9,ca9,e9,-⟩:=hl5.1.is
     subst e9
     go_upto_region 9 with fail
     have cx5:W.cell? ⟨X.x,5,Z⟩=V (K (V ⟨X.kb,0,Z⟩) k.n k.n):=hx.c5
     obtain⟨r0,r1,r2,r3,r4,r5,r6,r7,pc0,ec0⟩:=hx.bA ht
     obtain⟨k0,k1,k2,k3,k4,k5,k6,k7,k8⟩:_:=hx.core ht ec0
     have zf:∀ i,W.frozen? ⟨X.kb,i,Z⟩=T:=hx.free
     obtain⟨d0,d1,d2,d3,d4,d5,d6,d7,d8⟩:=c9.cells
     have hkb:X.kb<w.heap.size:=hOwn _ (.inr (.inr (.inl rfl)))
     have hkb2:w.heap.size≠X.kb:=by omega
     have hkb3:b10≠X.kb:=by have:=hFr.n9;have:=hFr.n10;omega
     go_region
     have h4:=hx.put ht (c:=⟨[u0,u1,u2,u3,u4,u5,u6,u7],P2⟩) HE9.out
     have hw4:ab W (ic W X.kb (t*9) (bP [u0,u1,u2,u3,u4,u5,u6,u7] P2)) (fun i=>i=X.kb):=.az (eF _ _ _) (by rintro i e;injection e with e;exact .inl e.symm)
     replace q0:=Bk.within q0 hw4 hkb2
     replace o10:=Bk.within o10 hw4 hkb3
     have l5:=dC hl5 hw4 (by rintro b' rfl;exact⟨_,_,hx.cores,by decide⟩)
     have st4:=hst.bp (bc.put (X:={ X with M:=M' }) (n:=k.n) (w:=W) (t:=t*9) (vs:=bP [u0,u1,u2,u3,u4,u5,u6,u7] P2))
     generalize hv4:(((((((((W.setCell ⟨X.kb,t*9,Z⟩ (I O u0)).setCell ⟨X.kb,t*9+1,Z⟩ (I O u1)).setCell ⟨X.kb,t*9+2,Z⟩ (I O u2)).setCell ⟨X.kb,t*9+3,Z⟩ (I O u3)).setCell ⟨X.kb,t*9+4,Z⟩ (I O u4)).setCell ⟨X.kb,t*9+5,Z⟩ (I O u5)).setCell ⟨X.kb,t*9+6,Z⟩ (I O u6)).setCell ⟨X.kb,t*9+7,Z⟩ (I O u7)).setCell ⟨X.kb,t*9+8,Z⟩ (I Q P2))=v4
     replace hv4:ic W X.kb (t*9) (bP [u0,u1,u2,u3,u4,u5,u6,u7] P2)=v4:=hv4
     have hv4':ic W (XP.kb { X with M:=M' }) (t*9) (bP [u0,u1,u2,u3,u4,u5,u6,u7] P2)=v4:=hv4
     simp only[hv4] at q0 o10 st4 l5
     replace h4:Ex v4 { X with M:=M' } k { RM with cs:=fA RM.cs t ⟨[u0,u1,u2,u3,u4,u5,u6,u7],P2⟩ }:=by rw[<-hv4];exact h4
     clear hv4 hv4' hw4 d0 d1 d2 d3 d4 d5 d6 d7 d8 k0 k1 k2 k3 k4 k5 k6 k7 k8 zf cx5 hx hst c9
     have hx:=h4.below (F _ v4).drew
     replace q0:Bk v4.drew w.heap.size 61 #[K Z 0 0,I Q 0,I Q 0,.bool T,.bool T,I Q 0]:=q0
     replace o10:Bk v4.drew b10 61 #[K a9 ms.length ca9,I Q D,I Q AD,.bool WR,.bool T,I Q E]:=o10
     replace l5:dH w.heap.size v4.drew _ ms:=l5
     have hst:=st4.grown (F _ v4).drew
     clear h4 st4
     generalize v4.drew=v5 at *
     obtain⟨n0,n1,n2,n3,n4,n5⟩:=o10.gS
     obtain⟨y0,y1,y2,y3,y4,y5⟩:=q0.gS
     have zf:=Bk.free q0
     have p1:=cm q0 (K a9 ms.length ca9) (I Q D) (I Q AD) (.bool WR) (.bool T) (I Q E)
     have p2:=bd (y:=v5) (g:=w.heap.size) (K a9 ms.length ca9) (I Q D) (I Q AD) (.bool WR) (.bool T) (I Q E)
     have l6:=dC (l5) p2 (by rintro b' rfl;exact⟨_,_,q0,by decide⟩)
     have h6:=hx.kept p2 (fun i hi e=>(hfar i hi).1 e)
     have st6:=hst.oU p2 (fun i e=>by omega)
     have HFE:=G (And.intro l6 (And.intro h6 st6))
     clear l6 h6 st6 hx hst
     go_wp2
     generalize hv9:((((((v5.setCell ⟨w.heap.size,0,Z⟩ (K a9 ms.length ca9)).setCell ⟨w.heap.size,1,Z⟩ (I Q D)).setCell ⟨w.heap.size,2,Z⟩ (I Q AD)).setCell ⟨w.heap.size,3,Z⟩ (.bool WR)).setCell ⟨w.heap.size,4,Z⟩ (.bool T)).setCell ⟨w.heap.size,5,Z⟩ (I Q E))=v9
     replace hv9:co v5 w.heap.size (K a9 ms.length ca9) (I Q D) (I Q AD) (.bool WR) (.bool T) (I Q E)=v9:=hv9
     rw[hv9] at p1 HFE
     clear hv9 p2 q0 y0 y1 y2 y3 y4 y5 zf
     obtain⟨o0,o1,o2,o3,o4,o5⟩:=p1.gS
     exact bodyPost_ret (v:=.agg #[K a9 ms.length ca9,I Q D,I Q AD,.bool WR,.bool T,I Q E]) (by simp[results,Tryz.results24,go_sem,o0,o1,o2,o3,o4,o5]) rfl (by show zY w X k (fh k RM t _ AD WR T) _ _;rw[HDo.out];exact⟨K a9 ms.length ca9,M',rfl,HFE.out.1,HFE.out.2.1,HFE.out.2.2⟩)
end
def BL (r7:List Int)(j:Nat):Nat->kX:=fun t=>if t<j then ⟨[0,0,0,0,0,0,0,aF r7 t],0⟩ else ⟨[0,0,0,0,0,0,0,0],0⟩
theorem Cd (r7:List Int):BL r7 0=fun _=>⟨[0,0,0,0,0,0,0,0],0⟩:=by funext t;simp[BL]
theorem yy (r7:List Int)(j:Nat):fA (BL r7 j) j ⟨(BL r7 j j).xs.set 7 (aF r7 j),(BL r7 j j).pc⟩=BL r7 (j+1):=by
 funext t
 unfold fA BL
 by_cases e:t=j
 ·subst e;simp
 ·by_cases h:t<j
  ·simp[e,h,show t<j+1 by omega]
  ·simp[e,h,show ¬ t<j+1 by omega]
theorem Bq {k:Lk}{init r7:List Int}(h:r7.length=k.n):BL r7 k.n=(oS k init r7).cs:=by
 funext t
 unfold BL oS
 by_cases e:t<k.n
 ·simp[e]
 ·have:aF r7 t=0:=by unfold aF;rw[List.getD_eq_getElem?_getD,List.getElem?_eq_none (by omega)];rfl
  simp[e,this]
theorem tq {cs:Nat->kX}{n:Nat}(h:∀ t,t<n->bh (cs t).xs){t j:Nat}(ht:t<n)(hj:j<8){v:Int}(hv:0<=v/\v<4294967296):(eU cs n).set (t*9+j) (I O v)=eU (fA cs t ⟨(cs t).xs.set j v,(cs t).pc⟩) n:=by
 have hc:bh ((⟨(cs t).xs.set j v,(cs t).pc⟩:kX).xs):=(h t ht).put j hv
 have h2:=eW (n:=n) h hc t
 have hl:=fX h
 have hl2:=fX h2
 apply List.ext_getElem?
 intro i
 by_cases hi:i<n*9
 ·obtain⟨s,q,hs,hq,rfl⟩:∃ s q,s<n/\q<9/\i=s*9+q:=⟨i / 9,i % 9,by omega,by omega,by omega⟩
  rw[List.getElem?_set,fR h2 hs hq,fR h hs hq]
  by_cases e:s=t
  ·subst e
   rw[kw]
   by_cases eq:q=j
   ·subst eq
    rw[if_pos rfl,if_pos (by omega)]
    have h8:=(h s hs).1
    simp only
    unfold bP
    rw[List.getElem?_append_left (by simp;omega),List.getElem?_map,List.getElem?_set_self (by omega)]
    rfl
   ·rw[if_neg (by omega)]
    simp only
    unfold bP
    rw[List.getElem?_append,List.getElem?_append]
    simp only[List.length_map,List.length_set]
    split
    ·rw[List.getElem?_map,List.getElem?_map,List.getElem?_set_ne (fun e=>eq e.symm)]
    ·rfl
  ·rw[if_neg (by omega),jg e]
 ·rw[List.getElem?_eq_none (by rw[List.length_set];omega),List.getElem?_eq_none (by omega)]
theorem sG (n:Nat):madeCells #[I O 0,I O 0,I O 0,I O 0,I O 0,I O 0,I O 0,I O 0,I Q 0] (n*9)=(eU (fun _=>⟨[0,0,0,0,0,0,0,0],0⟩) n).toArray:=by
 have h8:∀ t,t<n->bh ((fun _=>⟨[0,0,0,0,0,0,0,0],0⟩:Nat->kX) t).xs:=fun _ _=>⟨rfl,fC.ga 8⟩
 have hl:=fX h8
 apply Array.ext_getElem?
 intro i
 have hr:(eU (fun _=>⟨[0,0,0,0,0,0,0,0],0⟩) n).toArray[i]?=(eU (fun _=>⟨[0,0,0,0,0,0,0,0],0⟩) n)[i]?:=List.getElem?_toArray
 rw[hr]
 clear hr
 by_cases hi:i<n*9
 ·obtain⟨s,q,hs,hq,rfl⟩:∃ s q,s<n/\q<9/\i=s*9+q:=⟨i / 9,i % 9,by omega,by omega,by omega⟩
  rw[fR h8 hs hq]
  have e3:(s*9+q) % 9=q:=by omega
  have hq':q=0\/q=1\/q=2\/q=3\/q=4\/q=5\/q=6\/q=7\/q=8:=by omega
  have hsz:s*9+q<(madeCells #[I O 0,I O 0,I O 0,I O 0,I O 0,I O 0,I O 0,I O 0,I Q 0] (n*9)).size:=by rw[size_madeCells];exact hi
  rw[Array.getElem?_eq_getElem hsz]
  simp only[madeCells,Array.getElem_map,Array.getElem_range]
  simp only[List.size_toArray,List.length_cons,List.length_nil,Nat.zero_add,Nat.reduceAdd,e3]
  rcases hq' with rfl|rfl|rfl|rfl|rfl|rfl|rfl|rfl|rfl <;> rfl
 ·rw[Array.getElem?_eq_none (by rw[size_madeCells];omega),List.getElem?_eq_none (by omega)]
section
variable {w w':World}{X:XP}{k:Lk}{m:Mc}
theorem Ex.CH (h:Ex w X k m){t j:Nat}(ht:t<k.n)(hj:j<8){v:Int}(hv:0<=v/\v<4294967296):Ex (w.setCell ⟨X.kb,t*9+j,Z⟩ (I O v)) X k { m with cs:=fA m.cs t ⟨(m.cs t).xs.set j v,(m.cs t).pc⟩ }:=by
 have hW:ab w (w.setCell ⟨X.kb,t*9+j,Z⟩ (I O v)) (fun i=>i=X.kb):=(ab.refl _ _).put _ _ _ (.inl rfl)
 obtain⟨fr,os,cn,hp,hs⟩:=h.dV
 have hb:=h.cores.put (t*9+j) (I O v)
 rw[List.setIfInBounds_toArray,tq h.mc.cs ht hj hv] at hb
 refine⟨h.ptr.within hW (Bk.aj h.ptr h.cores (by decide)),aq h.code hW (fun g e e2=>?_),hb,h.mem.within hW (Bk.aj h.mem.ptr h.cores (by decide)) (Bk.aj h.mem.cel.ptr h.cores (by decide)) (Bk.aj h.mem.cel.row h.cores (by decide)) (Bk.aj h.mem.row h.cores (by decide)),
  ⟨fr,os,cn,hp.kept hW (Bk.aj hp.ptr h.cores (by decide)) (Bk.aj hp.row h.cores (by decide)) (fun i hi e=>hp.dz h.cores (by decide) (by decide) (e ▸ hi)),hs⟩,h.lk,⟨h.mc.ws,h.mc.len,eW h.mc.cs ((h.mc.cs t ht).put j hv) t⟩⟩
 obtain⟨cs',hcs⟩:=bf h.code e
 exact Bk.aj hcs h.cores (by decide) e2
def FS (w:World)(k:Lk)(init r7:List Int)(e:Ending)(w':World):Prop:=
 ∃ X,e=.returned (.tuple #[J (V ⟨X.x,0,Z⟩),I Q 0])/\Ex w' X k (oS k init r7)/\Below w.heap.size w w'/\∀ i,X.Own k.n i->w.heap.size<=i
theorem yz:(Tryz.prog.info? 107).map (fun i=>(i.zero,i.size,i.bytes))=V (V (.agg #[I O 0,I O 0,I O 0,I O 0,I O 0,I O 0,I O 0,I O 0,I Q 0]),9,40):=by kernel_rfl
def Fr (w:World)(k:Lk)(v:Value)(W:World):Prop:=∃ sl,v=.agg #[sl,I Q k.lo,I Q k.un]/\W.ownsRow w.heap.size 117 8 sl k.l.length (bE k.l)
def Fq (w:World)(k:Lk)(v:Value)(W:World):Prop:=∃ b,v=K (V ⟨b,0,Z⟩) k.n k.n/\w.heap.size<=b/\Bk W b 107 (eU (fun _=>⟨[0,0,0,0,0,0,0,0],0⟩) k.n).toArray
def Fp (w:World)(k:Lk)(p pp:Nat)(v:Value)(W:World):Prop:=∃ sl b,v=.agg #[sl,I Q k.lo,I Q k.un,J (V ⟨p,0,Z⟩),J (V ⟨pp,0,Z⟩),K (V ⟨b,0,Z⟩) k.n k.n]/\W.ownsRow w.heap.size 117 8 sl k.l.length (bE k.l)/\w.heap.size<=b/\Bk W b 107 (eU (fun _=>⟨[0,0,0,0,0,0,0,0],0⟩) k.n).toArray
def DW (w:World)(k:Lk)(p pp:Nat)(v:Value)(W:World):Prop:=∃ x sl b,v=J (V ⟨x,0,Z⟩)/\w.heap.size<=x/\Bk W x 104 #[sl,I Q k.lo,I Q k.un,J (V ⟨p,0,Z⟩),J (V ⟨pp,0,Z⟩),K (V ⟨b,0,Z⟩) k.n k.n]/\W.ownsRow w.heap.size 117 8 sl k.l.length (bE k.l)/\w.heap.size<=b/\Bk W b 107 (eU (fun _=>⟨[0,0,0,0,0,0,0,0],0⟩) k.n).toArray
theorem Fr.below {W W':World}{v:Value}(h:Fr w k v W)(hb:Below W.heap.size W W'):Fr w k v W':=by
 obtain⟨sl,e,h⟩:=h
 exact⟨sl,e,dM h hb⟩
theorem Fq.below {W W':World}{v:Value}(h:Fq w k v W)(hb:Below W.heap.size W W'):Fq w k v W':=by
 obtain⟨b,e,h1,h2⟩:=h
 exact⟨b,e,h1,(hb.block _ h2.lt).trans h2⟩
theorem Fp.below {W W':World}{p pp:Nat}{v:Value}(h:Fp w k p pp v W)(hb:Below W.heap.size W W'):Fp w k p pp v W':=by
 obtain⟨sl,b,e,h1,h2,h3⟩:=h
 exact⟨sl,b,e,dM h1 hb,h2,(hb.block _ h3.lt).trans h3⟩
theorem DW.below {W W':World}{p pp:Nat}{v:Value}(h:DW w k p pp v W)(hb:Below W.heap.size W W'):DW w k p pp v W':=by
 obtain⟨x,sl,b,e,h1,h2,h3,h4,h5⟩:=h
 exact⟨x,sl,b,e,h1,(hb.block _ h2.lt).trans h2,dM h3 hb,h4,(hb.block _ h5.lt).trans h5⟩
theorem Fy {v:Value}{init r7:List Int}(hk:mE k)(hv:Sv w v ⟨k.l,k.lo,k.un⟩ k.zs init r7 k.each)(hi:init.length=jn k.zs)(hiu:fC init)(hr:r7.length=k.n)(hru:fC r7):
 Calls Tryz.prog 19 #[v,I Q k.n] w (FS w k init r7):=by
 have HI:=G (And.intro hi (And.intro hiu (And.intro hr hru)))
 clear hi hiu hr hru
 have hn1:=hk.n1
 have hn64:=hk.n64
 have hl64:=hk.parts.2.1
 obtain⟨aL,cL,aS,cS,aI,cI,aR,cR,rfl,hpv,hgS,hgI,hgR,hm1,hm2,hm3⟩:=hv
 simp only at hpv ⊢
 obtain⟨i0,hi0,hz0,hz1,hz2⟩:=info_parts yz
 have hmk:=fun W:World=>run_make (P:=Tryz.prog) W 102 107 i0 _ Tryz.underlying102 hi0 hz0 .i64 .i64 k.n k.n (by omega) (by omega) (by rw[hz2];omega) (by omega)
 rw[hz1] at hmk
 clear hi0 hz0 hz1 hz2
 have HMK:=G hmk
 clear hmk
 have q0:=Bk.made w 28 #[K aL k.l.length cL,I Q k.lo,I Q k.un,K aS k.zs.length cS,K aI init.length cI,I Q k.each,K aR r7.length cR]
 have b0:Below w.heap.size w (w.alloc (H #[K aL k.l.length cL,I Q k.lo,I Q k.un,K aS k.zs.length cS,K aI init.length cI,I Q k.each,K aR r7.length cR] 28)):=(F _ _).alloc (C _) _
 go_enter Tryz.func19,Tryz.ntmps19
 go_upto_region 1 with fail
 generalize w.alloc (H #[K aL k.l.length cL,I Q k.lo,I Q k.un,K aS k.zs.length cS,K aI init.length cI,I Q k.each,K aR r7.length cR] 28)=y at *
 have hR:=tz ⟨k.l,k.lo,k.un⟩ _ y (hpv.below b0) hk.k32
 rw[hk.code] at hR
 obtain⟨y0,y1,y2,y3,y4,y5,y6⟩:=q0.BK
 go_wp2_with fail
 refine hR.mono ?_
 rintro e z1 ⟨rfl,hz⟩
 have q1:=(hz.block _ q0.lt).trans q0
 have b1:=b0.trans (hz.mono b0.size)
 clear q0 b0 hz hR y0 y1 y2 y3 y4 y5 y6
 have hlen:((r7.length:Int) != (k.n:Int))=T:=by rw[HI.out.2.2.1];simp
 obtain⟨y0,y1,y2,y3,y4,y5,y6⟩:z1.cell? ⟨w.heap.size,0,Z⟩=V (K aL k.l.length cL)/\z1.cell? ⟨w.heap.size,1,Z⟩=V (I Q k.lo)/\z1.cell? ⟨w.heap.size,2,Z⟩=V (I Q k.un)/\z1.cell? ⟨w.heap.size,3,Z⟩=V (K aS k.zs.length cS)/\z1.cell? ⟨w.heap.size,4,Z⟩=V (K aI init.length cI)/\z1.cell? ⟨w.heap.size,5,Z⟩=V (I Q k.each)/\z1.cell? ⟨w.heap.size,6,Z⟩=V (K aR r7.length cR):=⟨Bk.cell q1 0,Bk.cell q1 1,Bk.cell q1 2,Bk.cell q1 3,Bk.cell q1 4,Bk.cell q1 5,Bk.cell q1 6⟩
 have hM:=FF (hgS.below b1) (hgI.below b1) hk.zs HI.out.1.symm (by rw[HI.out.1];exact hk.few) HI.out.2.1 cS cI
 go_wp2_with fail
 refine hM.mono ?_
 rintro e z2 ⟨p,q,g,s,rfl,hMm,hbnd,hgr⟩
 have hz:=aO hgr
 have q2:=(hz.block _ (Bk.lt q1)).trans q1
 have b2:=b1.trans (hz.mono b1.size)
 clear hM hgr y0 y1 y2 y3 y4 y5 y6 hz q1 hlen
 have hbw:=b1.size
 obtain⟨y0,y1,y2,y3,y4,y5,y6⟩:z2.cell? ⟨w.heap.size,0,Z⟩=V (K aL k.l.length cL)/\z2.cell? ⟨w.heap.size,1,Z⟩=V (I Q k.lo)/\z2.cell? ⟨w.heap.size,2,Z⟩=V (I Q k.un)/\z2.cell? ⟨w.heap.size,3,Z⟩=V (K aS k.zs.length cS)/\z2.cell? ⟨w.heap.size,4,Z⟩=V (K aI init.length cI)/\z2.cell? ⟨w.heap.size,5,Z⟩=V (I Q k.each)/\z2.cell? ⟨w.heap.size,6,Z⟩=V (K aR r7.length cR):=⟨Bk.cell q2 0,Bk.cell q2 1,Bk.cell q2 2,Bk.cell q2 3,Bk.cell q2 4,Bk.cell q2 5,Bk.cell q2 6⟩
 have hP:=Eu k.n k.each hn1 hn64 hk.each z2
 go_wp2_with fail
 refine hP.mono ?_
 rintro e z3 ⟨pp,M,rfl,hPl,hgr,hMn,hpn,hgn⟩
 have hz:=aO hgr
 have q3:=(hz.block _ (Bk.lt q2)).trans q2
 have b3:=b2.trans (hz.mono b2.size)
 replace hMm:=hMm.grown hgr
 clear hP hgr y0 y1 y2 y3 y4 y5 y6 hz q2
 have hbw2:=b2.size
 have hNW:Hid ((w.heap.size<=p/\w.heap.size<=q/\w.heap.size<=g/\w.heap.size<=s)/\w.heap.size<=pp/\w.heap.size<=M.g/\∀ i,M.Has k.n i->w.heap.size<=i):=G ⟨by omega,by omega,by omega,fun i hi=>Nat.le_trans hbw2 (hMn i hi)⟩
 clear hbnd hMn hpn hgn hbw hbw2 b1 b2
 have hPA:zD z3 pp k.n k.each M (oR k.n k.each):=⟨_,_,_,hPl,qF k.n k.each hn64 hk.each⟩
 clear hPl
 have HCP:=G (fun W (hW:Below w.heap.size w W)=>EP ⟨k.l,k.lo,k.un⟩ _ W (hpv.below hW) (by show k.l.length<=1000;omega))
 go_upto_region 9 with fail
 refine cg [] (fun _ W=>Bk W w.heap.size 28 #[K aL k.l.length cL,I Q k.lo,I Q k.un,K aS k.zs.length cS,K aI init.length cI,I Q k.each,K aR r7.length cR]/\Below w.heap.size w W/\Below z3.heap.size z3 W) (fun _ _ _=>False) (fun vs=>{ tmps:=#[.agg #[K aL k.l.length cL,I Q k.lo,I Q k.un,K aS k.zs.length cS,K aI init.length cI,I Q (k.each:Int),K aR r7.length cR],I Q (k.n:Int),J (V ⟨w.heap.size,0,Z⟩),L,.pointer Z,I Q 0,J (V ⟨p,0,Z⟩),I Q 0,J (V ⟨pp,0,Z⟩),vs 9,L,L,J (V ⟨w.heap.size,0,Z⟩),.agg #[K aL k.l.length cL,I Q k.lo,I Q k.un],.bool U,.bool T,.bool T,J (V ⟨w.heap.size,6,Z⟩),K aR r7.length cR,I Q (r7.length:Int),I Q (k.n:Int),.bool T,.bool T,.tuple #[J (V ⟨p,0,Z⟩),I Q 0],J (V ⟨w.heap.size,3,Z⟩),K aS k.zs.length cS,J (V ⟨w.heap.size,4,Z⟩),K aI init.length cI,.tuple #[J (V ⟨p,0,Z⟩),I Q 0],J (V ⟨p,0,Z⟩),I Q 0,I Q 0,.bool T,.tuple #[J (V ⟨pp,0,Z⟩),I Q 0],I Q (k.n:Int),J (V ⟨w.heap.size,5,Z⟩),I Q (k.each:Int),.tuple #[J (V ⟨pp,0,Z⟩),I Q 0],J (V ⟨pp,0,Z⟩),I Q 0,I Q 0,.bool T,vs 0,vs 1,vs 2,vs 3,vs 4,vs 5,vs 6,vs 7,vs 8,L,L,L,L,L,L,L,L,L,L,L,L,L,L,L,L,L,L,L],defers:=[] }) (lE [(2,(Fr w k)),(6,(Fq w k)),(7,(Fp w k p pp)),(8,(DW w k p pp)),(9,(DW w k p pp))] [J (V ⟨w.heap.size,0,Z⟩),.agg #[K aL k.l.length cL,I Q k.lo,I Q k.un],L,J (V ⟨p,0,Z⟩),J (V ⟨pp,0,Z⟩),I Q (k.n:Int),L,L,L,L]) ?ghm ?ghr ?ghc ?ghnd ?ghlit ?gh0 ?ghW ?ghF ?ghS ?gops ?gdone
 case ghm=>kernel_rfl
 case ghr=>kernel_rfl
 case ghc=>kernel_rfl
 case ghnd=>decide
 case ghlit=>intro vs;rfl
 case gh0=>exact⟨q3,b3,F _ _⟩
 case ghW=>exact fun kk W W2 h hb=>⟨(hb.block _ (Bk.lt h.1)).trans h.1,h.2.1.trans (hb.mono h.2.1.size),h.2.2.trans (hb.mono h.2.2.size)⟩
 case ghF=>exact dB (by
  intro p0 hp
  simp only[List.mem_cons,List.not_mem_nil,or_false] at hp
  rcases hp with rfl|rfl|rfl|rfl|rfl
  ·exact fun v W W2 h hb=>Fr.below h hb
  ·exact fun v W W2 h hb=>Fq.below h hb
  ·exact fun v W W2 h hb=>Fp.below h hb
  ·exact fun v W W2 h hb=>DW.below h hb
  ·exact fun v W W2 h hb=>DW.below h hb)
 case ghS=>exact fun kk W W2 _ hs i v h=>hs.elim
 case gops=>
  refine⟨?_,?_,?_,?_,?_,?_,?_,?_,?_,?_,trivial⟩
  ·intro vs W kk h1 h2 hW hd
   obtain rfl:kk=0:=Nat.le_zero.1 h2
   refine aa rfl ?_
   clear hd
   go_simp
   exact⟨rfl,F _ _⟩
  ·intro vs W kk h1 h2 hW hd
   obtain rfl:kk=0:=Nat.le_zero.1 h2
   refine aa rfl ?_
   have e0:vs 0=J (V ⟨w.heap.size,0,Z⟩):=hd 0 (by decide)
   have hq:Bk W w.heap.size 28 #[K aL k.l.length cL,I Q k.lo,I Q k.un,K aS k.zs.length cS,K aI init.length cI,I Q k.each,K aR r7.length cR]:=hW.1;obtain⟨y0,y1,y2⟩:=hq.lz;clear hq
   clear hd
   go_simp
   exact⟨rfl,F _ _⟩
  ·intro vs W kk h1 h2 hW hd
   obtain rfl:kk=0:=Nat.le_zero.1 h2
   refine aa rfl ?_
   have e1:vs 1=.agg #[K aL k.l.length cL,I Q k.lo,I Q k.un]:=hd 1 (by decide)
   have HS:=G (HCP.out W hW.2.1)
   have hsz:=hW.2.1.size
   clear hd
   go_simp
   refine HS.out.mono ?_
   rintro e zz ⟨v9,he,⟨sl,e9,ho⟩,hb⟩
   exact⟨v9,he,⟨sl,e9,World.ownsRow.mono (base':=w.heap.size) ho hsz⟩,hb⟩
  ·intro vs W kk h1 h2 hW hd
   obtain rfl:kk=0:=Nat.le_zero.1 h2
   refine aa rfl ?_
   clear hd
   go_simp
   exact⟨rfl,F _ _⟩
  ·intro vs W kk h1 h2 hW hd
   obtain rfl:kk=0:=Nat.le_zero.1 h2
   refine aa rfl ?_
   clear hd
   go_simp
   exact⟨rfl,F _ _⟩
  ·intro vs W kk h1 h2 hW hd
   obtain rfl:kk=0:=Nat.le_zero.1 h2
   refine aa rfl ?_
   clear hd
   go_simp
   exact⟨rfl,F _ _⟩
  ·intro vs W kk h1 h2 hW hd
   obtain rfl:kk=0:=Nat.le_zero.1 h2
   refine aa rfl ?_
   have e5:vs 5=I Q (k.n:Int):=hd 5 (by decide)
   have hmk:=HMK.out W
   have hsz:=hW.2.1.size
   clear hd
   go_simp
   exact⟨⟨W.heap.size,rfl,hsz,by rw[<-sG];exact Bk.made _ _ _⟩,(F _ _).alloc (C _) _⟩
  ·intro vs W kk h1 h2 hW hd
   obtain rfl:kk=0:=Nat.le_zero.1 h2
   refine aa rfl ?_
   have e3:vs 3=J (V ⟨p,0,Z⟩):=hd 3 (by decide)
   have e4:vs 4=J (V ⟨pp,0,Z⟩):=hd 4 (by decide)
   obtain⟨sl,e2,ho⟩:Fr w k (vs 2) W:=hd 2 (by decide)
   obtain⟨kb,e6,hkb,hk6⟩:Fq w k (vs 6) W:=hd 6 (by decide)
   clear hd
   go_simp
   exact⟨⟨sl,kb,rfl,ho,hkb,hk6⟩,F _ _⟩
  ·intro vs W kk h1 h2 hW hd
   obtain rfl:kk=0:=Nat.le_zero.1 h2
   refine aa rfl ?_
   obtain⟨sl,kb,e7,ho,hkb,hk6⟩:Fp w k p pp (vs 7) W:=hd 7 (by decide)
   have hsz:=hW.2.1.size
   clear hd
   go_simp
   exact⟨⟨W.heap.size,sl,kb,rfl,hsz,Bk.made _ _ _,aq ho ((ab.refl _ (fun _=>False)).alloc _) (by simp),hkb,Bk.alloc hk6 _⟩,(F _ _).alloc (C _) _⟩
  ·intro vs W kk h1 h2 hW hd
   obtain rfl:kk=0:=Nat.le_zero.1 h2
   refine aa rfl ?_
   have h8:DW w k p pp (vs 8) W:=hd 8 (by decide)
   clear hd
   go_simp
   exact⟨h8,F _ _⟩
 case gdone=>
  intro vs W hW hf
  have f0:vs 0=J (V ⟨w.heap.size,0,Z⟩):=hf 0 (by decide)
  have f1:vs 1=.agg #[K aL k.l.length cL,I Q k.lo,I Q k.un]:=hf 1 (by decide)
  have f3:vs 3=J (V ⟨p,0,Z⟩):=hf 3 (by decide)
  have f4:vs 4=J (V ⟨pp,0,Z⟩):=hf 4 (by decide)
  have f5:vs 5=I Q (k.n:Int):=hf 5 (by decide)
  simp only[f0,f1,f3,f4,f5]
  clear f0 f1 f3 f4 f5
  have h9:DW w k p pp (vs 9) W:=hf 9 (by decide)
  obtain⟨x,sl,kb,e9,hx,hBx,ho,hkb,hBk⟩:=h9
  simp only[e9]
  clear hf
  generalize vs 2=w2 at *
  generalize vs 6=w6 at *
  generalize vs 7=w7 at *
  generalize vs 8=w8 at *
  obtain⟨hqW,hbW,hzW⟩:=hW
  obtain⟨fr0,os0,cn0,hPl,hSm⟩:=hPA
  have hX:Ex W ⟨x,sl,kb,p,q,g,s,pp,M⟩ k { oS k init r7 with cs:=BL r7 0 }:=by
   refine⟨hBx,World.ownsRow.mono (base':=0) ho (Nat.zero_le _),?_,hMm.grown (bN hzW),⟨fr0,os0,cn0,hPl.grown (bN hzW),hSm⟩,hk,⟨HI.out.2.1,HI.out.1,?_⟩⟩
   ·rw[Cd];exact hBk
   ·intro t ht
    rw[Cd]
    exact⟨rfl,fC.ga 8⟩
  have hOwn:Hid (∀ i,XP.Own ⟨x,sl,kb,p,q,g,s,pp,M⟩ k.n i->w.heap.size<=i):=G fun i hi=>by
   obtain⟨⟨n1,n2,n3,n4⟩,n5,n6,n7⟩:=hNW.out
   rcases hi with e | e | e | e | e | e | e | e | e | e
   ·simp only at e;omega
   ·exact(World.ownsRow.lt ho i e).1
   ·simp only at e;omega
   ·simp only at e;omega
   ·simp only at e;omega
   ·simp only at e;omega
   ·simp only at e;omega
   ·simp only at e;omega
   ·simp only at e;omega
   ·exact n7 i e
  have hqW6:Hid (W.cell? ⟨w.heap.size,6,Z⟩=V (K aR r7.length cR)):=G (Bk.cell hqW 6)
  clear hBx ho hBk hMm hPl hSm hqW hzW q3 b3 hNW HCP HMK hx hkb
  have c5x:W.cell? ⟨w.heap.size,6,Z⟩=V (K aR r7.length cR):=hqW6.out
  go_wp2
  go_loopw [54] (fun i wr=>∃ j:Nat,j<=k.n/\i=I Q j/\Ex wr ⟨x,sl,kb,p,q,g,s,pp,M⟩ k { oS k init r7 with cs:=BL r7 j }/\Below w.heap.size w wr) (fun i _=>k.n-(intOf i).toNat)
  case atStart=>exact⟨0,Nat.zero_le _,rfl,hX,hbW⟩
  case round=>
   clear hX hbW c5x
   obtain⟨j,hj,rfl,hX,hbr⟩:=hrel
   by_cases hlt:j<k.n
   ·have hji:(j:Int)<k.n:=by omega
    have hrl:(j:Int)<r7.length:=by rw[HI.out.2.2.1];omega
    have hrl2:j<r7.length:=by rw[HI.out.2.2.1];omega
    obtain⟨b',off,rfl,hcell⟩:=(hgR.below hbr).here hrl2
    have hc5:wr.cell? ⟨x,5,Z⟩=V (K (V ⟨kb,0,Z⟩) k.n k.n):=hX.c5
    have hc7:wr.cell? ⟨kb,j*9+7,Z⟩=V (I O 0):=(hX.uw hlt (j:=7) (by omega)).trans (by unfold BL;simp[bP])
    have hz7:=hX.free
    have hst:=hX.CH hlt (j:=7) (by omega) (HI.out.2.2.2.at_ j)
    have HST:Hid (Ex (wr.setCell ⟨kb,j*9+7,Z⟩ (I O (aF r7 j))) ⟨x,sl,kb,p,q,g,s,pp,M⟩ k { oS k init r7 with cs:=BL r7 (j+1) }):=G (by rw[<-yy];exact hst)
    have HBR:=G (hbr.setCell (p:=⟨kb,j*9+7,Z⟩) (hOwn.out kb (.inr (.inr (.inl rfl)))) (I O (aF r7 j)))
    clear hst hX hbr
    go_wp2
    go_roundw
    case rel=>exact⟨j+1,by omega,by go_num,HST.out,HBR.out⟩
    case measure=>simp[intOf];omega
   ·obtain rfl:j=k.n:=by omega
    have hrl:¬ (k.n:Int)<r7.length:=by rw[HI.out.2.2.1];omega
    rw[Bq (init:=init) HI.out.2.2.1] at hX
    go_wp2
    go_ret2
    exact⟨_,rfl,hX,hbr,hOwn.out⟩
end
structure FR (c:im)(zs init r7:List Int)(each threads:Int):Prop where
 rz:dU zs
 few:jn zs<=8192
 len:init.length=jn zs
 n1:1<=threads
 n64:threads<=64
 e0:0<=each
 e8:each<=8
 rl:(r7.length:Int)=threads
 code:p9 c=U
theorem qj {w W W':World}{n:Nat}{X X':XP}(b:Below w.heap.size w W)(hO:∀ i,X.Own n i->w.heap.size<=i)(s:bc W n X W' X'):Below w.heap.size w W'/\∀ i,X'.Own n i->w.heap.size<=i:=
 ⟨⟨s.1.os.trans b.os,s.1.tape.trans b.tape,s.1.output.trans b.output,Nat.le_trans b.size s.1.size,fun i hi=>(s.1.block i (Nat.lt_of_lt_of_le hi b.size) (fun e=>by have:=hO i (XP.i4 e);omega)).trans (b.block i hi)⟩,
  fun i hi=>by
   rcases s.2.1 i hi with e | e
   ·exact hO i e
   ·exact Nat.le_trans b.size e⟩
