import Derived.Test.YtieiifdhdjhnoaaGreatDoorQStGr
set_option linter.unusedVariables false
set_option maxHeartbeats 4000000
set_option maxRecDepth 100000
open Go.Value renaming int->I,slice->V,pointer->P
open Go.IntKind renaming i64->Q
open Option renaming none->N,some->O
open Bool renaming false->Z
open Go.Lib renaming hid->S
open Nat renaming le_refl->T
namespace Go.Proofs.YtieiifdhdjhnoaaGreatDoor
open Go.ChangeShapes Go.WideShapes Go.ChangeAt Go.RowKit
section
variable {w:World}{k:Lk}
theorem Er {base:Nat}{v:Value}{init r7:List Int}(ops:List oK)(cap1:Nat)(ab:Option Addr)(hb:base<=w.heap.size)(hk:gH k)(he:k.each=0)(hv:Rv base w v ⟨k.l,k.lo,k.un⟩ k.zs init r7 k.each)(hi:init.length=jP k.zs)(hiu:gF init)(hr:r7.length=k.n)(hru:gF r7)
 (ho:pa base w ab ops) (hlen:ops.length<=3000) (t lock unlock:Nat) (ht:t<k.n) (hlo:lock<=100) (hun:unlock<=100) (r2 r3 r4:Rn)
 (e2:fO k 5000 (fo k (jM k init r7) (ops.map oK.op))=(true,r2)) (b2:r2.bad=Z) (e3:bt k t lock (dN k r2 ⟨1,t,Z⟩)=r3) (a3:r3.act t=2)
 (e4:bt k t unlock (dN k r3 ⟨2,t,Z⟩)=r4) (b4:r4.bad=Z) (a4:r4.act t=0) (c4:cj k.n r4.l=r4.l.length) (hs:gG k):
 Calls Tryz.prog 18 #[v,I Q k.n,V ab ops.length cap1,I Q t,I Q lock,I Q unlock] w fun e w'=>e=.returned (.bool true)/\ag w w' (fun i=>base<=i):=by
 have HBg:Hid (∀ W,Below w.heap.size w W->Calls Tryz.prog 35 #[v,I Q k.n] W fun e w'=>∃ U:RP,e=.returned (P (O ⟨U.g,0,N⟩))/\Fu base k init r7 U w'/\Below W.heap.size W w'):=S (fun W hW=>vE (Nat.le_trans hb hW.size) hk (hv.below hW) hi hiu hr hru)
 have HRL:Hid (∀ j,j<=ops.length->(fo k (jM k init r7) ((ops.take j).map oK.op)).l.length<=258*3000):=S (fun j hj=>by
  have:=nV hk ((ops.take j).map oK.op) (jM k init r7)
  have h0:(jM k init r7).l.length=0:=rfl
  rw[h0,List.length_map,List.length_take] at this
  have h2:min j ops.length<=3000:=by omega
  have h3:258*min j ops.length<=258*3000:=Nat.mul_le_mul_left _ h2
  omega)
 have HTk:Hid ((ops.take ops.length).map oK.op=ops.map oK.op):=S (by rw[List.take_length])
 have HR2:Hid (r2.l.length<=84000000):=S (by
  have h1:=tH hk 5000 (fo k (jM k init r7) (ops.map oK.op))
  have h2:=HRL.out ops.length (T _)
  rw[HTk.out] at h2
  rw[e2] at h1
  simp only at h1
  have h3:258*k.n*5000<=258*64*5000:=Nat.mul_le_mul_right _ (Nat.mul_le_mul_left _ hk.n64)
  omega)
 have HA:Hid (∀ j,j<=lock->(bt k t j (dN k r2 ⟨1,t,Z⟩)).l.length<=84000000+258*101):=S (fun j hj=>by
  have h1:=jR hk t (dN k r2 ⟨1,t,Z⟩) j
  have h2:=ka hk r2 ⟨1,t,Z⟩
  have h3:=HR2.out
  omega)
 have HC:Hid (∀ j,j<=unlock->(bt k t j (dN k r3 ⟨2,t,Z⟩)).l.length<=84000000+258*202):=S (fun j hj=>by
  have h1:=jR hk t (dN k r3 ⟨2,t,Z⟩) j
  have h2:=ka hk r3 ⟨2,t,Z⟩
  have h3:=HA.out lock (T _)
  rw[e3] at h3
  omega)
 have HSn:=S (fun j h=>pw k (jM k init r7) ops j h)
 have HSA:=S (fun j=>gN k t j (dN k r2 ⟨1,t,Z⟩))
 have HSC:=S (fun j=>gN k t j (dN k r3 ⟨2,t,Z⟩))
 have HZA:Hid (bt k t 0 (dN k r2 ⟨1,t,Z⟩)=dN k r2 ⟨1,t,Z⟩):=S rfl
 have HZC:Hid (bt k t 0 (dN k r3 ⟨2,t,Z⟩)=dN k r3 ⟨2,t,Z⟩):=S rfl
 have HE:=S (And.intro e2 (And.intro e3 e4))
 have HF:=S (And.intro b2 (And.intro a3 (And.intro b4 (And.intro a4 c4))))
 have hn64:=hk.n64
 have HHb:=S hb
 obtain⟨sl,aS,cS,aI,cI,aR,cR,rfl,hsl,-⟩:=hv
 simp only at hsl HBg ⊢
 obtain⟨aL,cL,rfl,_⟩:=aX hsl
 have HO:=S ho
 have e0:((k.each:Nat):Int)=0:=by rw[he];rfl
 rw[e0] at HBg ⊢
 have hbz:Below w.heap.size w (w.alloc (.cells #[V aL k.l.length cL,I Q k.lo,I Q k.un,V aS k.zs.length cS,V aI init.length cI,I Q 0,V aR r7.length cR] 36)):=(Below.refl _ _).alloc (T _) _
 have hB:=Bk.made w 36 #[V aL k.l.length cL,I Q k.lo,I Q k.un,V aS k.zs.length cS,V aI init.length cI,I Q 0,V aR r7.length cR]
 clear hsl hk hi hiu hr hru ho e2 e3 e4 b2 a3 b4 a4 c4 he e0
 generalize hrn:jM k init r7=rn at *
 go_enter Tryz.func18,Tryz.ntmps18
 go_upto_region 1 with fail
 generalize w.alloc (.cells #[V aL k.l.length cL,I Q k.lo,I Q k.un,V aS k.zs.length cS,V aI init.length cI,I Q 0,V aR r7.length cR] 36)=z at *
 obtain⟨y0,y1,y2,y3,y4,y5,y6⟩:=hB.lZ
 have HC1:=S (HBg.out z hbz)
 clear HBg
 go_wp2_with fail
 refine HC1.out.mono ?_
 rintro e w2 ⟨U,rfl,hU,hw2⟩
 clear HC1 y0 y1 y2 y3 y4 y5 y6
 have h2:=hbz.trans (hw2.mono hbz.size)
 obtain⟨g,hg⟩:∃ g,U.g=g:=⟨_,rfl⟩
 rw[hg]
 obtain⟨bx,hbx⟩:∃ bx,w.heap.size=bx:=⟨_,rfl⟩
 have HR0:Hid (qo base w k g bx #[V aL k.l.length cL,I Q k.lo,I Q k.un,V aS k.zs.length cS,V aI init.length cI,I Q 0,V aR r7.length cR] rn w2):=S ⟨U,⟨by rw[<-hrn];exact hU.1,hU.2,hg⟩,(af h2).wide (S':=fun i=>base<=i) (by simp),by rw[<-hbx];exact(hw2.block _ (Bk.lt hB)).trans hB⟩
 rw[hbx]
 clear hU hB hbz hw2 hg h2
 go_wp2
 go_loopw [24] (fun x wr=>∃ (j:Nat),x=I Q j/\j<=ops.length/\Hid (qo base w k g bx #[V aL k.l.length cL,I Q k.lo,I Q k.un,V aS k.zs.length cS,V aI init.length cI,I Q 0,V aR r7.length cR] (fo k rn ((ops.take j).map oK.op)) wr)) (fun x _=>ops.length-(intOf x).toNat)
 case atStart=>exact⟨0,rfl,Nat.zero_le _,HR0⟩
 case round=>
  clear HR0
  obtain⟨j,rfl,hj,HR⟩:=hrel
  by_cases hlt:j<ops.length
  ·have hji:(j:Int)<ops.length:=by omega
   have hS:=HO.out.within HR.out.win HHb.out (fun i h=>h)
   obtain⟨b,off,rfl,hbb,hcs⟩:=hS (by omega)
   obtain⟨c0,c1,c2⟩:=hcs j ops[j] (List.getElem?_eq_getElem hlt)
   have hN:=HSn.out j hlt
   try rw[hrn] at hN
   have hlr:=HRL.out j hj
   try rw[hrn] at hlr
   have HOpr:Hid (∀ W,Below wr.heap.size wr W->Calls Tryz.prog 36 #[P (O ⟨g,0,N⟩),.agg #[I Q ops[j].kd,I Q ops[j].t,I Q ops[j].L]] W fun e w'=>e=.returned (.tuple #[])/\qo base w k g bx #[V aL k.l.length cL,I Q k.lo,I Q k.un,V aS k.zs.length cS,V aI init.length cI,I Q 0,V aR r7.length cR] (fo k rn ((ops.take (j+1)).map oK.op)) w'):=S (fun W hW=>by
    rw[hN]
    exact oF (HR.out.below HHb.out hW) HHb.out ops[j].kd ops[j].t ops[j].L (decide (ops[j].L≠0)) rfl (by omega) hs)
   generalize ops[j]=x at *
   obtain⟨kd,tt,L⟩:=x
   simp only at c0 c1 c2 HOpr
   clear hS hcs hN hlr HR
   go_upto_region 5 with fail
   have hb5:Below wr.heap.size wr (wr.alloc (.cells #[I Q kd,I Q tt,I Q L] 58)):=(Below.refl _ _).alloc (T _) _
   have hB5:=Bk.made wr 58 #[I Q kd,I Q tt,I Q L]
   have hc5:=HOpr.out _ hb5
   clear HOpr hb5
   generalize wr.alloc (.cells #[I Q kd,I Q tt,I Q L] 58)=z5 at *
   obtain⟨e0,e1,e2⟩:=hB5.iS
   have HC5:=S hc5
   clear hc5 hB5 c0 c1 c2
   go_wp2_with fail
   refine HC5.out.mono ?_
   rintro e w5 ⟨rfl,h3⟩
   have N3:=S h3
   clear h3 HC5 e0 e1 e2
   go_wp2
   go_roundw
   case rel=>exact⟨j+1,by go_num,by omega,N3⟩
   case measure=>simp[intOf];omega
  ·obtain rfl:j=ops.length:=by omega
   have HFn:Hid (Calls Tryz.prog 38 #[P (O ⟨g,0,N⟩)] wr fun e w'=>e=.returned (.bool true)/\qo base w k g bx #[V aL k.l.length cL,I Q k.lo,I Q k.un,V aS k.zs.length cS,V aI init.length cI,I Q 0,V aR r7.length cR] r2 w'):=S (by
    have h0:=HR.out
    rw[HTk.out] at h0
    have h1:=uj h0 HHb.out (by
     have h9:=HRL.out ops.length (T _);rw[HTk.out] at h9;try rw[hrn] at h9
     omega) hs
    have h8:=HE.out.1
    try rw[hrn] at h8
    rw[h8] at h1
    exact h1)
   clear HR
   go_wp2_with fail
   refine HFn.out.mono ?_
   rintro e w3 ⟨rfl,h3⟩
   obtain⟨c3,-⟩:=h3.c
   rw[HF.out.1] at c3
   replace c3:w3.cell? ⟨g,3,N⟩=O (I Q 0):=c3
   have hbox:=h3.box
   have y5:w3.cell? ⟨bx,5,N⟩=O (I Q 0):=hbox.cell 5
   have H3:=S h3
   clear h3 HFn hbox
   go_upto_region 9 with fail
   clear c3
   go_quiet (fail)
   clear y5
   have h4:=H3.out.below HHb.out (aj w3 nq)
   generalize w3.drewN nq=w4 at *
   have HO1:=S (oF h4 HHb.out 1 t 0 Z rfl (by have h9:=HR2.out;omega) hs)
   clear h4 H3
   go_wp2_with fail
   refine HO1.out.mono ?_
   rintro e w5 ⟨rfl,h5⟩
   have HA0:=S h5
   clear h5 HO1
   go_wp2
   go_loopw [17] (fun x wr=>∃ (j:Nat),x=I Q j/\j<=lock/\Hid (qo base w k g bx #[V aL k.l.length cL,I Q k.lo,I Q k.un,V aS k.zs.length cS,V aI init.length cI,I Q 0,V aR r7.length cR] (bt k t j (dN k r2 ⟨1,t,Z⟩)) wr)) (fun x _=>lock-(intOf x).toNat)
   case atStart=>exact⟨0,rfl,Nat.zero_le _,S (by rw[HZA.out];exact HA0.out)⟩
   case round=>
    clear HA0
    obtain⟨j,rfl,hj,HR⟩:=hrel
    by_cases hlt:j<lock
    ·have hji:(j:Int)<lock:=by omega
     have HO2:Hid (Calls Tryz.prog 36 #[P (O ⟨g,0,N⟩),.agg #[I Q 3,I Q t,I Q 0]] wr fun e w'=>e=.returned (.tuple #[])/\qo base w k g bx #[V aL k.l.length cL,I Q k.lo,I Q k.un,V aS k.zs.length cS,V aI init.length cI,I Q 0,V aR r7.length cR] (bt k t (j+1) (dN k r2 ⟨1,t,Z⟩)) w'):=S (by
      rw[HSA.out j]
      exact oF HR.out HHb.out 3 t 0 Z rfl (by have h9:=HA.out j hj;omega) hs)
     clear HR
     go_wp2_with fail
     refine HO2.out.mono ?_
     rintro e w6 ⟨rfl,h6⟩
     have H6:=S h6
     clear h6 HO2
     go_wp2
     go_roundw
     case rel=>exact⟨j+1,by go_num,by omega,H6⟩
     case measure=>simp[intOf];omega
    ·obtain rfl:j=lock:=by omega
     have h6:=HR.out
     rw[HE.out.2.1] at h6
     obtain⟨-,d,c1,ca⟩:=h6.c
     have hx:=ca t ht
     rw[HF.out.2.1] at hx
     have HO3:=S (oF h6 HHb.out 2 t 0 Z rfl (by have h9:=HA.out j (T _);rw[HE.out.2.1] at h9;omega) hs)
     clear h6 ca HR
     go_wp2_with fail
     refine HO3.out.mono ?_
     rintro e w7 ⟨rfl,h7⟩
     have HC0:=S h7
     clear h7 HO3 c1 hx
     go_wp2
     go_loopw [18] (fun x wr=>∃ (i:Nat),x=I Q i/\i<=unlock/\Hid (qo base w k g bx #[V aL k.l.length cL,I Q k.lo,I Q k.un,V aS k.zs.length cS,V aI init.length cI,I Q 0,V aR r7.length cR] (bt k t i (dN k r3 ⟨2,t,Z⟩)) wr)) (fun x _=>unlock-(intOf x).toNat)
     case atStart=>exact⟨0,rfl,Nat.zero_le _,S (by rw[HZC.out];exact HC0.out)⟩
     case round=>
      clear HC0
      obtain⟨i,rfl,hi,HR⟩:=hrel
      by_cases hlt2:i<unlock
      ·have hji:(i:Int)<unlock:=by omega
       have HO2:Hid (Calls Tryz.prog 36 #[P (O ⟨g,0,N⟩),.agg #[I Q 3,I Q t,I Q 0]] wr fun e w'=>e=.returned (.tuple #[])/\qo base w k g bx #[V aL k.l.length cL,I Q k.lo,I Q k.un,V aS k.zs.length cS,V aI init.length cI,I Q 0,V aR r7.length cR] (bt k t (i+1) (dN k r3 ⟨2,t,Z⟩)) w'):=S (by
        rw[HSC.out i]
        exact oF HR.out HHb.out 3 t 0 Z rfl (by have h9:=HC.out i hi;omega) hs)
       clear HR
       go_wp2_with fail
       refine HO2.out.mono ?_
       rintro e w8 ⟨rfl,h8⟩
       have H8:=S h8
       clear h8 HO2
       go_wp2
       go_roundw
       case rel=>exact⟨i+1,by go_num,by omega,H8⟩
       case measure=>simp[intOf];omega
      ·obtain rfl:i=unlock:=by omega
       have h8:=HR.out
       rw[HE.out.2.2] at h8
       have hl4:r4.l.length<=100000000:=by have h9:=HC.out i (T _);rw[HE.out.2.2] at h9;omega
       obtain⟨al,capl,c2,hch⟩:=h8.ja hl4
       obtain⟨c3,d2,c1,ca⟩:=h8.c
       have hx:=ca t ht
       rw[HF.out.2.2.2.1] at hx
       rw[HF.out.2.2.1] at c3
       replace c3:wr.cell? ⟨g,3,N⟩=O (I Q 0):=c3
       have HF2:Hid (∀ q:fL wr,Calls Tryz.prog 37 #[I Q k.n,V al r4.l.length capl] q.x fun e w'=>e=.returned (I Q (r4.l.length:Nat))/\Below q.x.heap.size q.x w'):=S (fun q=>by
        have h9:=hch q.x q.ok
        rw[HF.out.2.2.2.2] at h9
        exact h9)
       have g3:∀ q:fL wr,q.x.cell? ⟨g,3,N⟩=O (I Q 0):=fun q=>q.cell c3
       have g2:∀ q:fL wr,q.x.cell? ⟨g,2,N⟩=O (V al r4.l.length capl):=fun q=>q.cell c2
       have g1:∀ q:fL wr,q.x.cell? ⟨g,1,N⟩=O (V (O ⟨d2,0,N⟩) k.n k.n):=fun q=>q.cell c1
       have gx:∀ q:fL wr,q.x.cell? ⟨d2,t,N⟩=O (I Q 0):=fun q=>q.cell hx
       have HW:=S h8.win
       clear c1 c2 c3 hx ca hch h8 HR
       go_upto_region 24 with fail
       refine ap (by kernel_rfl) (by kernel_rfl) ?_
       repeat (go_big_quiet_step ((go_at_call 37;with_reducible exact ao (HF2.out _))))
       refine wpQuiet_nil ?_
       rintro y ⟨q,rfl⟩
       have hfin:=HW.out.aJ ((af q.ok).wide (S':=fun i=>base<=i) (by simp)) (fun i h=>.inl h)
       clear g1 g2 g3 gx HF2
       go_wp2
       go_ret
       exact⟨rfl,hfin⟩
end
