import Derived.Test.YtieiifdhdjhnoaaDoorPMem
import Derived.Test.YtieiifdhdjhnoaaDoorPFlow
import Derived.Deep.QuietTactic
set_option linter.unusedVariables false
set_option maxHeartbeats 3000000
set_option maxRecDepth 100000
open Go.Value renaming int->I,slice->R
open Go.IntKind renaming i64->Q
open Option renaming none->O,some->Z
open Bool renaming false->T
open Go.Lib renaming hid->U
namespace Go.Proofs.YtieiifdhdjhnoaaDoor
open Go.ChangeShapes Go.WideShapes Go.ChangeAt Go.RowKit
theorem bQ (z:World)(n:Nat):Below z.heap.size z (z.drewN n):=⟨rfl,rfl,rfl,Nat.le_refl _,fun _ _=>rfl⟩
theorem fg {xs ys:List Int}{j:Nat}(hj:j<xs.length)(hl:xs.length=ys.length)(h:xs.take j=ys.take j)(e:cc xs j=cc ys j):xs.take (j+1)=ys.take (j+1):=by
 rw[ji xs j hj,ji ys j (by omega),h]
 rw[lN hj,lN (by omega)] at e
 rw[e]
theorem ep {xs ys:List Int}{j:Nat}(e:cc xs j≠cc ys j):xs≠ys:=fun h=>e (by rw[h])
theorem gU (w:World)(a b:Option Addr)(ca cb:Nat)(xs ys:List Int)(ha:bG .u32 w a xs)(hb:bG .u32 w b ys)(hm:xs.length<=maxLen)(hm2:ys.length<=maxLen):
 Calls Tryd.prog 11 #[R a xs.length ca,R b ys.length cb] w fun e w'=>e=.returned (.bool (decide (xs=ys)))/\Below w.heap.size w w':=by
 have HA:=U ha
 have HB:=U hb
 simp only[maxLen] at hm hm2
 clear ha hb
 by_cases hl:xs.length=ys.length
 ·have HL:=U hl
  have dl:((xs.length:Int) != (ys.length:Int))=T:=by rw[hl];simp
  have HR:Hid (∀ v,decide (xs=ys)=v->(Ending.returned (.bool v):Ending)=.returned (.bool (decide (xs=ys)))):=U (fun v h=>by rw[h])
  generalize hres:decide (xs=ys)=res at HR ⊢
  have HRes:=U hres
  clear hl hres
  go_enter Tryd.func11,Tryd.ntmps11
  go_wp2
  go_loopw [13] (fun x wr=>∃ (j:Nat),x=I Q j/\j<=xs.length/\Hid (xs.take j=ys.take j)/\Below w.heap.size w wr) (fun x _=>xs.length-(intOf x).toNat)
  case atStart=>exact⟨0,rfl,Nat.zero_le _,U rfl,Below.refl _ _⟩
  case round=>
   obtain⟨j,rfl,hj,HT,hbl⟩:=hrel
   by_cases hlt:j<xs.length
   ·have hji:(j:Int)<xs.length:=by omega
    have hjy:(j:Int)<ys.length:=by have:=HL.out;omega
    obtain⟨b1,o1,rfl,c1⟩:=HA.out.at_ hlt hbl
    obtain⟨b2,o2,rfl,c2⟩:=HB.out.at_ (show j<ys.length by omega) hbl
    have HE:=U (fun e=>fg hlt HL.out HT.out e)
    have HN:=U (fun e=>ep (xs:=xs) (ys:=ys) (j:=j) e)
    generalize cc xs j=x at *
    generalize cc ys j=y at *
    cases hq:(x != y) with
    | true=>
     have HV:Hid (res=T):=U (by rw[<-HRes.out];exact decide_eq_false (HN.out (bne_iff_ne.1 hq)))
     clear HE HN HT
     go_upto_region 6 with fail
     go_quiet (fail)
     have hfin:=hbl.trans ((bQ wr nq).mono hbl.size)
     generalize wr.drewN nq=v at *
     go_wp2
     go_ret
     exact⟨by rw[HV.out];rfl,hfin⟩
    | false=>
     have HE2:=U (HE.out (by simpa using hq))
     clear HE HN HT
     go_upto_region 6 with fail
     go_quiet (fail)
     have hfin:=hbl.trans ((bQ wr nq).mono hbl.size)
     generalize wr.drewN nq=v at *
     clear c1 c2 hbl
     go_wp2
     go_roundw
     case rel=>exact⟨j+1,by go_num,by omega,HE2,hfin⟩
     case measure=>simp[intOf];omega
   ·obtain rfl:j=xs.length:=by omega
    have HV:Hid (res=true):=U (by
     rw[<-HRes.out]
     have h:=HT.out
     rw[List.take_length,HL.out,List.take_length] at h
     exact decide_eq_true h)
    clear HT
    go_wp2
    go_ret
    exact⟨by rw[HV.out];rfl,hbl⟩
 ·have dl:((xs.length:Int) != (ys.length:Int))=true:=bne_iff_ne.2 (by omega)
  have HV:Hid (decide (xs=ys)=T):=U (decide_eq_false (fun h=>hl (by rw[h])))
  clear hl
  go_enter Tryd.func11,Tryd.ntmps11
  go_wp2
  go_ret
  exact⟨by rw[HV.out];rfl,Below.refl _ _⟩
def jb (w:World)(v:Value)(c:cF)(zs init r7:List Int)(each:Int):Prop:=
 ∃ aL cL aS cS aI cI aR cR,v=.agg #[R aL c.l.length cL,I Q c.lo,I Q c.un,R aS zs.length cS,R aI init.length cI,I Q each,R aR r7.length cR]/\Pv w (.agg #[R aL c.l.length cL,I Q c.lo,I Q c.un]) c/\bG .i64 w aS zs/\bG .u32 w aI init/\bG .u32 w aR r7/\zs.length<=maxLen/\init.length<=maxLen/\r7.length<=maxLen
theorem jP (w:World)(v u:Value)(c d:cF)(zs init r7 zs2 init2 r72:List Int)(each each2:Int)(hv:jb w v c zs init r7 each)(hu:jb w u d zs2 init2 r72 each2)(hc:c.l.length<=100000):
 Calls Tryd.prog 6 #[v,u] w fun e w'=>e=.returned (.bool (decide (zs=zs2) && (decide (each=each2) && (cW c d && (decide (init=init2) && decide (r7=r72))))))/\Below w.heap.size w w':=by
 obtain⟨aL,cL,aS,cS,aI,cI,aR,cR,rfl,p1,p2,p3,p4,p5,p6,p7⟩:=hv
 obtain⟨bL,dL,bS,dS,bI,dI,bR,dR,rfl,q1,q2,q3,q4,q5,q6,q7⟩:=hu
 have HSm:Hid (∀ W,Below w.heap.size w W->Calls Tryd.prog 10 #[.agg #[R aL c.l.length cL,I Q c.lo,I Q c.un],.agg #[R bL d.l.length dL,I Q d.lo,I Q d.un]] W fun e w'=>e=.returned (.bool (cW c d))/\Below W.heap.size W w'):=U (fun W hW=>nX c d _ _ W (p1.below hW) (q1.below hW) hc)
 have HW1:Hid (∀ W,Below w.heap.size w W->Calls Tryd.prog 11 #[R aI init.length cI,R bI init2.length dI] W fun e w'=>e=.returned (.bool (decide (init=init2)))/\Below W.heap.size W w'):=U (fun W hW=>gU W aI bI cI dI init init2 (p3.below hW) (q3.below hW) p6 q6)
 have HW2:Hid (∀ W,Below w.heap.size w W->Calls Tryd.prog 11 #[R aR r7.length cR,R bR r72.length dR] W fun e w'=>e=.returned (.bool (decide (r7=r72)))/\Below W.heap.size W w'):=U (fun W hW=>gU W aR bR cR dR r7 r72 (p4.below hW) (q4.below hW) p7 q7)
 have HA:=U p2
 have HB:=U q2
 obtain⟨bb,k1,k2⟩:=fe w 38 #[R aL c.l.length cL,I Q c.lo,I Q c.un,R aS zs.length cS,R aI init.length cI,I Q each,R aR r7.length cR] #[R bL d.l.length dL,I Q d.lo,I Q d.un,R bS zs2.length dS,R bI init2.length dI,I Q each2,R bR r72.length dR]
 simp only[maxLen] at p5 q5
 clear p1 p2 p3 p4 p6 p7 q1 q2 q3 q4 q6 q7 hc
 obtain⟨res,hres⟩:∃ res,(decide (zs=zs2) && (decide (each=each2) && (cW c d && (decide (init=init2) && decide (r7=r72)))))=res:=⟨_,rfl⟩
 rw[hres]
 have HRes:Hid (res=(decide (zs=zs2) && (decide (each=each2) && (cW c d && (decide (init=init2) && decide (r7=r72)))))):=U hres.symm
 clear hres
 go_enter Tryd.func6,Tryd.ntmps6
 go_upto_region 1 with fail
 generalize (w.alloc (.cells #[R aL c.l.length cL,I Q c.lo,I Q c.un,R aS zs.length cS,R aI init.length cI,I Q each,R aR r7.length cR] 38)).alloc (.cells #[R bL d.l.length dL,I Q d.lo,I Q d.un,R bS zs2.length dS,R bI init2.length dI,I Q each2,R bR r72.length dR] 38)=y at *
 obtain⟨x0,x1,x2,x3,x4,x5,x6⟩:=k1.ja
 obtain⟨z0,z1,z2,z3,z4,z5,z6⟩:=k2.ja
 have K1:=U k1
 have K2:=U k2
 clear k1 k2
 by_cases hl:zs.length=zs2.length
 ·have dl:((zs.length:Int) != (zs2.length:Int))=T:=by rw[hl];simp
  have HL:=U hl
  clear hl
  cases de:(each != each2) with
  | true=>
   have HV:Hid (res=T):=U (by rw[HRes.out,decide_eq_false (bne_iff_ne.1 de)];simp)
   clear HSm HW1 HW2
   go_wp2
   go_ret
   exact⟨by rw[HV.out];rfl,bb⟩
  | false=>
   have HEq:Hid (each=each2):=U (by simpa using de)
   go_wp2
   go_loopw [23] (fun x wr=>∃ (j:Nat),x=I Q j/\j<=zs.length/\Hid (zs.take j=zs2.take j)/\Hid (Below y.heap.size y wr)) (fun x _=>zs.length-(intOf x).toNat)
   case atStart=>exact⟨0,rfl,Nat.zero_le _,U rfl,U (Below.refl _ _)⟩
   case round=>
    clear x0 x1 x2 x3 x4 x5 x6 z0 z1 z2 z3 z4 z5 z6
    obtain⟨j,rfl,hj,HT,HBl⟩:=hrel
    have hbl:=HBl.out
    have hbw:=bb.trans (hbl.mono bb.size)
    have k1:=Bk.within K1.out (av hbl) (by simp)
    have k2:=Bk.within K2.out (av hbl) (by simp)
    obtain⟨x0,x1,x2,x3,x4,x5,x6⟩:=k1.ja
    obtain⟨z0,z1,z2,z3,z4,z5,z6⟩:=k2.ja
    by_cases hlt:j<zs.length
    ·have hji:(j:Int)<zs.length:=by omega
     have hjy:(j:Int)<zs2.length:=by have:=HL.out;omega
     obtain⟨b1,o1,rfl,c1⟩:=HA.out.at_ hlt hbw
     obtain⟨b2,o2,rfl,c2⟩:=HB.out.at_ (show j<zs2.length by omega) hbw
     have HE:=U (fun e=>fg hlt HL.out HT.out e)
     have HN:=U (fun e=>ep (xs:=zs) (ys:=zs2) (j:=j) e)
     generalize cc zs j=x at *
     generalize cc zs2 j=x9 at *
     clear k1 k2 HSm HW1 HW2
     cases hq:(x != x9) with
     | true=>
      have HV:Hid (res=T):=U (by rw[HRes.out,decide_eq_false (HN.out (bne_iff_ne.1 hq))];simp)
      clear HE HN HT
      go_upto_region 6 with fail
      go_quiet (fail)
      have hfin:=hbw.trans ((bQ wr nq).mono hbw.size)
      generalize wr.drewN nq=v at *
      go_wp2
      go_ret
      exact⟨by rw[HV.out];rfl,hfin⟩
     | false=>
      have HE2:=U (HE.out (by simpa using hq))
      clear HE HN HT
      go_upto_region 6 with fail
      go_quiet (fail)
      have HF:=U (hbl.trans ((bQ wr nq).mono hbl.size))
      generalize wr.drewN nq=v at *
      clear c1 c2 hbl hbw
      go_wp2
      go_roundw
      case rel=>exact⟨j+1,by go_num,by omega,HE2,HF⟩
      case measure=>simp[intOf];omega
    ·obtain rfl:j=zs.length:=by omega
     have HZ:Hid (res=(cW c d && (decide (init=init2) && decide (r7=r72)))):=U (by
      have h:=HT.out
      rw[List.take_length,HL.out,List.take_length] at h
      rw[HRes.out,decide_eq_true h,decide_eq_true HEq.out,Bool.true_and,Bool.true_and])
     clear HT
     have HC1:=U (HSm.out wr hbw)
     have HKK:Hid (∀ W,Below wr.heap.size wr W->Below w.heap.size w W/\(W.cell? ⟨w.heap.size,0,O⟩=Z (R aL c.l.length cL)/\W.cell? ⟨w.heap.size,1,O⟩=Z (I Q c.lo)/\W.cell? ⟨w.heap.size,2,O⟩=Z (I Q c.un)/\W.cell? ⟨w.heap.size,3,O⟩=Z (R aS zs.length cS)/\W.cell? ⟨w.heap.size,4,O⟩=Z (R aI init.length cI)/\W.cell? ⟨w.heap.size,5,O⟩=Z (I Q each)/\W.cell? ⟨w.heap.size,6,O⟩=Z (R aR r7.length cR))/\(W.cell? ⟨w.heap.size+1,0,O⟩=Z (R bL d.l.length dL)/\W.cell? ⟨w.heap.size+1,1,O⟩=Z (I Q d.lo)/\W.cell? ⟨w.heap.size+1,2,O⟩=Z (I Q d.un)/\W.cell? ⟨w.heap.size+1,3,O⟩=Z (R bS zs2.length dS)/\W.cell? ⟨w.heap.size+1,4,O⟩=Z (R bI init2.length dI)/\W.cell? ⟨w.heap.size+1,5,O⟩=Z (I Q each2)/\W.cell? ⟨w.heap.size+1,6,O⟩=Z (R bR r72.length dR))):=U (fun W hW=>by
      have j1:=Bk.within k1 (av hW) (by simp)
      have j2:=Bk.within k2 (av hW) (by simp)
      exact⟨hbw.trans (hW.mono hbw.size),⟨j1.cell 0,j1.cell 1,j1.cell 2,j1.cell 3,j1.cell 4,j1.cell 5,j1.cell 6⟩,⟨j2.cell 0,j2.cell 1,j2.cell 2,j2.cell 3,j2.cell 4,j2.cell 5,j2.cell 6⟩⟩)
     clear HSm k1 k2 hbl
     generalize cW c d=o1 at *
     generalize decide (init=init2)=o2 at *
     generalize decide (r7=r72)=o3 at *
     go_wp2_with fail
     refine HC1.out.mono ?_
     rintro e w1 ⟨rfl,hw1⟩
     obtain⟨hbw1,⟨x0,x1,x2,x3,x4,x5,x6⟩,⟨z0,z1,z2,z3,z4,z5,z6⟩⟩:=HKK.out w1 hw1
     cases o1 with
     | false=>
      have HV:Hid (res=T):=U (by rw[HZ.out];rfl)
      clear HC1 HKK HW1 HW2
      go_wp2
      go_ret
      exact⟨by rw[HV.out];rfl,hbw1⟩
     | true=>
      have HC2:=U (HW1.out w1 hbw1)
      clear HC1 HW1
      go_wp2_with fail
      refine HC2.out.mono ?_
      rintro e w2 ⟨rfl,hw2⟩
      obtain⟨hbw2,⟨x0,x1,x2,x3,x4,x5,x6⟩,⟨z0,z1,z2,z3,z4,z5,z6⟩⟩:=HKK.out w2 (hw1.trans (hw2.mono hw1.size))
      cases o2 with
      | false=>
       have HV:Hid (res=T):=U (by rw[HZ.out];rfl)
       clear HC2 HKK HW2
       go_wp2
       go_ret
       exact⟨by rw[HV.out];rfl,hbw2⟩
      | true=>
       have HC3:=U (HW2.out w2 hbw2)
       clear HC2 HW2 HKK
       go_wp2_with fail
       refine HC3.out.mono ?_
       rintro e w3 ⟨rfl,hw3⟩
       have HV:Hid (res=o3):=U (by rw[HZ.out];rfl)
       have hbw3:=hbw2.trans (hw3.mono hbw2.size)
       clear HC3
       go_wp2
       go_ret
       exact⟨by rw[HV.out];rfl,hbw3⟩
 ·have dl:((zs.length:Int) != (zs2.length:Int))=true:=bne_iff_ne.2 (by omega)
  have HV:Hid (res=T):=U (by rw[HRes.out,decide_eq_false (fun h=>hl (by rw[h]))];simp)
  clear hl HSm HW1 HW2
  go_wp2
  go_ret
  exact⟨by rw[HV.out];rfl,bb⟩
def oF:Value:=.agg #[R O 0 0,I Q 0,I Q 0,R O 0 0,R O 0 0,I Q 0,R O 0 0]
theorem Rv.oN {base:Nat}{w:World}{v:Value}{c:cF}{zs init r7:List Int}{each:Int}(h:Rv base w v c zs init r7 each):jb w v c zs init r7 each:=by
 obtain⟨sl,aS,cS,aI,cI,aR,cR,rfl,h1,h2,h3,h4,h5⟩:=h
 obtain⟨aL,cL,rfl,-⟩:=bj h1
 exact⟨aL,cL,aS,cS,aI,cI,aR,cR,rfl,lM h1,h2,h3,h4,h5⟩
theorem jb.below {w w':World}{v:Value}{c:cF}{zs init r7:List Int}{each:Int}(h:jb w v c zs init r7 each)(hb:Below w.heap.size w w'):jb w' v c zs init r7 each:=by
 obtain⟨aL,cL,aS,cS,aI,cI,aR,cR,e,h1,h2,h3,h4,h5⟩:=h
 exact⟨aL,cL,aS,cS,aI,cI,aR,cR,e,h1.below hb,h2.below hb,h3.below hb,h4.below hb,h5⟩
theorem dg (k:IntKind)(w:World)(a:Option Addr):bG k w a []:=fun h=>by simp at h
theorem jK (w:World)(v u:Value)(c:cF)(zs init r7:List Int)(each:Int)(hv:jb w v c zs init r7 each)(hu:jb w u c zs init r7 each)(hc:c.l.length<=100000):
 Calls Tryd.prog 6 #[v,u] w fun e w'=>e=.returned (.bool true)/\Below w.heap.size w w':=by
 have h:=jP w v u c c zs init r7 zs init r7 each each hv hu hc
 rw[decide_eq_true rfl,decide_eq_true rfl,decide_eq_true rfl,decide_eq_true rfl,(jL c c).2 rfl] at h
 exact h
def mV (V:World)(k:Lk)(init r7:List Int)(e:Ending)(w':World):Prop:=∃ v,e=.returned (.tuple #[v,I Q 0])/\Sv w' v ⟨k.l,k.lo,k.un⟩ k.zs init r7 k.each/\Below V.heap.size V w'
section
variable {base:Nat}{w:World}{v:Value}{k:Lk}{init r7:List Int}{each:Int}
theorem nW (h:Sv w v ⟨k.l,k.lo,k.un⟩ k.zs init r7 each):∃ aL cL aS cS aI cI aR cR,v=.agg #[R aL k.l.length cL,I Q k.lo,I Q k.un,R aS k.zs.length cS,R aI init.length cI,I Q each,R aR r7.length cR]:=by
 obtain⟨aL,cL,aS,cS,aI,cI,aR,cR,rfl,-⟩:=h
 exact⟨aL,cL,aS,cS,aI,cI,aR,cR,rfl⟩
theorem Rv.less {base':Nat}{c:cF}{zs:List Int}(h:Rv base w v c zs init r7 each)(hb:base'<=base):Rv base' w v c zs init r7 each:=by
 obtain⟨sl,aS,cS,aI,cI,aR,cR,rfl,h,g⟩:=h
 exact⟨sl,aS,cS,aI,cI,aR,cR,rfl,World.ownsRow.mono h hb,g⟩
end
theorem ir:(Tryd.prog.info? 56).map (fun i=>(i.zero,i.size,i.bytes))=Z (Z (I .u32 0),1,4):=by kernel_rfl
theorem fo (N:Nat)(hN:N<=40000)(W:World):(Instr.makeSlice 26 (I Q N) (I Q N)).run Tryd.prog W=.ok (R (Z ⟨W.heap.size,0,O⟩) N N) (W.alloc (.cells (madeCells #[I .u32 0] N) 56)):=by
 obtain⟨i0,hi0,hz0,hz1,hz2⟩:=info_parts ir
 have h:=run_make (P:=Tryd.prog) W 26 56 i0 _ Tryd.underlying26 hi0 hz0 .i64 .i64 N N (by omega) (by omega) (by rw[hz2];omega) (by omega)
 rw[hz1] at h
 simpa [Value.cells] using h
def lX (c:cF)(w:World)(e:Ending)(w':World):Prop:=∃ v,e=.returned (.tuple #[v,I Q 0,I Q 0])/\Pg w' w.heap.size v c/\Below w.heap.size w w'
def kM (xs:List Int):Array Value:=(xs.map (Value.int .i64)).toArray
def fE (xs:List Int)(v:Value)(W:World):Prop:=∃ b,v=R (Z ⟨b,0,O⟩) xs.length xs.length/\Bk W b 3 (kM xs)
def dm (xs:List Int)(v:Value)(W:World):Prop:=∃ b,v=R (Z ⟨b,0,O⟩) xs.length xs.length/\Bk W b 56 (bP xs)
def l4 (aL:Option Addr)(cL:Nat)(c:cF)(zs init r7:List Int)(each:Int)(v:Value)(W:World):Prop:=
 ∃ b1 b2 b3,v=.agg #[R aL c.l.length cL,I Q c.lo,I Q c.un,R (Z ⟨b1,0,O⟩) zs.length zs.length,R (Z ⟨b2,0,O⟩) init.length init.length,I Q each,R (Z ⟨b3,0,O⟩) r7.length r7.length]/\Bk W b1 3 (kM zs)/\Bk W b2 56 (bP init)/\Bk W b3 56 (bP r7)
section
variable {aL:Option Addr}{cL:Nat}{c:cF}{xs zs init r7:List Int}{each:Int}{v:Value}{W W':World}{S:Nat->Prop}
def kR (W:World)(S:Nat->Prop):Prop:=∀ b,S b->∃ t cs,Bk W b t cs/\t≠3/\t≠56
theorem kR.int (h:kR W S){b:Nat}{cs:Array Value}(hb:Bk W b 3 cs):¬ S b:=fun hs=>by
 obtain⟨t,cs',h1,h2,_⟩:=h _ hs
 exact Bk.bi hb h1 (fun e=>h2 e.symm) rfl
theorem kR.word (h:kR W S){b:Nat}{cs:Array Value}(hb:Bk W b 56 cs):¬ S b:=fun hs=>by
 obtain⟨t,cs',h1,_,h2⟩:=h _ hs
 exact Bk.bi hb h1 (fun e=>h2 e.symm) rfl
theorem fE.within (h:fE xs v W)(hw:af W W' S)(hS:kR W S):fE xs v W':=by
 obtain⟨b,e,h1⟩:=h;exact⟨b,e,h1.within hw (hS.int h1)⟩
theorem dm.within (h:dm xs v W)(hw:af W W' S)(hS:kR W S):dm xs v W':=by
 obtain⟨b,e,h1⟩:=h;exact⟨b,e,h1.within hw (hS.word h1)⟩
theorem l4.within (h:l4 aL cL c zs init r7 each v W)(hw:af W W' S)(hS:kR W S):l4 aL cL c zs init r7 each v W':=by
 obtain⟨b1,b2,b3,e,h1,h2,h3⟩:=h
 exact⟨b1,b2,b3,e,h1.within hw (hS.int h1),h2.within hw (hS.word h2),h3.within hw (hS.word h3)⟩
theorem fE.below (h:fE xs v W)(hb:Below W.heap.size W W'):fE xs v W':=by obtain⟨b,e,h1⟩:=h;exact⟨b,e,(hb.block _ h1.lt).trans h1⟩
theorem dm.below (h:dm xs v W)(hb:Below W.heap.size W W'):dm xs v W':=by obtain⟨b,e,h1⟩:=h;exact⟨b,e,(hb.block _ h1.lt).trans h1⟩
theorem l4.below (h:l4 aL cL c zs init r7 each v W)(hb:Below W.heap.size W W'):l4 aL cL c zs init r7 each v W':=h.within (av hb) (fun b hs=>by simp at hs)
theorem iJ {b:Nat}(h:Bk W b 3 (kM xs)):bG .i64 W (Z ⟨b,0,O⟩) xs:=fun _=>⟨b,0,rfl,h.lt,fun i hi=>by rw[Nat.zero_add,h.cell];simp[kM,hi,cc]⟩
theorem dq {b:Nat}(h:Bk W b 56 (bP xs)):bG .u32 W (Z ⟨b,0,O⟩) xs:=fun _=>⟨b,0,rfl,h.lt,fun i hi=>by rw[Nat.zero_add,h.cell,ey xs i hi]⟩
theorem l4.sv {base:Nat}(h:l4 aL cL c zs init r7 each v W)(ho:W.ownsRow base 59 8 (R aL c.l.length cL) c.l.length (aK c.l))(h1:zs.length<=maxLen)(h2:init.length<=maxLen)(h3:r7.length<=maxLen):Sv W v c zs init r7 each:=by
 obtain⟨b1,b2,b3,rfl,k1,k2,k3⟩:=h
 exact⟨aL,cL,_,_,_,_,_,_,rfl,lM ho,iJ k1,dq k2,dq k3,h1,h2,h3⟩
theorem iC (n:Nat):madeCells #[I .u32 0] n=bP (List.replicate n 0):=ex n
end
def nU (c:cF)(v:Value)(w:World):Prop:=∃ a cap,v=.agg #[R a c.l.length cap,I Q c.lo,I Q c.un]/\Pv w v c
theorem nU.below {c:cF}{v:Value}{w w':World}(h:nU c v w)(hb:Below w.heap.size w w'):nU c v w':=by
 obtain⟨a,cap,e,h1⟩:=h
 exact⟨a,cap,e,h1.below hb⟩
theorem gD {w:World}{a:Option Addr}{cap:Nat}{c:cF}(h:Pv w (.agg #[R a c.l.length cap,I Q c.lo,I Q c.un]) c):jb w (.agg #[R a c.l.length cap,I Q c.lo,I Q c.un,R O 0 0,R O 0 0,I Q 0,R O 0 0]) c [] [] [] 0:=
 ⟨a,cap,O,0,O,0,O,0,rfl,h,dg _ _ _,dg _ _ _,dg _ _ _,by simp,by simp,by simp⟩
def oC (c:cF)(V:World)(e:Ending)(w':World):Prop:=∃ v zs init r7 each,e=.returned (.tuple #[v,I Q 0])/\Sv w' v c zs init r7 each/\Below V.heap.size V w'
theorem mV.one {c:cF}{V:World}{k:Lk}{init r7:List Int}{e:Ending}{w':World}(h:mV V k init r7 e w')(hc:(⟨k.l,k.lo,k.un⟩:cF)=c):oC c V e w':=by
 obtain⟨v,e1,h1,h2⟩:=h
 rw[hc] at h1
 exact⟨v,_,_,_,_,e1,h1,h2⟩
theorem gj {w:World}{v:Value}{c:cF}{zs init r7:List Int}{each:Int}(h:Sv w v c zs init r7 each):∃ aL cL aS cS aI cI aR cR,v=.agg #[R aL c.l.length cL,I Q c.lo,I Q c.un,R aS zs.length cS,R aI init.length cI,I Q each,R aR r7.length cR]:=by
 obtain⟨aL,cL,aS,cS,aI,cI,aR,cR,rfl,-⟩:=h
 exact⟨aL,cL,aS,cS,aI,cI,aR,cR,rfl⟩
