import Derived.Test.YtieiifdhdjhnoaaGreatDoorQAsmM
import Derived.Test.YtieiifdhdjhnoaaGreatDoorQAsmC
import Derived.Test.YtieiifdhdjhnoaaGreatDoorQInstH
set_option linter.unusedVariables false
set_option maxHeartbeats 4000000
set_option maxRecDepth 100000
open Go.Value renaming int->I
open Go.IntKind renaming i64->Q,u32->N
open Option renaming none->O,some->Z
open Bool renaming true->V
open Go.Obj renaming cells->P
open Go.Lib renaming hid->S
open Nat renaming le_refl->T
namespace Go.Proofs.YtieiifdhdjhnoaaGreatDoor
open Go.ChangeShapes Go.WideShapes Go.ChangeAt Go.RowKit
def BT:Option aU->Value
 | some i=>.tuple #[iv i,.bool V]
 | none=>.tuple #[iv aU.zero,.bool false]
theorem xx (s:List UInt8):kY s=BT (rN s):=by
 unfold kY rN
 split <;> rfl
def FI:Option aU->Option (aU×List UInt8)
 | some j=>if co j=V then O else Z (j,[])
 | none=>O
def BH:Option (aU×List UInt8)->Value
 | some x=>.tuple #[iv x.1,bs x.2,.bool V]
 | none=>.tuple #[iv aU.zero,bs [],.bool false]
theorem wy (ws:List (List UInt8))(h:0<ws.length):ws.getD (ws.length-1) []=ws.getLastD []:=by
 rw[List.getLastD_eq_getLast?,List.getLast?_eq_getElem?,List.getD_eq_getElem?_getD]
theorem FN (s:List UInt8)(hl:s.length<90000)(w:World):
 Calls Tryz.prog 64 #[bs s] w fun e w'=>e=.returned (BH (ee s))/\Below w.heap.size w w':=by
 have HW:=S (fun W=>Bc s (by omega) W)
 have hpos:=fZ s
 have hlw:(dO s).length<=s.length:=by
  have h:=lA s
  unfold dO
  rw[<-wy _ hpos,List.getD_eq_getElem?_getD,List.getElem?_eq_getElem (by omega)]
  exact h _ (List.getElem_mem _)
 have HLa:Hid ((aq s).getD ((aq s).length-1) []=dO s):=S (wy _ hpos)
 have hlen:=ik s
 have hcut:=fun W=>lD s (s.length-(dO s).length) (by omega) W
 have hh:s.take (s.length-(dO s).length)=dP s:=rfl
 rw[hh] at hcut
 have hhl:(dP s).length<=s.length:=by unfold dP;simp
 have hcat:=cZ (dP s) [48]
 have hcat2:¬ 9223372036854775807<(dP s).length+1:=by omega
 have HP1:=S (fun W=>Be (dP s++[48]) (by simp;omega) W)
 have HP2:=S (fun W=>Be s (by omega) W)
 have HNm:=S (fun W=>vY (dO s) W)
 have HG:=S FO
 rw[xx] at HP1 HP2
 have HX:Hid (ee s=match rN (dP s++[48]) with
  | some i=>if co i=V/\cE (dO s)=V then Z (i,dO s)
   else match rN s with
    | some j=>if co j=V then O else Z (j,[])
    | none=>O
  | none=>match rN s with
   | some j=>if co j=V then O else Z (j,[])
   | none=>O):=S rfl
 generalize ee s=r at *
 generalize hA:rN (dP s++[48])=pA at *
 generalize hB:rN s=pB at *
 generalize dP s=hd at *
 generalize cE (dO s)=nb at *
 have e1:((s.length-(dO s).length:Nat):Int)=(s.length:Int)-(dO s).length:=by omega
 simp only[e1] at hcut
 clear e1 hA hB hh
 generalize dO s=la at *
 generalize aq s=ws at *
 unfold bs at HW HP1 HP2 HNm ⊢
 go_enter Tryz.func64,Tryz.ntmps64
 go_wp2_with fail
 have b1:Below w.heap.size w (w.alloc (P #[I Q 0,I Q 0,I Q 0,I Q 0,I Q 0,I Q 0,I N 0,I Q 0] 123)):=(Below.refl _ _).alloc (T _) _
 have m1:Jb (w.alloc (P #[I Q 0,I Q 0,I Q 0,I Q 0,I Q 0,I Q 0,I N 0,I Q 0] 123)) w.heap.size aU.zero:=Bk.made _ _ _
 generalize w.alloc (P #[I Q 0,I Q 0,I Q 0,I Q 0,I Q 0,I Q 0,I N 0,I Q 0] 123)=x1 at *
 refine(HW.out x1).mono ?_
 rintro e x2 ⟨v,rfl,hV,b2⟩
 replace m1:=m1.below b2
 replace b1:=b1.trans (b2.mono b1.size)
 clear b2 x1
 obtain⟨gl,cap,rfl,hS⟩:=DG hV hpos
 clear hV HW
 have hc0:=hS.at_ (ws.length-1) (by omega)
 rw[HLa.out] at hc0
 have e2:((ws.length-1:Nat):Int)=(ws.length:Int)-1:=by omega
 have e3:((ws.length:Int)-1).toNat=ws.length-1:=by omega
 have i1:¬ (ws.length:Int)-1<0:=by omega
 have i2:(ws.length:Int)-1<ws.length:=by omega
 go_wp2_with fail
 refine(HP1.out x2).mono ?_
 rintro e x3 ⟨rfl,b3⟩
 replace m1:=m1.below b3
 have bb:=b1.trans (b3.mono b1.size)
 have HT:Hid (∀ i,pA=Z i->co i=V->nb=V->r=Z (i,la)):=S fun i h1 h2 h3=>by
  rw[HX.out,h1];simp[h2,h3]
 have HU:Hid ((∀ i,pA=Z i->co i=V->nb=V->False)->r=FI pB):=S fun h=>by
  rw[HX.out]
  rcases pA with _ | i
  ·rfl
  ·have:¬ (co i=V/\nb=V):=fun e=>h i rfl e.1 e.2
   simp only[if_neg this]
   rfl
 clear HX HP1 hcut hcat hcat2 hc0 hS b1 b3 x2 i1 i2 e2 e3 HLa hhl
 rcases pA with _ | ⟨op,d,s',t,u,a,k,pl⟩
 case' none=>
  replace HU:=S (HU.out (by simp))
  clear HT HNm
  rw[show BT O=.tuple #[.agg #[I Q 0,I Q 0,I Q 0,I Q 0,I Q 0,I Q 0,I N 0,I Q 0],.bool false] from rfl]
  go_upto_region 5 with fail
  have m2:=Jb.made x3 0 0 0 0 0 0 0 0
  have hle:w.heap.size<x3.heap.size:=Bk.lt m1
  replace m1:Jb (x3.alloc (P #[I Q 0,I Q 0,I Q 0,I Q 0,I Q 0,I Q 0,I N 0,I Q 0] 123)) w.heap.size aU.zero:=Bk.alloc m1 _
  replace bb:=bb.alloc (o:=P #[I Q 0,I Q 0,I Q 0,I Q 0,I Q 0,I Q 0,I N 0,I Q 0] 123) bb.size
  have hne:w.heap.size≠x3.heap.size:=Nat.ne_of_lt hle
  generalize x3.heap.size=g at *
  generalize x3.alloc (P #[I Q 0,I Q 0,I Q 0,I Q 0,I Q 0,I Q 0,I N 0,I Q 0] 123)=x4 at *
  go_wp2_with fail
 case' some=>
  rw[show BT (Z ⟨op,d,s',t,u,a,k,pl⟩)=.tuple #[.agg #[I Q op,I Q d,I Q s',I Q t,I Q u,I Q a,I N k,I Q pl],.bool V] from rfl]
  go_upto_region 5 with fail
  have m2:=Jb.made x3 op d s' t u a k pl
  have hle:w.heap.size<x3.heap.size:=Bk.lt m1
  replace m1:Jb (x3.alloc (P #[I Q op,I Q d,I Q s',I Q t,I Q u,I Q a,I N k,I Q pl] 123)) w.heap.size aU.zero:=Bk.alloc m1 _
  replace bb:=bb.alloc (o:=P #[I Q op,I Q d,I Q s',I Q t,I Q u,I Q a,I N k,I Q pl] 123) bb.size
  have hne:w.heap.size≠x3.heap.size:=Nat.ne_of_lt hle
  generalize x3.heap.size=g at *
  generalize x3.alloc (P #[I Q op,I Q d,I Q s',I Q t,I Q u,I Q a,I N k,I Q pl] 123)=x4 at *
  obtain⟨c0,c1,c2,c3,c4,c5,c6,c7⟩:=m2.cells
  have hfG:=Bk.free m2
  simp only at c0 c1 c2 c3 c4 c5 c6 c7
  go_wp2_with fail
  refine(HG.out ⟨op,d,s',t,u,a,k,pl⟩ x4).mono ?_
  rintro e x5 ⟨rfl,b5⟩
  replace m1:=m1.below b5
  replace m2:=m2.below b5
  replace bb:=bb.trans (b5.mono bb.size)
  clear c0 c1 c2 c3 c4 c5 c6 c7 b5 x4 hfG
  rcases hq:co ⟨op,d,s',t,u,a,k,pl⟩
  case' false=>
   replace HU:=S (HU.out (by intro i h1 h2;injection h1 with h1;subst h1;rw[hq] at h2;cases h2))
   clear HT hq HNm
   go_wp2_with fail
  case' true=>
   go_wp2_with fail
   refine(HNm.out x5).mono ?_
   rintro e x6 ⟨rfl,rfl⟩
   clear HNm
   rcases nb
   case' false=>
    replace HU:=S (HU.out (by simp))
    clear HT hq
    go_wp2_with fail
   case' true=>
    replace HT:=S (HT.out _ rfl hq rfl)
    clear HU hq HP2 HG
    obtain⟨c0,c1,c2,c3,c4,c5,c6,c7⟩:=m2.cells
    have hfG:=Bk.free m2
    simp only at c0 c1 c2 c3 c4 c5 c6 c7
    obtain⟨r0,r1,r2,r3,r4,r5,r6,r7⟩:=m1.cells
    have hfR:=Bk.free m1
    unfold aU.zero at r0 r1 r2 r3 r4 r5 r6 r7
    simp only at r0 r1 r2 r3 r4 r5 r6 r7
    go_wp2
    generalize hv:((((((((x6.setCell ⟨w.heap.size,0,O⟩ (I Q op)).setCell ⟨w.heap.size,1,O⟩ (I Q d)).setCell ⟨w.heap.size,2,O⟩ (I Q s')).setCell ⟨w.heap.size,3,O⟩ (I Q t)).setCell ⟨w.heap.size,4,O⟩ (I Q u)).setCell ⟨w.heap.size,5,O⟩ (I Q a)).setCell ⟨w.heap.size,6,O⟩ (I N k)).setCell ⟨w.heap.size,7,O⟩ (I Q pl))=v9 at *
    have hv2:fN x6 w.heap.size ⟨op,d,s',t,u,a,k,pl⟩=v9:=hv
    clear hv
    have hA:=fA (i:=⟨op,d,s',t,u,a,k,pl⟩) m1
    have hC:=aZ (i:=⟨op,d,s',t,u,a,k,pl⟩) bb (T _)
    rw[hv2] at hA hC
    clear hv2
    obtain⟨q0,q1,q2,q3,q4,q5,q6,q7⟩:=hA.cells
    simp only at q0 q1 q2 q3 q4 q5 q6 q7
    refine bodyPost_ret (v:=.tuple #[.agg #[I Q op,I Q d,I Q s',I Q t,I Q u,I Q a,I N k,I Q pl],.string ⟨la.toArray⟩,.bool V]) (by simp[results,Tryz.results64,go_sem,q0,q1,q2,q3,q4,q5,q6,q7]) rfl ⟨?_,hC⟩
    rw[HT.out];rfl
 all_goals (
  refine(HP2.out _).mono ?_
  rintro e y ⟨rfl,hby⟩
  replace m1:=m1.below hby
  replace m2:=m2.below hby
  replace bb:=bb.trans (hby.mono bb.size)
  clear hby HP2
  obtain⟨c0,c1,c2,c3,c4,c5,c6,c7⟩:=m2.cells
  have hfG:=Bk.free m2
  simp only at c0 c1 c2 c3 c4 c5 c6 c7
  rcases pB with _ | ⟨op2,d2,s2,t2,u2,a2,k2,pl2⟩
  ·rw[show BT O=.tuple #[.agg #[I Q 0,I Q 0,I Q 0,I Q 0,I Q 0,I Q 0,I N 0,I Q 0],.bool false] from rfl]
   go_upto_region 8 with fail
   generalize hv:((((((((y.setCell ⟨g,0,O⟩ (I Q 0)).setCell ⟨g,1,O⟩ (I Q 0)).setCell ⟨g,2,O⟩ (I Q 0)).setCell ⟨g,3,O⟩ (I Q 0)).setCell ⟨g,4,O⟩ (I Q 0)).setCell ⟨g,5,O⟩ (I Q 0)).setCell ⟨g,6,O⟩ (I N 0)).setCell ⟨g,7,O⟩ (I Q 0))=y2 at *
   have hv2:fN y g ⟨0,0,0,0,0,0,0,0⟩=y2:=hv
   clear hv
   replace m2:=fA (i:=⟨0,0,0,0,0,0,0,0⟩) m2
   replace m1:Jb _ _ _:=kJ (i:=⟨0,0,0,0,0,0,0,0⟩) m1 hne
   replace bb:=aZ (i:=⟨0,0,0,0,0,0,0,0⟩) bb (Nat.le_of_lt hle)
   rw[hv2] at m1 m2 bb
   clear hv2 c0 c1 c2 c3 c4 c5 c6 c7 hfG HG
   obtain⟨r0,r1,r2,r3,r4,r5,r6,r7⟩:=m1.cells
   have hfR:=Bk.free m1
   unfold aU.zero at r0 r1 r2 r3 r4 r5 r6 r7
   simp only at r0 r1 r2 r3 r4 r5 r6 r7
   go_wp2
   generalize hv:((((((((y2.setCell ⟨w.heap.size,0,O⟩ (I Q 0)).setCell ⟨w.heap.size,1,O⟩ (I Q 0)).setCell ⟨w.heap.size,2,O⟩ (I Q 0)).setCell ⟨w.heap.size,3,O⟩ (I Q 0)).setCell ⟨w.heap.size,4,O⟩ (I Q 0)).setCell ⟨w.heap.size,5,O⟩ (I Q 0)).setCell ⟨w.heap.size,6,O⟩ (I N 0)).setCell ⟨w.heap.size,7,O⟩ (I Q 0))=v9 at *
   have hv2:fN y2 w.heap.size ⟨0,0,0,0,0,0,0,0⟩=v9:=hv
   clear hv
   have hA:=fA (i:=⟨0,0,0,0,0,0,0,0⟩) m1
   have hC:=aZ (i:=⟨0,0,0,0,0,0,0,0⟩) bb (T _)
   rw[hv2] at hA hC
   clear hv2
   obtain⟨q0,q1,q2,q3,q4,q5,q6,q7⟩:=hA.cells
   simp only at q0 q1 q2 q3 q4 q5 q6 q7
   refine bodyPost_ret (v:=.tuple #[.agg #[I Q 0,I Q 0,I Q 0,I Q 0,I Q 0,I Q 0,I N 0,I Q 0],.string ⟨#[]⟩,.bool false]) (by simp[results,Tryz.results64,go_sem,q0,q1,q2,q3,q4,q5,q6,q7]) rfl ⟨?_,hC⟩
   rw[HU.out];rfl
  ·rw[show BT (Z ⟨op2,d2,s2,t2,u2,a2,k2,pl2⟩)=.tuple #[.agg #[I Q op2,I Q d2,I Q s2,I Q t2,I Q u2,I Q a2,I N k2,I Q pl2],.bool V] from rfl]
   go_upto_region 8 with fail
   generalize hv:((((((((y.setCell ⟨g,0,O⟩ (I Q op2)).setCell ⟨g,1,O⟩ (I Q d2)).setCell ⟨g,2,O⟩ (I Q s2)).setCell ⟨g,3,O⟩ (I Q t2)).setCell ⟨g,4,O⟩ (I Q u2)).setCell ⟨g,5,O⟩ (I Q a2)).setCell ⟨g,6,O⟩ (I N k2)).setCell ⟨g,7,O⟩ (I Q pl2))=y2 at *
   have hv2:fN y g ⟨op2,d2,s2,t2,u2,a2,k2,pl2⟩=y2:=hv
   clear hv
   replace m2:=fA (i:=⟨op2,d2,s2,t2,u2,a2,k2,pl2⟩) m2
   replace m1:Jb _ _ _:=kJ (i:=⟨op2,d2,s2,t2,u2,a2,k2,pl2⟩) m1 hne
   replace bb:=aZ (i:=⟨op2,d2,s2,t2,u2,a2,k2,pl2⟩) bb (Nat.le_of_lt hle)
   rw[hv2] at m1 m2 bb
   clear hv2 c0 c1 c2 c3 c4 c5 c6 c7 hfG
   obtain⟨c0,c1,c2,c3,c4,c5,c6,c7⟩:=m2.cells
   have hfG:=Bk.free m2
   simp only at c0 c1 c2 c3 c4 c5 c6 c7
   go_wp2_with fail
   refine(HG.out ⟨op2,d2,s2,t2,u2,a2,k2,pl2⟩ y2).mono ?_
   rintro e y3 ⟨rfl,b5⟩
   replace m1:=m1.below b5
   replace m2:=m2.below b5
   replace bb:=bb.trans (b5.mono bb.size)
   clear c0 c1 c2 c3 c4 c5 c6 c7 b5 hfG HG
   have HZ:Hid (r=if co ⟨op2,d2,s2,t2,u2,a2,k2,pl2⟩=V then O else Z (⟨op2,d2,s2,t2,u2,a2,k2,pl2⟩,[])):=S HU.out
   clear HU
   obtain⟨r0,r1,r2,r3,r4,r5,r6,r7⟩:=m1.cells
   have hfR:=Bk.free m1
   unfold aU.zero at r0 r1 r2 r3 r4 r5 r6 r7
   simp only at r0 r1 r2 r3 r4 r5 r6 r7
   obtain⟨c0,c1,c2,c3,c4,c5,c6,c7⟩:=m2.cells
   have hfG:=Bk.free m2
   simp only at c0 c1 c2 c3 c4 c5 c6 c7
   rcases hq2:co ⟨op2,d2,s2,t2,u2,a2,k2,pl2⟩
   ·have HY:Hid (r=Z (⟨op2,d2,s2,t2,u2,a2,k2,pl2⟩,[])):=S (by rw[HZ.out,hq2];simp)
    clear HZ hq2
    go_wp2
    generalize hv:((((((((y3.setCell ⟨w.heap.size,0,O⟩ (I Q op2)).setCell ⟨w.heap.size,1,O⟩ (I Q d2)).setCell ⟨w.heap.size,2,O⟩ (I Q s2)).setCell ⟨w.heap.size,3,O⟩ (I Q t2)).setCell ⟨w.heap.size,4,O⟩ (I Q u2)).setCell ⟨w.heap.size,5,O⟩ (I Q a2)).setCell ⟨w.heap.size,6,O⟩ (I N k2)).setCell ⟨w.heap.size,7,O⟩ (I Q pl2))=v9 at *
    have hv2:fN y3 w.heap.size ⟨op2,d2,s2,t2,u2,a2,k2,pl2⟩=v9:=hv
    clear hv
    have hA:=fA (i:=⟨op2,d2,s2,t2,u2,a2,k2,pl2⟩) m1
    have hC:=aZ (i:=⟨op2,d2,s2,t2,u2,a2,k2,pl2⟩) bb (T _)
    rw[hv2] at hA hC
    clear hv2
    obtain⟨q0,q1,q2,q3,q4,q5,q6,q7⟩:=hA.cells
    simp only at q0 q1 q2 q3 q4 q5 q6 q7
    refine bodyPost_ret (v:=.tuple #[.agg #[I Q op2,I Q d2,I Q s2,I Q t2,I Q u2,I Q a2,I N k2,I Q pl2],.string ⟨#[]⟩,.bool V]) (by simp[results,Tryz.results64,go_sem,q0,q1,q2,q3,q4,q5,q6,q7]) rfl ⟨?_,hC⟩
    rw[HY.out];rfl
   ·have HY:Hid (r=O):=S (by rw[HZ.out,hq2];simp)
    clear HZ hq2
    go_wp2
    generalize hv:((((((((y3.setCell ⟨w.heap.size,0,O⟩ (I Q 0)).setCell ⟨w.heap.size,1,O⟩ (I Q 0)).setCell ⟨w.heap.size,2,O⟩ (I Q 0)).setCell ⟨w.heap.size,3,O⟩ (I Q 0)).setCell ⟨w.heap.size,4,O⟩ (I Q 0)).setCell ⟨w.heap.size,5,O⟩ (I Q 0)).setCell ⟨w.heap.size,6,O⟩ (I N 0)).setCell ⟨w.heap.size,7,O⟩ (I Q 0))=v9 at *
    have hv2:fN y3 w.heap.size ⟨0,0,0,0,0,0,0,0⟩=v9:=hv
    clear hv
    have hA:=fA (i:=⟨0,0,0,0,0,0,0,0⟩) m1
    have hC:=aZ (i:=⟨0,0,0,0,0,0,0,0⟩) bb (T _)
    rw[hv2] at hA hC
    clear hv2
    obtain⟨q0,q1,q2,q3,q4,q5,q6,q7⟩:=hA.cells
    simp only at q0 q1 q2 q3 q4 q5 q6 q7
    refine bodyPost_ret (v:=.tuple #[.agg #[I Q 0,I Q 0,I Q 0,I Q 0,I Q 0,I Q 0,I N 0,I Q 0],.string ⟨#[]⟩,.bool false]) (by simp[results,Tryz.results64,go_sem,q0,q1,q2,q3,q4,q5,q6,q7]) rfl ⟨?_,hC⟩
    rw[HY.out];rfl)
