import Derived.Test.YtieiifdhdjhnoaaGreatDoorQInstB
import Derived.Deep.DeepCutAuto
import Derived.Deep.CutBlock
set_option linter.unusedVariables false
set_option maxHeartbeats 4000000
set_option maxRecDepth 100000
open Go.Value renaming int->I
open Go.IntKind renaming i64->Q
open Bool renaming false->N,true->O
open Go.Lib renaming hid->Z
open Go.RowKit.Below renaming refl->V
open Nat renaming le_of_lt->P
namespace Go.Proofs.YtieiifdhdjhnoaaGreatDoor
open Go.ChangeShapes Go.WideShapes Go.ChangeAt Go.RowKit
theorem eM {B:Nat}{w z:World}(h:Below B w z)(n:Nat):Below B w (z.drewN n):=⟨h.os,h.tape,h.output,h.size,h.block⟩
section
variable {la ow:Int}{q:List Int}{x:En}
theorem CU (h:x.kind=2):dC la q ow x↔la=1:=⟨fun hk=>by unfold dC at hk;omega,fun e=>.inr (.inl ⟨.inl h,e⟩)⟩
theorem CP (h:x.kind=7):dC la q ow x↔la=1:=⟨fun hk=>by unfold dC at hk;omega,fun e=>.inr (.inl ⟨.inr h,e⟩)⟩
theorem CT (h:x.kind=4):dC la q ow x↔la=2:=⟨fun hk=>by unfold dC at hk;omega,fun e=>.inr (.inr (.inr (.inl ⟨h,e⟩)))⟩
theorem CS (h:x.kind=5):dC la q ow x↔la=3:=⟨fun hk=>by unfold dC at hk;omega,fun e=>.inr (.inr (.inr (.inr (.inl ⟨h,e⟩))))⟩
theorem CQ (h:x.kind=6):dC la q ow x↔la=4:=⟨fun hk=>by unfold dC at hk;omega,fun e=>.inr (.inr (.inr (.inr (.inr (.inl ⟨h,e⟩)))))⟩
theorem CO (h:x.kind=8):dC la q ow x↔la=5:=⟨fun hk=>by unfold dC at hk;omega,fun e=>.inr (.inr (.inr (.inr (.inr (.inr (.inl ⟨h,e⟩))))))⟩
theorem CN (h:x.kind=9):dC la q ow x↔la=8:=⟨fun hk=>by unfold dC at hk;omega,fun e=>.inr (.inr (.inr (.inr (.inr (.inr (.inr (.inl ⟨h,e⟩)))))))⟩
theorem Ay (h:x.kind=10):dC la q ow x↔la=9:=⟨fun hk=>by unfold dC at hk;omega,fun e=>.inr (.inr (.inr (.inr (.inr (.inr (.inr (.inr (⟨h,e⟩))))))))⟩
theorem wz (h:x.kind=1):dC la q ow x↔la=0\/la=6\/la=7\/la=10:=⟨fun hk=>by unfold dC at hk;omega,fun e=>.inl ⟨h,e⟩⟩
theorem lf (h:x.kind=3):dC la q ow x↔la=2/\q.head?=some x.th/\ow=-1:=by
 constructor
 ·intro hk
  unfold dC at hk
  rcases hk with h1 | h1 | h1 | h1 | h1 | h1 | h1 | h1 | h1
  ·omega
  ·omega
  ·exact h1.2
  all_goals omega
 ·intro e
  exact .inr (.inr (.inl ⟨h,e⟩))
theorem Ax (h:¬ (1<=x.kind/\x.kind<=10)):¬ dC la q ow x:=fun hk=>by unfold dC at hk;omega
end
theorem FP (n:Int)(l:List En)(a:Option Addr)(cap:Nat)(x:En)(w:World)(S:rq w a l)(hp:l.length<=cap)(hcm:cap<=maxLen)(hlen:l.length<=1000000000):
 Calls Tryz.prog 70 #[I Q n,.slice a l.length cap,GL x] w fun e w'=>e=.returned (.bool (decide (eN n l x)))/\Below w.heap.size w w':=by
 have hbz:Below w.heap.size w (w.alloc (.cells #[I Q x.kind,I Q x.th,I Q x.now] 93)):=(V _ _).alloc (Nat.le_refl _) _
 have hNb:=Nb.made 93 w x.kind x.th x.now
 have HLa:=Z (fun W (hW:Below w.heap.size w W)=>zm l a cap x.th W (S.below hW) hlen)
 have HQu:=Z (fun W (hW:Below w.heap.size w W)=>Es l a cap W (S.below hW) hp hcm hlen)
 have HOw:=Z (fun W (hW:Below w.heap.size w W)=>Et l a cap W (S.below hW) hlen)
 have HF:Hid (decide (eN n l x)=(decide (0<=x.th/\x.th<n/\vJ l x) && decide (dC (aF l x.th) (gD l) (fe l) x))):=Z (by
  unfold eN
  rw[<-Bool.decide_and]
  exact decide_eq_decide.2 ⟨fun⟨a,b,c,d⟩=>⟨⟨a,b,c⟩,d⟩,fun⟨⟨a,b,c⟩,d⟩=>⟨a,b,c,d⟩⟩)
 have HND:Hid (vJ l x↔0<=x.now/\∀ m y,l.length=m+1->l[m]?=some y->y.now<=x.now):=Z (by
  unfold vJ
  rw[List.getLast?_eq_getElem?]
  cases hl:l.length with
  | zero=>
   rw[List.eq_nil_of_length_eq_zero hl]
   simp
  | succ m=>
   simp only[Nat.add_sub_cancel]
   have hg:=List.getElem?_eq_getElem (show m<l.length by omega)
   rw[hg]
   simp only
   constructor
   ·rintro⟨h1,h2⟩
    refine⟨h1,fun m2 y e1 e2=>?_⟩
    have:m2=m:=by omega
    subst this
    rw[hg] at e2;injection e2 with e2;subst e2;exact h2
   ·rintro⟨h1,h2⟩
    exact⟨h1,h2 m _ rfl hg⟩)
 have HSz:Hid (∀ W,Below w.heap.size w W->rq W a l):=Z (fun W hW=>S.below hW)
 have HEND:Hid (∀ W,Below w.heap.size w W->Up w W):=Z (fun _ h=>h)
 generalize decide (eN n l x)=R at *
 obtain⟨xk,xt,xn⟩:=x
 unfold GL
 simp only at *
 clear S hcm
 go_enter Tryz.func70,Tryz.ntmps70
 go_upto_region 1 with fail
 generalize hz:w.alloc (.cells #[I Q xk,I Q xt,I Q xn] 93)=z at *
 generalize hp0:w.heap.size=p at *
 obtain⟨e0,e1,e2⟩:=hNb.cells
 simp only at e0 e1 e2
 have HZ:=Z hz
 have HP0:=Z hp0
 clear hz hp0
 obtain⟨bad,hbad⟩:∃ bad,(!decide (0<=xt/\xt<n/\vJ l ⟨xk,xt,xn⟩))=bad:=⟨_,rfl⟩
 have HBad:=Z hbad
 clear hbad
 go_cut [39] (fun v wx=>v=.bool bad/\Below z.heap.size z wx)
 case first=>
  clear HLa HQu HOw HF HEND
  by_cases a0:xt<0
  ·have d0:decide (xt<0)=O:=by simpa using a0
   have HB:Hid (O=bad):=Z (by rw[<-HBad.out];exact(congrArg (!·) (decide_eq_false (fun h=>by omega))).symm)
   clear a0 HND HSz
   go_quiet (fail)
   go_wp2
   go_meet
   case rel=>exact⟨by rw[<-HB.out],eM (V _ z) _⟩
  have d0:decide (xt<0)=N:=by simpa using a0
  by_cases a1:xt>=n
  ·have d1:decide (xt>=n)=O:=by simpa using a1
   have HB:Hid (O=bad):=Z (by rw[<-HBad.out];exact(congrArg (!·) (decide_eq_false (fun h=>by omega))).symm)
   clear a0 a1 HND HSz
   go_quiet (fail)
   go_wp2
   go_meet
   case rel=>exact⟨by rw[<-HB.out],eM (V _ z) _⟩
  have d1:decide (xt>=n)=N:=by simpa using a1
  by_cases a2:xn<0
  ·have d2:decide (xn<0)=O:=by simpa using a2
   have HB:Hid (O=bad):=Z (by rw[<-HBad.out];exact(congrArg (!·) (decide_eq_false (fun h=>by have:=HND.out.1 h.2.2;omega))).symm)
   clear a0 a1 a2 HND HSz
   go_quiet (fail)
   go_wp2
   go_meet
   case rel=>exact⟨by rw[<-HB.out],eM (V _ z) _⟩
  have d2:decide (xn<0)=N:=by simpa using a2
  by_cases a3:0<l.length
  ·obtain⟨m,hm⟩:∃ m,l.length=m+1:=⟨l.length-1,by omega⟩
   have HM:=Z hm
   have hml:m<l.length:=by omega
   have hmi:(m:Int)<(l.length:Int):=by omega
   have hme:((l.length:Int)-1)=(m:Int):=by omega
   have d3:decide ((l.length:Int) > 0)=O:=decide_eq_true (by omega)
   have d3':decide (0<l.length)=O:=decide_eq_true a3
   have hS:rq z a l:=HSz.out z hbz
   obtain⟨b,off,rfl,hbl,c0,c1,c2⟩:=hS.at_ (List.getElem?_eq_getElem hml)
   have hg:=List.getElem?_eq_getElem hml
   generalize l[m]=y at *
   obtain⟨yk,yt,yn⟩:=y
   simp only at c0 c1 c2
   by_cases a4:xn<yn
   ·have d4:decide (xn<yn)=O:=by simpa using a4
    have HB:Hid (O=bad):=Z (by rw[<-HBad.out];exact(congrArg (!·) (decide_eq_false (fun h=>by
     have:=(HND.out.1 h.2.2).2 m _ hm hg
     simp only at this
     omega))).symm)
    clear a0 a1 a2 a3 a4 HND HSz hm hml hg hS
    go_quiet (fail)
    go_wp2
    go_meet
    case rel=>exact⟨by rw[<-HB.out],eM (V _ z) _⟩
   ·have d4:decide (xn<yn)=N:=by simpa using a4
    have HB:Hid (N=bad):=Z (by rw[<-HBad.out];exact(congrArg (!·) (decide_eq_true ⟨by omega,by omega,HND.out.2 ⟨by omega,fun m2 y2 e3 e4=>by
     have:m2=m:=by omega
     subst this
     rw[hg] at e4;injection e4 with e4;subst e4
     simp only;omega⟩⟩)).symm)
    clear a0 a1 a2 a3 a4 HND HSz hm hml hg hS
    go_quiet (fail)
    go_wp2
    go_meet
    case rel=>exact⟨by rw[<-HB.out],eM (V _ z) _⟩
  ·have d3:decide ((l.length:Int) > 0)=N:=decide_eq_false (by omega)
   have d3':decide (0<l.length)=N:=decide_eq_false a3
   have HB:Hid (N=bad):=Z (by rw[<-HBad.out];exact(congrArg (!·) (decide_eq_true ⟨by omega,by omega,HND.out.2 ⟨by omega,fun m2 y2 e3 e4=>by omega⟩⟩)).symm)
   clear a0 a1 a2 a3 HND HSz
   go_quiet (fail)
   go_wp2
   go_meet
   case rel=>exact⟨by rw[<-HB.out],eM (V _ z) _⟩
 case rest=>
  obtain⟨rfl,hbc⟩:=hcut
  have hNc:=hNb.below hbc
  have hwc:=hbz.trans (hbc.mono (P (Bk.lt hNb)))
  obtain⟨f0,f1,f2⟩:=hNc.cells
  simp only at f0 f1 f2
  clear hNb e0 e1 e2 HND HSz
  cases bad with
  | true=>
   have HR:Hid (R=N):=Z (by
    rw[HF.out]
    have:=HBad.out
    simp only[Bool.not_eq_true'] at this
    rw[this];rfl)
   have hfin:=HEND.out wc hwc
   clear HF HBad HLa HQu HOw
   go_wp2
   go_ret
   exact⟨by rw[HR.out];rfl,hfin⟩
  | false=>
   have HK:Hid (R=decide (dC (aF l xt) (gD l) (fe l) ⟨xk,xt,xn⟩)):=Z (by
    rw[HF.out]
    have:=HBad.out
    simp only[Bool.not_eq_false'] at this
    rw[this];rfl)
   clear HF HBad hbc hbz
   generalize aF l xt=la at *
   by_cases h2:xk=2
   ·have HR:Hid (R=(la==1)):=Z (by
     rw[HK.out,Bool.eq_iff_iff,decide_eq_true_iff,beq_iff_eq]
     exact CU h2)
    subst h2
    clear HK HQu HOw
    go_wp2_with fail
    refine(HLa.out wc hwc).mono ?_
    rintro e y ⟨rfl,hy⟩
    have hfin:=HEND.out y (hwc.trans (hy.mono (P (Bk.lt hNc))))
    obtain⟨f0,f1,f2⟩:=(hNc.below hy).cells
    simp only at f0 f1 f2
    clear HLa hNc
    go_wp2
    go_ret
    exact⟨by rw[HR.out];rfl,hfin⟩
   by_cases h7:xk=7
   ·have HR:Hid (R=(la==1)):=Z (by
     rw[HK.out,Bool.eq_iff_iff,decide_eq_true_iff,beq_iff_eq]
     exact CP h7)
    subst h7
    clear HK HQu HOw
    go_wp2_with fail
    refine(HLa.out wc hwc).mono ?_
    rintro e y ⟨rfl,hy⟩
    have hfin:=HEND.out y (hwc.trans (hy.mono (P (Bk.lt hNc))))
    obtain⟨f0,f1,f2⟩:=(hNc.below hy).cells
    simp only at f0 f1 f2
    clear HLa hNc
    go_wp2
    go_ret
    exact⟨by rw[HR.out];rfl,hfin⟩
   by_cases h4:xk=4
   ·have HR:Hid (R=(la==2)):=Z (by
     rw[HK.out,Bool.eq_iff_iff,decide_eq_true_iff,beq_iff_eq]
     exact CT h4)
    subst h4
    clear HK HQu HOw
    go_wp2_with fail
    refine(HLa.out wc hwc).mono ?_
    rintro e y ⟨rfl,hy⟩
    have hfin:=HEND.out y (hwc.trans (hy.mono (P (Bk.lt hNc))))
    obtain⟨f0,f1,f2⟩:=(hNc.below hy).cells
    simp only at f0 f1 f2
    clear HLa hNc
    go_wp2
    go_ret
    exact⟨by rw[HR.out];rfl,hfin⟩
   by_cases h5:xk=5
   ·have HR:Hid (R=(la==3)):=Z (by
     rw[HK.out,Bool.eq_iff_iff,decide_eq_true_iff,beq_iff_eq]
     exact CS h5)
    subst h5
    clear HK HQu HOw
    go_wp2_with fail
    refine(HLa.out wc hwc).mono ?_
    rintro e y ⟨rfl,hy⟩
    have hfin:=HEND.out y (hwc.trans (hy.mono (P (Bk.lt hNc))))
    obtain⟨f0,f1,f2⟩:=(hNc.below hy).cells
    simp only at f0 f1 f2
    clear HLa hNc
    go_wp2
    go_ret
    exact⟨by rw[HR.out];rfl,hfin⟩
   by_cases h6:xk=6
   ·have HR:Hid (R=(la==4)):=Z (by
     rw[HK.out,Bool.eq_iff_iff,decide_eq_true_iff,beq_iff_eq]
     exact CQ h6)
    subst h6
    clear HK HQu HOw
    go_wp2_with fail
    refine(HLa.out wc hwc).mono ?_
    rintro e y ⟨rfl,hy⟩
    have hfin:=HEND.out y (hwc.trans (hy.mono (P (Bk.lt hNc))))
    obtain⟨f0,f1,f2⟩:=(hNc.below hy).cells
    simp only at f0 f1 f2
    clear HLa hNc
    go_wp2
    go_ret
    exact⟨by rw[HR.out];rfl,hfin⟩
   by_cases h8:xk=8
   ·have HR:Hid (R=(la==5)):=Z (by
     rw[HK.out,Bool.eq_iff_iff,decide_eq_true_iff,beq_iff_eq]
     exact CO h8)
    subst h8
    clear HK HQu HOw
    go_wp2_with fail
    refine(HLa.out wc hwc).mono ?_
    rintro e y ⟨rfl,hy⟩
    have hfin:=HEND.out y (hwc.trans (hy.mono (P (Bk.lt hNc))))
    obtain⟨f0,f1,f2⟩:=(hNc.below hy).cells
    simp only at f0 f1 f2
    clear HLa hNc
    go_wp2
    go_ret
    exact⟨by rw[HR.out];rfl,hfin⟩
   by_cases h9:xk=9
   ·have HR:Hid (R=(la==8)):=Z (by
     rw[HK.out,Bool.eq_iff_iff,decide_eq_true_iff,beq_iff_eq]
     exact CN h9)
    subst h9
    clear HK HQu HOw
    go_wp2_with fail
    refine(HLa.out wc hwc).mono ?_
    rintro e y ⟨rfl,hy⟩
    have hfin:=HEND.out y (hwc.trans (hy.mono (P (Bk.lt hNc))))
    obtain⟨f0,f1,f2⟩:=(hNc.below hy).cells
    simp only at f0 f1 f2
    clear HLa hNc
    go_wp2
    go_ret
    exact⟨by rw[HR.out];rfl,hfin⟩
   by_cases h10:xk=10
   ·have HR:Hid (R=(la==9)):=Z (by
     rw[HK.out,Bool.eq_iff_iff,decide_eq_true_iff,beq_iff_eq]
     exact Ay h10)
    subst h10
    clear HK HQu HOw
    go_wp2_with fail
    refine(HLa.out wc hwc).mono ?_
    rintro e y ⟨rfl,hy⟩
    have hfin:=HEND.out y (hwc.trans (hy.mono (P (Bk.lt hNc))))
    obtain⟨f0,f1,f2⟩:=(hNc.below hy).cells
    simp only at f0 f1 f2
    clear HLa hNc
    go_wp2
    go_ret
    exact⟨by rw[HR.out];rfl,hfin⟩
   by_cases h1:xk=1
   ·subst h1
    by_cases hla:la=0\/la=6\/la=7\/la=10
    ·have HR:Hid (R=O):=Z (by
      rw[HK.out]
      exact decide_eq_true ((wz rfl).2 hla))
     clear HK HQu HOw
     rcases hla with rfl|rfl|rfl|rfl <;> (
      go_wp2_with fail
      refine(HLa.out wc hwc).mono ?_
      rintro e y ⟨rfl,hy⟩
      have hfin:=HEND.out y (hwc.trans (hy.mono (P (Bk.lt hNc))))
      obtain⟨f0,f1,f2⟩:=(hNc.below hy).cells
      simp only at f0 f1 f2
      clear HLa hNc
      go_wp2
      go_ret
      exact⟨by rw[HR.out];rfl,hfin⟩)
    ·have HR:Hid (R=N):=Z (by
      rw[HK.out]
      exact decide_eq_false (fun e=>hla ((wz rfl).1 e)))
     have l0:(la==0)=N:=beq_eq_false_iff_ne.2 (by omega)
     have l6:(la==6)=N:=beq_eq_false_iff_ne.2 (by omega)
     have l7:(la==7)=N:=beq_eq_false_iff_ne.2 (by omega)
     have l10:(la==10)=N:=beq_eq_false_iff_ne.2 (by omega)
     clear HK HQu HOw hla
     go_wp2_with fail
     refine(HLa.out wc hwc).mono ?_
     rintro e y ⟨rfl,hy⟩
     have hfin:=HEND.out y (hwc.trans (hy.mono (P (Bk.lt hNc))))
     obtain⟨f0,f1,f2⟩:=(hNc.below hy).cells
     simp only at f0 f1 f2
     clear HLa hNc
     go_wp2
     go_ret
     exact⟨by rw[HR.out];rfl,hfin⟩
   by_cases h3:xk=3
   ·subst h3
    obtain⟨qu,hqu⟩:∃ qu,gD l=qu:=⟨_,rfl⟩
    rw[hqu] at HK HQu
    clear hqu
    obtain⟨ow,how⟩:∃ ow,fe l=ow:=⟨_,rfl⟩
    rw[how] at HK HOw
    clear how
    have HO2:Hid (∀ y2,Below p w y2->p<=y2.heap.size->∀ g:fL y2,Calls Tryz.prog 109 #[.slice a l.length cap] g.x fun e y=>e=.returned (I Q ow)/\Below g.x.heap.size g.x y):=Z (fun y2 h1 h2 g=>HOw.out g.x (h1.trans (g.ok.mono h2)))
    clear HOw
    go_wp2_with fail
    refine(HLa.out wc hwc).mono ?_
    rintro e y ⟨rfl,hy⟩
    have hwy:=hwc.trans (hy.mono (P (Bk.lt hNc)))
    have hNy:=hNc.below hy
    obtain⟨f0,f1,f2⟩:=hNy.cells
    simp only at f0 f1 f2
    go_wp2_with fail
    refine(HQu.out y hwy).mono ?_
    rintro e y2 ⟨v,rfl,hv,hvo,hy2⟩
    have hwy2:=hwy.trans (hy2.mono (P (Bk.lt hNy)))
    have hNy2:=hNy.below hy2
    obtain⟨f0,f1,f2⟩:=hNy2.cells
    simp only at f0 f1 f2
    have g1:∀ g:fL y2,g.x.cell? ⟨p,1,none⟩=some (I Q xt):=fun g=>g.cell f1
    replace HO2:=Z (HO2.out y2 hwy2 (P (Bk.lt hNy2)))
    obtain⟨a2,cap2,rfl,_,_,hcells⟩:=hv.is
    clear HLa HQu hNc hNy hy hy2 hvo hv
    by_cases hla:la=2
    ·have q2:(la==2)=O:=by simpa using hla
     by_cases hq0:0<qu.length
     ·obtain⟨gq,rfl,_,_,hc0⟩:=hcells hq0
      have gc0:∀ g:fL y2,g.x.cell? ⟨gq,0,none⟩=some (I Q (aD qu 0)):=fun g=>g.cell (hc0 0 hq0)
      have hh:qu.head?=some (aD qu 0):=by
       rw[List.head?_eq_getElem?,iH hq0]
      have d1:decide ((qu.length:Int) > 0)=O:=decide_eq_true (by omega)
      have d1':decide (0<qu.length)=O:=decide_eq_true hq0
      have hq0':((0:Int)<(qu.length:Int)):=by omega
      generalize aD qu 0=q0 at *
      clear hcells hc0
      by_cases hqt:q0=xt
      ·have d2:(q0==xt)=O:=by simpa using hqt
       by_cases ho:ow=-1
       ·have HR:Hid (R=O):=Z (by rw[HK.out];exact decide_eq_true ((lf rfl).2 ⟨hla,by rw[hh,hqt],ho⟩))
        have d3:(ow==-1)=O:=by simpa using ho
        clear HK hh hla hqt ho hq0
        go_upto_region 12 with fail
        refine ap (by kernel_rfl) (by kernel_rfl) ?_
        repeat (go_big_quiet_step ((go_at_call 109;with_reducible exact ao (HO2.out _))))
        refine wpQuiet_nil ?_
        rintro y3 ⟨⟨_,hy3⟩,rfl⟩
        have hfin:=HEND.out y3 (hwy2.trans (hy3.mono (P (Bk.lt hNy2))))
        clear HO2 g1 hNy2
        go_wp2
        go_ret
        exact⟨by rw[HR.out];rfl,hfin⟩
       ·have HR:Hid (R=N):=Z (by rw[HK.out];exact decide_eq_false (fun e=>ho ((lf rfl).1 e).2.2))
        have d3:(ow==-1)=N:=by simpa using ho
        clear HK hh hla hqt ho hq0
        go_upto_region 12 with fail
        refine ap (by kernel_rfl) (by kernel_rfl) ?_
        repeat (go_big_quiet_step ((go_at_call 109;with_reducible exact ao (HO2.out _))))
        refine wpQuiet_nil ?_
        rintro y3 ⟨⟨_,hy3⟩,rfl⟩
        have hfin:=HEND.out y3 (hwy2.trans (hy3.mono (P (Bk.lt hNy2))))
        clear HO2 g1 hNy2
        go_wp2
        go_ret
        exact⟨by rw[HR.out];rfl,hfin⟩
      ·have HR:Hid (R=N):=Z (by
        rw[HK.out]
        refine decide_eq_false (fun e=>hqt ?_)
        have:=((lf rfl).1 e).2.1
        rw[hh] at this
        simpa using this)
       have d2:(q0==xt)=N:=by simpa using hqt
       clear HK hh hla hqt hq0
       go_upto_region 12 with fail
       refine ap (by kernel_rfl) (by kernel_rfl) ?_
       repeat (go_big_quiet_step ((go_at_call 109;with_reducible exact ao (HO2.out _))))
       refine wpQuiet_nil ?_
       rintro y3 ⟨⟨_,hy3⟩,rfl⟩
       have hfin:=HEND.out y3 (hwy2.trans (hy3.mono (P (Bk.lt hNy2))))
       clear HO2 g1 hNy2
       go_wp2
       go_ret
       exact⟨by rw[HR.out];rfl,hfin⟩
     ·have HR:Hid (R=N):=Z (by
       rw[HK.out]
       refine decide_eq_false (fun e=>hq0 ?_)
       have:=((lf rfl).1 e).2.1
       cases qu with
       | nil=>simp at this
       | cons _ _=>simp)
      have d1:decide ((qu.length:Int) > 0)=N:=decide_eq_false (by omega)
      have d1':decide (0<qu.length)=N:=decide_eq_false hq0
      clear HK hla hq0 hcells
      go_upto_region 12 with fail
      refine ap (by kernel_rfl) (by kernel_rfl) ?_
      repeat (go_big_quiet_step ((go_at_call 109;with_reducible exact ao (HO2.out _))))
      refine wpQuiet_nil ?_
      rintro y3 ⟨⟨_,hy3⟩,rfl⟩
      have hfin:=HEND.out y3 (hwy2.trans (hy3.mono (P (Bk.lt hNy2))))
      clear HO2 g1 hNy2
      go_wp2
      go_ret
      exact⟨by rw[HR.out];rfl,hfin⟩
    ·have HR:Hid (R=N):=Z (by rw[HK.out];exact decide_eq_false (fun e=>hla ((lf rfl).1 e).1))
     have q2:(la==2)=N:=by simpa using hla
     clear HK hla hcells
     go_upto_region 12 with fail
     refine ap (by kernel_rfl) (by kernel_rfl) ?_
     repeat (go_big_quiet_step ((go_at_call 109;with_reducible exact ao (HO2.out _))))
     refine wpQuiet_nil ?_
     rintro y3 ⟨⟨_,hy3⟩,rfl⟩
     have hfin:=HEND.out y3 (hwy2.trans (hy3.mono (P (Bk.lt hNy2))))
     clear HO2 g1 hNy2
     go_wp2
     go_ret
     exact⟨by rw[HR.out];rfl,hfin⟩
   have HR:Hid (R=N):=Z (by
    rw[HK.out]
    exact decide_eq_false (Ax (by simp only;omega)))
   have k1:(xk==1)=N:=beq_eq_false_iff_ne.2 h1
   have k2:(xk==2)=N:=beq_eq_false_iff_ne.2 h2
   have k3:(xk==3)=N:=beq_eq_false_iff_ne.2 h3
   have k4:(xk==4)=N:=beq_eq_false_iff_ne.2 h4
   have k5:(xk==5)=N:=beq_eq_false_iff_ne.2 h5
   have k6:(xk==6)=N:=beq_eq_false_iff_ne.2 h6
   have k7:(xk==7)=N:=beq_eq_false_iff_ne.2 h7
   have k8:(xk==8)=N:=beq_eq_false_iff_ne.2 h8
   have k9:(xk==9)=N:=beq_eq_false_iff_ne.2 h9
   have k10:(xk==10)=N:=beq_eq_false_iff_ne.2 h10
   clear HK HQu HOw h1 h2 h3 h4 h5 h6 h7 h8 h9 h10
   go_wp2_with fail
   refine(HLa.out wc hwc).mono ?_
   rintro e y ⟨rfl,hy⟩
   have hfin:=HEND.out y (hwc.trans (hy.mono (P (Bk.lt hNc))))
   obtain⟨f0,f1,f2⟩:=(hNc.below hy).cells
   simp only at f0 f1 f2
   clear HLa hNc
   go_wp2
   go_ret
   exact⟨by rw[HR.out];rfl,hfin⟩
theorem Bg (n:Int)(l:List En)(a:Option Addr)(cap:Nat)(w:World)(S:rq w a l)(hp:l.length<=cap)(hcm:cap<=maxLen)(hlen:l.length<=1000000000):
 Calls Tryz.prog 37 #[I Q n,.slice a l.length cap] w fun e w'=>e=.returned (I Q (cj n l:Nat))/\Below w.heap.size w w':=by
 by_cases hn:1<=n/\n<=64
 ·have d1:decide (n<1)=N:=decide_eq_false (by omega)
  have d2:decide (n > 64)=N:=decide_eq_false (by omega)
  have HV:Hid (∀ k:Nat,mw n l=k->cj n l=k):=Z (fun k hk=>by unfold cj;rw[if_pos hn,hk])
  generalize cj n l=res at *
  have HS:=Z (fun W (hW:Below w.heap.size w W)=>S.below hW)
  have HFi:Hid (∀ k x W,k<=l.length->Below w.heap.size w W->Calls Tryz.prog 70 #[I Q n,.slice a k cap,GL x] W fun e w'=>e=.returned (.bool (decide (eN n (l.take k) x)))/\Below W.heap.size W w'):=Z (fun k x W hk hW=>by
   have:=FP n (l.take k) a cap x W ((S.cut k).below hW) (by rw[List.length_take];omega) hcm (by rw[List.length_take];omega)
   rwa [List.length_take,Nat.min_eq_left hk] at this)
  simp only[maxLen] at hcm
  clear S hn
  go_enter Tryz.func37,Tryz.ntmps37
  go_wp2
  go_loopw [14] (fun q wr=>∃ k:Nat,q=I Q k/\k<=l.length/\Below w.heap.size w wr/\Hid (dD n (l.take k))) (fun q _=>l.length-(intOf q).toNat)
  case atStart=>exact⟨0,rfl,Nat.zero_le _,V _ _,Z (by rw[List.take_zero];exact pk n)⟩
  case round=>
   obtain⟨k,rfl,hk,hb,HT⟩:=hrel
   by_cases hlt:k<l.length
   ·have hki:(k:Int)<l.length:=by omega
    have hkc:(k:Int)<=(cap:Int):=by omega
    have hS:=HS.out wr hb
    obtain⟨b,off,rfl,hbl,c0,c1,c2⟩:=hS.at_ (List.getElem?_eq_getElem hlt)
    have HF2:Hid (∀ g:fL wr,Calls Tryz.prog 70 #[I Q n,.slice (some ⟨b,off,none⟩) k cap,GL l[k]] g.x fun e w'=>e=.returned (.bool (decide (eN n (l.take k) l[k])))/\Below g.x.heap.size g.x w'):=Z (fun g=>HFi.out k _ g.x hk (hb.trans (g.ok.mono hb.size)))
    have HY:Hid (eN n (l.take k) l[k]->dD n (l.take (k+1))):=Z (fun h=>by rw[kS l k hlt];exact gb.2 ⟨HT.out,h⟩)
    have HNo:Hid (¬ eN n (l.take k) l[k]->res=k):=Z (fun h=>HV.out k (yP hlt HT.out h))
    have HFD:Hid (∀ o:Bool,decide (eN n (l.take k) l[k])=o->(o=O->eN n (l.take k) l[k])/\(o=N->¬ eN n (l.take k) l[k])):=Z (fun o e=>⟨fun h=>of_decide_eq_true (by rw[e,h]),fun h=>of_decide_eq_false (by rw[e,h])⟩)
    obtain⟨o,ho⟩:∃ o,decide (eN n (l.take k) l[k])=o:=⟨_,rfl⟩
    have HO:=Z (HFD.out o ho)
    rw[ho] at HF2
    have HC:Hid ((o=O->dD n (l.take (k+1)))/\(o=N->res=k)):=Z ⟨fun h=>HY.out (HO.out.1 h),fun h=>HNo.out (HO.out.2 h)⟩
    clear HFD ho HO HY HNo HT hS
    generalize l[k]=x at *
    obtain⟨xk,xt,xn⟩:=x
    unfold GL at HF2
    simp only at c0 c1 c2 HF2
    have g0:∀ g:fL wr,g.x.cell? ⟨b,off+k*3,none⟩=some (I Q xk):=fun g=>g.cell c0
    have g1:∀ g:fL wr,g.x.cell? ⟨b,off+k*3+1,none⟩=some (I Q xt):=fun g=>g.cell c1
    have g2:∀ g:fL wr,g.x.cell? ⟨b,off+k*3+2,none⟩=some (I Q xn):=fun g=>g.cell c2
    clear c0 c1 c2
    go_upto_region 6 with fail
    refine ap (by kernel_rfl) (by kernel_rfl) ?_
    repeat (go_big_quiet_step ((go_at_call 70;with_reducible exact ao (HF2.out _))))
    refine wpQuiet_nil ?_
    rintro y ⟨⟨_,hy⟩,rfl⟩
    have hfin:=hb.trans (hy.mono hb.size)
    clear g0 g1 g2 HF2 hb hy
    cases o with
    | true=>
     have HT2:=Z (HC.out.1 rfl)
     clear HC
     go_wp2
     go_roundw
     case rel=>exact⟨k+1,by go_num,by omega,hfin,HT2⟩
     case measure=>simp[intOf];omega
    | false=>
     have HR:=Z (HC.out.2 rfl)
     clear HC HV HFi HS
     go_wp2
     go_ret
     exact⟨by rw[HR.out];rfl,hfin⟩
   ·obtain rfl:k=l.length:=by omega
    have HR:Hid (res=l.length):=Z (HV.out _ (by
     have h:=HT.out
     rw[List.take_length] at h
     exact ny h))
    clear HT HV HS HFi
    go_wp2
    go_ret
    exact⟨by rw[HR.out];rfl,hb⟩
 ·have HE:Hid (cj n l=0):=Z (by unfold cj;rw[if_neg hn])
  generalize cj n l=res at *
  clear S
  by_cases h1:n<1
  ·have d1:decide (n<1)=O:=decide_eq_true h1
   clear hn h1
   go_enter Tryz.func37,Tryz.ntmps37
   go_wp2
   go_ret
   exact⟨by rw[HE.out];rfl,V _ _⟩
  ·have d1:decide (n<1)=N:=decide_eq_false h1
   have d2:decide (n > 64)=O:=decide_eq_true (by omega)
   clear hn h1
   go_enter Tryz.func37,Tryz.ntmps37
   go_wp2
   go_ret
   exact⟨by rw[HE.out];rfl,V _ _⟩
