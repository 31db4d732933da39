import Derived.Test.YthdgehcghklflaaGreatDoorRAsmM
import Derived.Test.YthdgehcghklflaaGreatDoorRAsmC
import Derived.Test.YthdgehcghklflaaGreatDoorRInstH
set_option linter.unusedVariables false
namespace Go.Proofs.YthdgehcghklflaaGreatDoor
open Go.ChangeShapes Go.WideShapes Go.ChangeAt Go.RowKit
def prsV:Option Ins→Value
 | some i=>.tuple #[iv i,.bool true]
 | none=>.tuple #[iv Ins.zero,.bool false]
theorem parse_prs (s:List UInt8):parseRV s=prsV (prs s):=by
 unfold parseRV prs
 split <;> rfl
def tailR:Option Ins→Option (Ins×List UInt8)
 | some j=>if goesB j=true then none else some (j,[])
 | none=>none
def lineV:Option (Ins×List UInt8)→Value
 | some x=>.tuple #[iv x.1,bs x.2,.bool true]
 | none=>.tuple #[iv Ins.zero,bs [],.bool false]
theorem last_at (ws:List (List UInt8))(h:0 < ws.length):ws.getD (ws.length - 1) []=ws.getLastD []:=by
 rw[List.getLastD_eq_getLast?,List.getLast?_eq_getElem?,List.getD_eq_getElem?_getD]
set_option maxHeartbeats 4000000 in
set_option maxRecDepth 100000 in
theorem rLine (s:List UInt8)(hl:s.length < 90000)(w:World):
 Calls Tryz.prog 63 #[bs s] w fun e w'=>e=.returned (lineV (lineL s))∧Below w.heap.size w w':=by
 have HW:=Lib.hid (fun W=>rWords s (by omega) W)
 have hpos:=wordsL_pos s
 have hlw:(lastW s).length≤s.length:=by
  have h:=wordsL_le s
  unfold lastW
  rw[←last_at _ hpos,List.getD_eq_getElem?_getD,List.getElem?_eq_getElem (by omega)]
  exact h _ (List.getElem_mem _)
 have HLa:Hid ((wordsL s).getD ((wordsL s).length - 1) []=lastW s):=Lib.hid (last_at _ hpos)
 have hlen:=wordsL_len s
 have hcut:=fun W=>run_ahead s (s.length - (lastW s).length) (by omega) W
 have hh:s.take (s.length - (lastW s).length)=headW s:=rfl
 rw[hh] at hcut
 have hhl:(headW s).length≤s.length:=by unfold headW;simp
 have hcat:=cat_bs (headW s) [48]
 have hcat2:¬ 9223372036854775807 < (headW s).length+1:=by omega
 have HP1:=Lib.hid (fun W=>rParse (headW s++[48]) (by simp;omega) W)
 have HP2:=Lib.hid (fun W=>rParse s (by omega) W)
 have HNm:=Lib.hid (fun W=>rName07 (lastW s) W)
 have HG:=Lib.hid rGoes
 rw[parse_prs] at HP1 HP2
 have HX:Hid (lineL s=match prs (headW s++[48]) with
  | some i=>if goesB i=true∧nameB (lastW s)=true then some (i,lastW s)
   else match prs s with
    | some j=>if goesB j=true then none else some (j,[])
    | none=>none
  | none=>match prs s with
   | some j=>if goesB j=true then none else some (j,[])
   | none=>none):=Lib.hid rfl
 generalize lineL s=r at *
 generalize hA:prs (headW s++[48])=pA at *
 generalize hB:prs s=pB at *
 generalize headW s=hd at *
 generalize nameB (lastW s)=nb at *
 have e1:((s.length - (lastW s).length:Nat):Int)=(s.length:Int) - (lastW s).length:=by omega
 simp only[e1] at hcut
 clear e1 hA hB hh
 generalize lastW s=la at *
 generalize wordsL s=ws at *
 unfold bs at HW HP1 HP2 HNm ⊢
 go_enter Tryz.func63,Tryz.ntmps63
 go_wp2_with fail
 have b1:Below w.heap.size w (w.alloc (.cells #[.int .i64 0,.int .i64 0,.int .i64 0,.int .i64 0,.int .i64 0,.int .i64 0,.int .u32 0,.int .i64 0] 125)):=(Below.refl _ _).alloc (Nat.le_refl _) _
 have m1:Jb (w.alloc (.cells #[.int .i64 0,.int .i64 0,.int .i64 0,.int .i64 0,.int .i64 0,.int .i64 0,.int .u32 0,.int .i64 0] 125)) w.heap.size Ins.zero:=Bk.made _ _ _
 generalize w.alloc (.cells #[.int .i64 0,.int .i64 0,.int .i64 0,.int .i64 0,.int .i64 0,.int .i64 0,.int .u32 0,.int .i64 0] 125)=x1 at *
 refine(HW.out x1).mono ?_
 rintro e x2 ⟨v,rfl,hV,b2⟩
 replace m1:=m1.below b2
 replace b1:=b1.trans (b2.mono b1.size)
 clear b2 x1
 obtain⟨gl,cap,rfl,hS⟩:=ws_of hV hpos
 clear hV HW
 have hc0:=hS.at_ (ws.length - 1) (by omega)
 rw[HLa.out] at hc0
 have e2:((ws.length - 1:Nat):Int)=(ws.length:Int) - 1:=by omega
 have e3:((ws.length:Int) - 1).toNat=ws.length - 1:=by omega
 have i1:¬ (ws.length:Int) - 1 < 0:=by omega
 have i2:(ws.length:Int) - 1 < ws.length:=by omega
 go_wp2_with fail
 refine(HP1.out x2).mono ?_
 rintro e x3 ⟨rfl,b3⟩
 replace m1:=m1.below b3
 have bb:=b1.trans (b3.mono b1.size)
 have HT:Hid (∀ i,pA=some i→goesB i=true→nb=true→r=some (i,la)):=Lib.hid fun i h1 h2 h3=>by
  rw[HX.out,h1];simp[h2,h3]
 have HU:Hid ((∀ i,pA=some i→goesB i=true→nb=true→False)→r=tailR pB):=Lib.hid fun h=>by
  rw[HX.out]
  rcases pA with _ | i
  ·rfl
  ·have:¬ (goesB i=true∧nb=true):=fun e=>h i rfl e.1 e.2
   simp only[if_neg this]
   rfl
 clear HX HP1 hcut hcat hcat2 hc0 hS b1 b3 x2 i1 i2 e2 e3 HLa hhl
 rcases pA with _ | ⟨op,d,s',t,u,a,k,pl⟩
 case' none=>
  replace HU:=Lib.hid (HU.out (by simp))
  clear HT HNm
  rw[show prsV none=.tuple #[.agg #[.int .i64 0,.int .i64 0,.int .i64 0,.int .i64 0,.int .i64 0,.int .i64 0,.int .u32 0,.int .i64 0],.bool false] from rfl]
  go_upto_region 5 with fail
  have m2:=Jb.made x3 0 0 0 0 0 0 0 0
  have hle:w.heap.size < x3.heap.size:=Bk.lt m1
  replace m1:Jb (x3.alloc (.cells #[.int .i64 0,.int .i64 0,.int .i64 0,.int .i64 0,.int .i64 0,.int .i64 0,.int .u32 0,.int .i64 0] 125)) w.heap.size Ins.zero:=Bk.alloc m1 _
  replace bb:=bb.alloc (o:=.cells #[.int .i64 0,.int .i64 0,.int .i64 0,.int .i64 0,.int .i64 0,.int .i64 0,.int .u32 0,.int .i64 0] 125) bb.size
  have hne:w.heap.size≠x3.heap.size:=Nat.ne_of_lt hle
  generalize x3.heap.size=g at *
  generalize x3.alloc (.cells #[.int .i64 0,.int .i64 0,.int .i64 0,.int .i64 0,.int .i64 0,.int .i64 0,.int .u32 0,.int .i64 0] 125)=x4 at *
  go_wp2_with fail
 case' some=>
  rw[show prsV (some ⟨op,d,s',t,u,a,k,pl⟩)=.tuple #[.agg #[.int .i64 op,.int .i64 d,.int .i64 s',.int .i64 t,.int .i64 u,.int .i64 a,.int .u32 k,.int .i64 pl],.bool true] from rfl]
  go_upto_region 5 with fail
  have m2:=Jb.made x3 op d s' t u a k pl
  have hle:w.heap.size < x3.heap.size:=Bk.lt m1
  replace m1:Jb (x3.alloc (.cells #[.int .i64 op,.int .i64 d,.int .i64 s',.int .i64 t,.int .i64 u,.int .i64 a,.int .u32 k,.int .i64 pl] 125)) w.heap.size Ins.zero:=Bk.alloc m1 _
  replace bb:=bb.alloc (o:=.cells #[.int .i64 op,.int .i64 d,.int .i64 s',.int .i64 t,.int .i64 u,.int .i64 a,.int .u32 k,.int .i64 pl] 125) bb.size
  have hne:w.heap.size≠x3.heap.size:=Nat.ne_of_lt hle
  generalize x3.heap.size=g at *
  generalize x3.alloc (.cells #[.int .i64 op,.int .i64 d,.int .i64 s',.int .i64 t,.int .i64 u,.int .i64 a,.int .u32 k,.int .i64 pl] 125)=x4 at *
  obtain⟨c0,c1,c2,c3,c4,c5,c6,c7⟩:=m2.cells
  have hfG:=Bk.free m2
  simp only at c0 c1 c2 c3 c4 c5 c6 c7
  go_wp2_with fail
  refine(HG.out ⟨op,d,s',t,u,a,k,pl⟩ x4).mono ?_
  rintro e x5 ⟨rfl,b5⟩
  replace m1:=m1.below b5
  replace m2:=m2.below b5
  replace bb:=bb.trans (b5.mono bb.size)
  clear c0 c1 c2 c3 c4 c5 c6 c7 b5 x4 hfG
  rcases hq:goesB ⟨op,d,s',t,u,a,k,pl⟩
  case' false=>
   replace HU:=Lib.hid (HU.out (by intro i h1 h2;injection h1 with h1;subst h1;rw[hq] at h2;cases h2))
   clear HT hq HNm
   go_wp2_with fail
  case' true=>
   go_wp2_with fail
   refine(HNm.out x5).mono ?_
   rintro e x6 ⟨rfl,rfl⟩
   clear HNm
   rcases nb
   case' false=>
    replace HU:=Lib.hid (HU.out (by simp))
    clear HT hq
    go_wp2_with fail
   case' true=>
    replace HT:=Lib.hid (HT.out _ rfl hq rfl)
    clear HU hq HP2 HG
    obtain⟨c0,c1,c2,c3,c4,c5,c6,c7⟩:=m2.cells
    have hfG:=Bk.free m2
    simp only at c0 c1 c2 c3 c4 c5 c6 c7
    obtain⟨r0,r1,r2,r3,r4,r5,r6,r7⟩:=m1.cells
    have hfR:=Bk.free m1
    unfold Ins.zero at r0 r1 r2 r3 r4 r5 r6 r7
    simp only at r0 r1 r2 r3 r4 r5 r6 r7
    go_wp2
    generalize hv:((((((((x6.setCell ⟨w.heap.size,0,none⟩ (.int .i64 op)).setCell ⟨w.heap.size,1,none⟩ (.int .i64 d)).setCell ⟨w.heap.size,2,none⟩ (.int .i64 s')).setCell ⟨w.heap.size,3,none⟩ (.int .i64 t)).setCell ⟨w.heap.size,4,none⟩ (.int .i64 u)).setCell ⟨w.heap.size,5,none⟩ (.int .i64 a)).setCell ⟨w.heap.size,6,none⟩ (.int .u32 k)).setCell ⟨w.heap.size,7,none⟩ (.int .i64 pl))=v9 at *
    have hv2:put8 x6 w.heap.size ⟨op,d,s',t,u,a,k,pl⟩=v9:=hv
    clear hv
    have hA:=put8_jb (i:=⟨op,d,s',t,u,a,k,pl⟩) m1
    have hC:=put8_below (i:=⟨op,d,s',t,u,a,k,pl⟩) bb (Nat.le_refl _)
    rw[hv2] at hA hC
    clear hv2
    obtain⟨q0,q1,q2,q3,q4,q5,q6,q7⟩:=hA.cells
    simp only at q0 q1 q2 q3 q4 q5 q6 q7
    refine bodyPost_ret (v:=.tuple #[.agg #[.int .i64 op,.int .i64 d,.int .i64 s',.int .i64 t,.int .i64 u,.int .i64 a,.int .u32 k,.int .i64 pl],.string ⟨la.toArray⟩,.bool true]) (by simp[results,Tryz.results63,go_sem,q0,q1,q2,q3,q4,q5,q6,q7]) rfl ⟨?_,hC⟩
    rw[HT.out];rfl
 all_goals (
  refine(HP2.out _).mono ?_
  rintro e y ⟨rfl,hby⟩
  replace m1:=m1.below hby
  replace m2:=m2.below hby
  replace bb:=bb.trans (hby.mono bb.size)
  clear hby HP2
  obtain⟨c0,c1,c2,c3,c4,c5,c6,c7⟩:=m2.cells
  have hfG:=Bk.free m2
  simp only at c0 c1 c2 c3 c4 c5 c6 c7
  rcases pB with _ | ⟨op2,d2,s2,t2,u2,a2,k2,pl2⟩
  ·rw[show prsV none=.tuple #[.agg #[.int .i64 0,.int .i64 0,.int .i64 0,.int .i64 0,.int .i64 0,.int .i64 0,.int .u32 0,.int .i64 0],.bool false] from rfl]
   go_upto_region 8 with fail
   generalize hv:((((((((y.setCell ⟨g,0,none⟩ (.int .i64 0)).setCell ⟨g,1,none⟩ (.int .i64 0)).setCell ⟨g,2,none⟩ (.int .i64 0)).setCell ⟨g,3,none⟩ (.int .i64 0)).setCell ⟨g,4,none⟩ (.int .i64 0)).setCell ⟨g,5,none⟩ (.int .i64 0)).setCell ⟨g,6,none⟩ (.int .u32 0)).setCell ⟨g,7,none⟩ (.int .i64 0))=y2 at *
   have hv2:put8 y g ⟨0,0,0,0,0,0,0,0⟩=y2:=hv
   clear hv
   replace m2:=put8_jb (i:=⟨0,0,0,0,0,0,0,0⟩) m2
   replace m1:Jb _ _ _:=put8_off (i:=⟨0,0,0,0,0,0,0,0⟩) m1 hne
   replace bb:=put8_below (i:=⟨0,0,0,0,0,0,0,0⟩) bb (Nat.le_of_lt hle)
   rw[hv2] at m1 m2 bb
   clear hv2 c0 c1 c2 c3 c4 c5 c6 c7 hfG HG
   obtain⟨r0,r1,r2,r3,r4,r5,r6,r7⟩:=m1.cells
   have hfR:=Bk.free m1
   unfold Ins.zero at r0 r1 r2 r3 r4 r5 r6 r7
   simp only at r0 r1 r2 r3 r4 r5 r6 r7
   go_wp2
   generalize hv:((((((((y2.setCell ⟨w.heap.size,0,none⟩ (.int .i64 0)).setCell ⟨w.heap.size,1,none⟩ (.int .i64 0)).setCell ⟨w.heap.size,2,none⟩ (.int .i64 0)).setCell ⟨w.heap.size,3,none⟩ (.int .i64 0)).setCell ⟨w.heap.size,4,none⟩ (.int .i64 0)).setCell ⟨w.heap.size,5,none⟩ (.int .i64 0)).setCell ⟨w.heap.size,6,none⟩ (.int .u32 0)).setCell ⟨w.heap.size,7,none⟩ (.int .i64 0))=v9 at *
   have hv2:put8 y2 w.heap.size ⟨0,0,0,0,0,0,0,0⟩=v9:=hv
   clear hv
   have hA:=put8_jb (i:=⟨0,0,0,0,0,0,0,0⟩) m1
   have hC:=put8_below (i:=⟨0,0,0,0,0,0,0,0⟩) bb (Nat.le_refl _)
   rw[hv2] at hA hC
   clear hv2
   obtain⟨q0,q1,q2,q3,q4,q5,q6,q7⟩:=hA.cells
   simp only at q0 q1 q2 q3 q4 q5 q6 q7
   refine bodyPost_ret (v:=.tuple #[.agg #[.int .i64 0,.int .i64 0,.int .i64 0,.int .i64 0,.int .i64 0,.int .i64 0,.int .u32 0,.int .i64 0],.string ⟨#[]⟩,.bool false]) (by simp[results,Tryz.results63,go_sem,q0,q1,q2,q3,q4,q5,q6,q7]) rfl ⟨?_,hC⟩
   rw[HU.out];rfl
  ·rw[show prsV (some ⟨op2,d2,s2,t2,u2,a2,k2,pl2⟩)=.tuple #[.agg #[.int .i64 op2,.int .i64 d2,.int .i64 s2,.int .i64 t2,.int .i64 u2,.int .i64 a2,.int .u32 k2,.int .i64 pl2],.bool true] from rfl]
   go_upto_region 8 with fail
   generalize hv:((((((((y.setCell ⟨g,0,none⟩ (.int .i64 op2)).setCell ⟨g,1,none⟩ (.int .i64 d2)).setCell ⟨g,2,none⟩ (.int .i64 s2)).setCell ⟨g,3,none⟩ (.int .i64 t2)).setCell ⟨g,4,none⟩ (.int .i64 u2)).setCell ⟨g,5,none⟩ (.int .i64 a2)).setCell ⟨g,6,none⟩ (.int .u32 k2)).setCell ⟨g,7,none⟩ (.int .i64 pl2))=y2 at *
   have hv2:put8 y g ⟨op2,d2,s2,t2,u2,a2,k2,pl2⟩=y2:=hv
   clear hv
   replace m2:=put8_jb (i:=⟨op2,d2,s2,t2,u2,a2,k2,pl2⟩) m2
   replace m1:Jb _ _ _:=put8_off (i:=⟨op2,d2,s2,t2,u2,a2,k2,pl2⟩) m1 hne
   replace bb:=put8_below (i:=⟨op2,d2,s2,t2,u2,a2,k2,pl2⟩) bb (Nat.le_of_lt hle)
   rw[hv2] at m1 m2 bb
   clear hv2 c0 c1 c2 c3 c4 c5 c6 c7 hfG
   obtain⟨c0,c1,c2,c3,c4,c5,c6,c7⟩:=m2.cells
   have hfG:=Bk.free m2
   simp only at c0 c1 c2 c3 c4 c5 c6 c7
   go_wp2_with fail
   refine(HG.out ⟨op2,d2,s2,t2,u2,a2,k2,pl2⟩ y2).mono ?_
   rintro e y3 ⟨rfl,b5⟩
   replace m1:=m1.below b5
   replace m2:=m2.below b5
   replace bb:=bb.trans (b5.mono bb.size)
   clear c0 c1 c2 c3 c4 c5 c6 c7 b5 hfG HG
   have HZ:Hid (r=if goesB ⟨op2,d2,s2,t2,u2,a2,k2,pl2⟩=true then none else some (⟨op2,d2,s2,t2,u2,a2,k2,pl2⟩,[])):=Lib.hid HU.out
   clear HU
   obtain⟨r0,r1,r2,r3,r4,r5,r6,r7⟩:=m1.cells
   have hfR:=Bk.free m1
   unfold Ins.zero at r0 r1 r2 r3 r4 r5 r6 r7
   simp only at r0 r1 r2 r3 r4 r5 r6 r7
   obtain⟨c0,c1,c2,c3,c4,c5,c6,c7⟩:=m2.cells
   have hfG:=Bk.free m2
   simp only at c0 c1 c2 c3 c4 c5 c6 c7
   rcases hq2:goesB ⟨op2,d2,s2,t2,u2,a2,k2,pl2⟩
   ·have HY:Hid (r=some (⟨op2,d2,s2,t2,u2,a2,k2,pl2⟩,[])):=Lib.hid (by rw[HZ.out,hq2];simp)
    clear HZ hq2
    go_wp2
    generalize hv:((((((((y3.setCell ⟨w.heap.size,0,none⟩ (.int .i64 op2)).setCell ⟨w.heap.size,1,none⟩ (.int .i64 d2)).setCell ⟨w.heap.size,2,none⟩ (.int .i64 s2)).setCell ⟨w.heap.size,3,none⟩ (.int .i64 t2)).setCell ⟨w.heap.size,4,none⟩ (.int .i64 u2)).setCell ⟨w.heap.size,5,none⟩ (.int .i64 a2)).setCell ⟨w.heap.size,6,none⟩ (.int .u32 k2)).setCell ⟨w.heap.size,7,none⟩ (.int .i64 pl2))=v9 at *
    have hv2:put8 y3 w.heap.size ⟨op2,d2,s2,t2,u2,a2,k2,pl2⟩=v9:=hv
    clear hv
    have hA:=put8_jb (i:=⟨op2,d2,s2,t2,u2,a2,k2,pl2⟩) m1
    have hC:=put8_below (i:=⟨op2,d2,s2,t2,u2,a2,k2,pl2⟩) bb (Nat.le_refl _)
    rw[hv2] at hA hC
    clear hv2
    obtain⟨q0,q1,q2,q3,q4,q5,q6,q7⟩:=hA.cells
    simp only at q0 q1 q2 q3 q4 q5 q6 q7
    refine bodyPost_ret (v:=.tuple #[.agg #[.int .i64 op2,.int .i64 d2,.int .i64 s2,.int .i64 t2,.int .i64 u2,.int .i64 a2,.int .u32 k2,.int .i64 pl2],.string ⟨#[]⟩,.bool true]) (by simp[results,Tryz.results63,go_sem,q0,q1,q2,q3,q4,q5,q6,q7]) rfl ⟨?_,hC⟩
    rw[HY.out];rfl
   ·have HY:Hid (r=none):=Lib.hid (by rw[HZ.out,hq2];simp)
    clear HZ hq2
    go_wp2
    generalize hv:((((((((y3.setCell ⟨w.heap.size,0,none⟩ (.int .i64 0)).setCell ⟨w.heap.size,1,none⟩ (.int .i64 0)).setCell ⟨w.heap.size,2,none⟩ (.int .i64 0)).setCell ⟨w.heap.size,3,none⟩ (.int .i64 0)).setCell ⟨w.heap.size,4,none⟩ (.int .i64 0)).setCell ⟨w.heap.size,5,none⟩ (.int .i64 0)).setCell ⟨w.heap.size,6,none⟩ (.int .u32 0)).setCell ⟨w.heap.size,7,none⟩ (.int .i64 0))=v9 at *
    have hv2:put8 y3 w.heap.size ⟨0,0,0,0,0,0,0,0⟩=v9:=hv
    clear hv
    have hA:=put8_jb (i:=⟨0,0,0,0,0,0,0,0⟩) m1
    have hC:=put8_below (i:=⟨0,0,0,0,0,0,0,0⟩) bb (Nat.le_refl _)
    rw[hv2] at hA hC
    clear hv2
    obtain⟨q0,q1,q2,q3,q4,q5,q6,q7⟩:=hA.cells
    simp only at q0 q1 q2 q3 q4 q5 q6 q7
    refine bodyPost_ret (v:=.tuple #[.agg #[.int .i64 0,.int .i64 0,.int .i64 0,.int .i64 0,.int .i64 0,.int .i64 0,.int .u32 0,.int .i64 0],.string ⟨#[]⟩,.bool false]) (by simp[results,Tryz.results63,go_sem,q0,q1,q2,q3,q4,q5,q6,q7]) rfl ⟨?_,hC⟩
    rw[HY.out];rfl)
end Go.Proofs.YthdgehcghklflaaGreatDoor
