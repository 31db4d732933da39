/- For any lock that may be asked for, and whatever is done with it: GraunkePlays returns true: whoever does a step when, calls, unlocks, the program's own code, run by the document's machine, is a trace of the abstract lock, and nothing traps; no condition. A tied card: the listed variables of the library are tied to the program's text. -/
import Derived.Test.YtieiifdhdjhnoaaGreatDoorQGrA
import Derived.Test.YtieiifdhdjhnoaaGreatDoorQStGr
import Derived.ChangeMaps5
set_option linter.unusedVariables false
set_option maxHeartbeats 4000000
set_option maxRecDepth 100000
open Go.Value renaming slice->I
open Go.Lib renaming hid->Q
namespace Go.Proofs.YtieiifdhdjhnoaaGreatDoor.graunkePlays
open Go.Joins Go.ChangeShapes Go.WideShapes Go.ChangeAt Go.RowKit Go.Deep
theorem walk (x0:Int)(l2:List oK)(a2:Option Addr)(cap2:Nat)(f0:(Lit.int .i64 x0).wf=true)(W:World)(S2:pa W.heap.size W a2 l2)(hb2:l2.length<=maxLen)(L:Lb W):
 Calls Tryz.prog 4 #[.int .i64 x0,I a2 l2.length cap2] W fun e w'=>e=.returned (.bool true)/\Below W.heap.size W w':=by
 have HLB:Hid (∀ V,Below W.heap.size W V->Lb V):=Q (fun V hV=>L.below hV)
 have HAw:Hid (∀ V,Below W.heap.size W V->Calls Tryz.prog 12 #[] V fun e w'=>e=.returned (.bool true)/\Below V.heap.size V w'):=Q (fun V hV=>kO V (HLB.out V hV))
 have HS:=Q S2
 simp only[maxLen] at hb2
 clear S2
 clear L
 have bB:=Below.refl W.heap.size W
 by_cases hn:1<=x0/\x0<=64
 ·obtain⟨k,init,r7,rfl,HK,HC0,HD⟩:=BI x0 hn
  have h1:=HK.ok.n1
  have h64:=HK.ok.n64
  have HKL:Hid (k.l.length<=1000):=Q (by have:=HK.ok.parts.2.1;omega)
  have HC:Hid (∀ V,Below W.heap.size W V->Calls Tryz.prog 8 #[.int .i64 (k.n:Int)] V (zK V k init r7)):=Q fun V hV=>HC0 V (HLB.out V hV)
  replace HD:=Q HD
  have HKK:=Q HK
  clear hn HC0 HK f0
  go_enter Tryz.func4,Tryz.ntmps4
  go_wp2_with fail
  refine(HD.out W).mono ?_
  rintro e y ⟨v,rfl,hrv,hy⟩
  obtain⟨bL,dL,bS,dS,bI,dI,bR,dR,rfl⟩:=zj hrv
  have hyb:=(bB.trans (hy.mono bB.size)).alloc (o:=.cells #[I bL k.l.length dL,.int .i64 k.lo,.int .i64 k.un,I bS k.zs.length dS,I bI init.length dI,.int .i64 k.each,I bR r7.length dR] 36) (bB.trans (hy.mono bB.size)).size
  clear HD hrv
  by_cases h8:k.n<=8
  ·by_cases h150:l2.length<=150
   ·go_upto_region 4 with fail
    try rw[hyb0]
    generalize y.alloc (.cells #[I bL k.l.length dL,.int .i64 k.lo,.int .i64 k.un,I bS k.zs.length dS,I bI init.length dI,.int .i64 k.each,I bR r7.length dR] 36)=z at *
    go_wp2_with fail
    refine(HC.out z hyb).mono ?_
    rintro e z1 ⟨v,rfl,hsv,hz1⟩
    have HSV:=Q hsv
    obtain⟨aL,cL,aS,cS,aI,cI,aR,cR,rfl⟩:=tX hsv
    clear hsv
    have b1:=hyb.trans (hz1.mono hyb.size)
    have hza:Below z1.heap.size z1 (z1.alloc (.cells #[I aL k.l.length cL,.int .i64 k.lo,.int .i64 k.un,I aS k.zs.length cS,I aI init.length cI,.int .i64 k.each,I aR r7.length cR] 28)):=(Below.refl _ _).alloc (Nat.le_refl _) _
    have q2:=Bk.made z1 28 #[I aL k.l.length cL,.int .i64 k.lo,.int .i64 k.un,I aS k.zs.length cS,I aI init.length cI,.int .i64 k.each,I aR r7.length cR]
    have b2:=b1.trans (hza.mono b1.size)
    obtain⟨zb,hzb⟩:∃ zb,z1.heap.size=zb:=⟨_,rfl⟩
    rw[hzb] at q2
    have HSV2:=Q (HSV.out.below hza)
    clear HC b1 HSV
    go_upto_region 5 with fail
    try rw[hzb]
    generalize z1.alloc (.cells #[I aL k.l.length cL,.int .i64 k.lo,.int .i64 k.un,I aS k.zs.length cS,I aI init.length cI,.int .i64 k.each,I aR r7.length cR] 28)=z2 at *
    obtain⟨y0,y1,y2,y3,y4,y5,y6⟩:=q2.lZ
    have HRf:=Q (jB HSV2.out HKL.out)
    clear hz1 hza hzb
    go_wp2_with fail
    refine HRf.out.mono ?_
    rintro e z3 ⟨v3,rfl,hv3,hz3⟩
    have b3:=b2.trans (hz3.mono b2.size)
    have HRg:=Q (qP hv3 HKK.out.wf HKK.out.sv)
    clear HRf y0 y1 y2 y3 y4 y5 y6 hv3
    go_wp2_with fail
    refine HRg.out.mono ?_
    rintro e z4 ⟨rfl,hz4⟩
    have hz24:=hz3.trans (hz4.mono hz3.size)
    have b4:=b3.trans (hz4.mono b3.size)
    have q4:Bk z4 zb 28 #[I aL k.l.length cL,.int .i64 k.lo,.int .i64 k.un,I aS k.zs.length cS,I aI init.length cI,.int .i64 k.each,I aR r7.length cR]:=(hz24.block _ (Bk.lt q2)).trans q2
    obtain⟨y0,y1,y2,y3,y4,y5,y6⟩:=q4.lZ
    have HRf:=Q (jB (HSV2.out.below hz24) HKL.out)
    clear HRg hz3 hz4 b2 b3 q2 q4 HSV2
    go_wp2_with fail
    refine HRf.out.mono ?_
    rintro e z5 ⟨v5,rfl,hv5,hz5⟩
    have b5:=b4.trans (hz5.mono b4.size)
    have HTr:Hid (Calls Tryz.prog 16 #[v5,.int .i64 k.n,I a2 l2.length cap2] z5 fun e w'=>e=.returned (.bool true)/\Below W.heap.size W w'):=Q (by
     have h9:=Eo (k:=k) (init:=init) (r7:=r7) l2 cap2 a2 hz5.size HKK.out.ok hv5 HKK.out.il HKK.out.iu HKK.out.rl HKK.out.ru (HS.out.grow b5 (Nat.le_refl _) b4.size) (by omega) HKK.out.st
     exact h9.mono fun e w' h=>⟨h.1.trans (congrArg (fun b=>Ending.returned (.bool b)) (HKK.out.pl (l2.map oK.op))),lV b5 h.2 b4.size (Nat.le_refl _)⟩)
    clear HRf y0 y1 y2 y3 y4 y5 y6 hv5 hz5 b4
    go_wp2_with fail
    refine HTr.out.mono ?_
    rintro e z6 ⟨rfl,b6⟩
    clear HTr
    go_wp2_with fail
    refine(HAw.out _ (b6)).mono ?_
    rintro e w9 ⟨rfl,hw9⟩
    have hf:=(b6).trans (hw9.mono (b6).size)
    go_wp2
    go_ret
    exact⟨rfl,hf⟩
   ·have hf1:150<l2.length:=by omega
    go_wp2_with fail
    refine(HAw.out _ (hyb)).mono ?_
    rintro e w9 ⟨rfl,hw9⟩
    have hf:=(hyb).trans (hw9.mono (hyb).size)
    go_wp2
    go_ret
    exact⟨rfl,hf⟩
  ·have hf8:8<k.n:=by omega
   go_wp2_with fail
   refine(HAw.out _ (hyb)).mono ?_
   rintro e w9 ⟨rfl,hw9⟩
   have hf:=(hyb).trans (hw9.mono (hyb).size)
   go_wp2
   go_ret
   exact⟨rfl,hf⟩
 ·have HD:=Q (zv x0 hn).2
  clear hn
  unfold BV BR at HD
  go_enter Tryz.func4,Tryz.ntmps4
  go_wp2_with fail
  refine(HD.out W).mono ?_
  rintro e y ⟨rfl,hy⟩
  have hyb:=(bB.trans (hy.mono bB.size)).alloc (o:=.cells #[I none 0 0,.int .i64 0,.int .i64 0,I none 0 0,I none 0 0,.int .i64 0,I none 0 0] 36) (bB.trans (hy.mono bB.size)).size
  clear HD
  go_wp2_with fail
  refine(HAw.out _ (hyb)).mono ?_
  rintro e w9 ⟨rfl,hw9⟩
  have hf:=(hyb).trans (hw9.mono (hyb).size)
  go_wp2
  go_ret
  exact⟨rfl,hf⟩
theorem lifted (os:Os)(started:os.Started)(H:Type)(enc:TypeId×Value->H):
 ReturnsInHanded {} Tryz.checked os 4 .any (fun w args=>(Rows.graunkePlaysSpec.pre enc Tryz.prog Tryz.f4 [] false w args/\laidMetH Tryz.prog Rows.graunkePlaysRow.laid w)/\sizedMet enc Tryz.prog Tryz.f4 (OpenSpec.ofChange Rows.graunkePlaysSpec) false w args)
  (Rows.graunkePlaysSpec.post enc Tryz.prog Tryz.f4 false true false false):=by
 refine fM (C:=Tryz.checked) (X:=fun w _=>laidMetH Tryz.prog Rows.graunkePlaysRow.laid w) (fun _ _ _ hh h=>h.of_heap hh) own started (by kernel_rfl) Tryz.func4
  (ChangeSpec.witness_shaped (enc:=enc) (C:=Tryz.checked) (os:=os) (X:=fun w _=>laidMetH Tryz.prog Rows.graunkePlaysRow.laid w) false (World.laidAll Tryz.prog os Rows.graunkePlaysRow.laid) #[.int .i64 0,I none 0 0] 8 (World.laidAll_os _ _ _)
   (World.shaped_of_ZipB (by kernel_rfl) (by kernel_rfl)) (by kernel_rfl) (by kernel_rfl) (by kernel_rfl)
   (by rw[MakeChecks.laidMetH_plain _ _ _ (by kernel_rfl)];exact laidMet_laidAll _ (by kernel_rfl) (by kernel_rfl))) ?_
 intro W base args ds gs before hval0 hW hL hsh
 have hval:∀ (j:Nat) t v,Tryz.f4.params[j]?=some t->args[j]?=some v->Value.okWide Tryz.prog W .any base t v:=hval0
 have hW':=hW
 obtain⟨p,q,hA0,hV,rfl,_,_⟩:=hW
 have hA:DataW.TrodAll enc Tryz.prog W 0 (fun _=>true) true Tryz.f4.params.toList args.toList ds p:=hA0
 rw[Tryz.params4] at hA hval
 obtain⟨v0,vs0,d0,ds0,p0,q0,hargs,rfl,rfl,h0,r0⟩:=trodAll_cons hA
 obtain⟨v1,vs1,d1,ds1,p1,q1,rfl,rfl,rfl,h1,r1⟩:=trodAll_cons r0
 obtain⟨rfl,rfl,rfl⟩:=trodAll_nil r1
 obtain rfl:args=#[v0,v1]:=by cases args;simp_all
 obtain⟨rfl,rfl⟩:=trodVars_none hV
 have k0:=h0
 have lt0:∀ x∈p0,x.block<W.heap.size:=by obtain⟨m,hm⟩:=k0;exact DataW.trod_lt m _ _ _ hm
 obtain⟨x0,rfl,rfl,rfl,f0⟩:=open_int Tryz.underlying3 (hval 0 3 v0 rfl rfl) h0
 have k1:=h1
 have lt1:∀ x∈p1,x.block<W.heap.size:=by obtain⟨m,hm⟩:=k1;exact DataW.trod_lt m _ _ _ hm
 obtain⟨l1,a1,cap1,rfl,S1,hb1⟩:=sV (hval 1 44 v1 rfl rfl) h1
 clear hA0 hval0
 rw[MakeChecks.laidMetH_plain _ _ _ (by kernel_rfl)] at hL
 refine(walk x0 l1 a1 cap1 f0 W S1 hb1 (zq hL hsh)).mono fun e W' ⟨he,bel⟩=>?_
 subst he
 exact⟨_,rfl,_,_,_,[],_,[],hW',trodAll_mk1 (shut_bool Tryz.underlying4 _),(trodAll_cons_mk (Below.trod iJ (by kernel_rfl) (of_decide_eq_true (by kernel_rfl)) k0 bel lt0) (trodAll_cons_mk (Below.trod iJ (by kernel_rfl) (of_decide_eq_true (by kernel_rfl)) k1 bel lt1) trodAll_mk0)),rfl,bel.frame _,fun h=>by cases h⟩
theorem over:Rows.graunkePlaysRow.holds Tryz.pinned (OpenSpec.ofChange Rows.graunkePlaysSpec):=
 OpenClaim.holds_of_wide 4 Tryz.f4 rfl rfl rfl rfl rfl rfl rfl ⟨rfl,rfl,rfl,rfl,rfl⟩ rfl rfl rfl rfl rfl (by kernel_rfl) Tryz.func4 (by kernel_rfl)
  (of_decide_eq_true (by kernel_rfl)) (by unfold Func.isWrapper;first | (rw[if_pos (by decide +kernel)];kernel_rfl) | (rw[if_neg (by decide +kernel)];exact⟨rfl,rfl⟩))
  (fun os started H enc _=>lifted os started H enc)
theorem proved:Rows.GraunkePlaysCardSaid:=
 Claim7.holds_tied_plain_at .later [] Rows.graunkePlaysCard.laidKinds true Rows.graunkePlaysCard.stood.harness true over (fun _ h=>by cases h) (by kernel_rfl) (fun _ h=>by cases h) graunkePlays_row_tie rfl ⟨rfl,rfl⟩ (by kernel_rfl) rfl
  (fun f fn hf hfn=>by
   obtain rfl:f=4:=Option.some.inj ((show Tryz.prog.funcNamed Rows.graunkePlaysRow.func=some 4 by kernel_rfl).symm.trans hf) |>.symm
   obtain rfl:fn=Tryz.f4:=(Option.some.inj (Tryz.func4.symm.trans hfn)).symm
   exact⟨by kernel_rfl,fun j t ht=>by
    rw[Tryz.params4] at ht
    have hm:t∈[3,44]:=by simpa using Array.mem_of_getElem? ht
    have hall:([3,44].all fun u=>!Tryz.prog.wantsStandIn u)=true:=by kernel_rfl
    exact(show Tryz.prog.wantsStandIn t=false by simpa using List.all_eq_true.1 hall t hm)⟩)
  (by kernel_rfl)
#print axioms proved
end Go.Proofs.YtieiifdhdjhnoaaGreatDoor.graunkePlays
