/- For any lock that may be asked for, and whatever is done with it: GraunkeTurns returns true: if all call, and call again, and do steps by turns, and unlock when they have the lock, each call comes to its end, and has the lock; no condition. A tied card: the listed variables of the library are tied to the program's text. -/
import Derived.Test.YtieiifdhdjhnoaaGreatDoorQGrA
import Derived.Test.YtieiifdhdjhnoaaGreatDoorQStGr
import Derived.Test.YtieiifdhdjhnoaaGreatDoorQRuV
import Derived.ChangeMaps5
set_option linter.unusedVariables false
set_option maxHeartbeats 4000000
set_option maxRecDepth 100000
open Bool renaming true->I
open Go.Value renaming slice->Q
open Go.Lib renaming hid->N
namespace Go.Proofs.YtieiifdhdjhnoaaGreatDoor.graunkeTurns
open Go.Joins Go.ChangeShapes Go.WideShapes Go.ChangeAt Go.RowKit Go.Deep
theorem walk (x0:Int)(x9:Int)(f0:(Lit.int .i64 x0).wf=I)(f9:(Lit.int .u8 x9).wf=I)(W:World)(L:Lb W):
 Calls Tryz.prog 5 #[.int .i64 x0,.int .u8 x9] W fun e w'=>e=.returned (.bool I)/\Below W.heap.size W w':=by
 have HLB:Hid (∀ V,Below W.heap.size W V->Lb V):=N (fun V hV=>L.below hV)
 have HAw:Hid (∀ V,Below W.heap.size W V->Calls Tryz.prog 12 #[] V fun e w'=>e=.returned (.bool I)/\Below V.heap.size V w'):=N (fun V hV=>kO V (HLB.out V hV))
 obtain⟨c,rfl⟩:∃ c:Nat,x9=c:=⟨x9.toNat,by
  simp[Lit.wf,IntKind.min,IntKind.max,IntKind.bits,IntKind.signed] at f9
  omega⟩
 have hc8:c<256:=by
  simp[Lit.wf,IntKind.min,IntKind.max,IntKind.bits,IntKind.signed] at f9
  omega
 clear f9
 clear L
 have bB:=Below.refl W.heap.size W
 by_cases hn:1<=x0/\x0<=64
 ·obtain⟨k,init,r7,rfl,HK,HC0,HD⟩:=BI x0 hn
  have h1:=HK.ok.n1
  have h64:=HK.ok.n64
  have HKL:Hid (k.l.length<=1000):=N (by have:=HK.ok.parts.2.1;omega)
  have HC:Hid (∀ V,Below W.heap.size W V->Calls Tryz.prog 8 #[.int .i64 (k.n:Int)] V (zK V k init r7)):=N fun V hV=>HC0 V (HLB.out V hV)
  replace HD:=N HD
  have HKK:=N HK
  clear hn HC0 HK f0
  go_enter Tryz.func5,Tryz.ntmps5
  go_wp2_with fail
  refine(HD.out W).mono ?_
  rintro e y ⟨v,rfl,hrv,hy⟩
  obtain⟨bL,dL,bS,dS,bI,dI,bR,dR,rfl⟩:=zj hrv
  have hyb:=(bB.trans (hy.mono bB.size)).alloc (o:=.cells #[Q bL k.l.length dL,.int .i64 k.lo,.int .i64 k.un,Q bS k.zs.length dS,Q bI init.length dI,.int .i64 k.each,Q bR r7.length dR] 36) (bB.trans (hy.mono bB.size)).size
  clear HD hrv
  by_cases h8:k.n<=8
  ·go_upto_region 4 with fail
   try rw[hyb0]
   generalize y.alloc (.cells #[Q bL k.l.length dL,.int .i64 k.lo,.int .i64 k.un,Q bS k.zs.length dS,Q bI init.length dI,.int .i64 k.each,Q bR r7.length dR] 36)=z at *
   go_wp2_with fail
   refine(HC.out z hyb).mono ?_
   rintro e z1 ⟨v,rfl,hsv,hz1⟩
   have HSV:=N hsv
   obtain⟨aL,cL,aS,cS,aI,cI,aR,cR,rfl⟩:=tX hsv
   clear hsv
   have b1:=hyb.trans (hz1.mono hyb.size)
   have hza:Below z1.heap.size z1 (z1.alloc (.cells #[Q aL k.l.length cL,.int .i64 k.lo,.int .i64 k.un,Q aS k.zs.length cS,Q aI init.length cI,.int .i64 k.each,Q aR r7.length cR] 28)):=(Below.refl _ _).alloc (Nat.le_refl _) _
   have q2:=Bk.made z1 28 #[Q aL k.l.length cL,.int .i64 k.lo,.int .i64 k.un,Q aS k.zs.length cS,Q aI init.length cI,.int .i64 k.each,Q aR r7.length cR]
   have b2:=b1.trans (hza.mono b1.size)
   obtain⟨zb,hzb⟩:∃ zb,z1.heap.size=zb:=⟨_,rfl⟩
   rw[hzb] at q2
   have HSV2:=N (HSV.out.below hza)
   clear HC b1 HSV
   go_upto_region 5 with fail
   try rw[hzb]
   generalize z1.alloc (.cells #[Q aL k.l.length cL,.int .i64 k.lo,.int .i64 k.un,Q aS k.zs.length cS,Q aI init.length cI,.int .i64 k.each,Q aR r7.length cR] 28)=z2 at *
   obtain⟨y0,y1,y2,y3,y4,y5,y6⟩:=q2.lZ
   have HRf:=N (jB HSV2.out HKL.out)
   clear hz1 hza hzb
   go_wp2_with fail
   refine HRf.out.mono ?_
   rintro e z3 ⟨v3,rfl,hv3,hz3⟩
   have b3:=b2.trans (hz3.mono b2.size)
   have HRg:=N (qP hv3 HKK.out.wf HKK.out.sv)
   clear HRf y0 y1 y2 y3 y4 y5 y6 hv3
   go_wp2_with fail
   refine HRg.out.mono ?_
   rintro e z4 ⟨rfl,hz4⟩
   have hz24:=hz3.trans (hz4.mono hz3.size)
   have b4:=b3.trans (hz4.mono b3.size)
   have q4:Bk z4 zb 28 #[Q aL k.l.length cL,.int .i64 k.lo,.int .i64 k.un,Q aS k.zs.length cS,Q aI init.length cI,.int .i64 k.each,Q aR r7.length cR]:=(hz24.block _ (Bk.lt q2)).trans q2
   obtain⟨y0,y1,y2,y3,y4,y5,y6⟩:=q4.lZ
   have HRf:=N (jB (HSV2.out.below hz24) HKL.out)
   clear HRg hz3 hz4 b2 b3 q2 q4 HSV2
   go_wp2_with fail
   refine HRf.out.mono ?_
   rintro e z5 ⟨v5,rfl,hv5,hz5⟩
   have b5:=b4.trans (hz5.mono b4.size)
   obtain⟨m,hm⟩:∃ m:Nat,c % 13=m:=⟨_,rfl⟩
   have hm12:m<=12:=by omega
   have hcm:(c:Int) % 13=(m:Int):=by omega
   have HTr:Hid (Calls Tryz.prog 17 #[v5,.int .i64 k.n,.int .i64 m] z5 fun e w'=>e=.returned (.bool I)/\Below W.heap.size W w'):=N (by
    obtain⟨s1,s2,s3⟩:=HKK.out.se m
    have h9:=Cn (k:=k) (init:=init) (r7:=r7) m hz5.size HKK.out.ok hv5 HKK.out.il HKK.out.iu HKK.out.rl HKK.out.ru h8 hm12 _ rfl s1 s2 s3 HKK.out.st
    exact h9.mono fun e w' h=>⟨h.1,lV b5 h.2 b4.size (Nat.le_refl _)⟩)
   clear hm hm12
   clear HRf y0 y1 y2 y3 y4 y5 y6 hv5 hz5 b4
   go_wp2_with fail
   refine HTr.out.mono ?_
   rintro e z6 ⟨rfl,b6⟩
   clear HTr
   go_wp2_with fail
   refine(HAw.out _ (b6)).mono ?_
   rintro e w9 ⟨rfl,hw9⟩
   have hf:=(b6).trans (hw9.mono (b6).size)
   go_wp2
   go_ret
   exact⟨rfl,hf⟩
  ·have hf8:8<k.n:=by omega
   go_wp2_with fail
   refine(HAw.out _ (hyb)).mono ?_
   rintro e w9 ⟨rfl,hw9⟩
   have hf:=(hyb).trans (hw9.mono (hyb).size)
   go_wp2
   go_ret
   exact⟨rfl,hf⟩
 ·have HD:=N (zv x0 hn).2
  clear hn
  unfold BV BR at HD
  go_enter Tryz.func5,Tryz.ntmps5
  go_wp2_with fail
  refine(HD.out W).mono ?_
  rintro e y ⟨rfl,hy⟩
  have hyb:=(bB.trans (hy.mono bB.size)).alloc (o:=.cells #[Q none 0 0,.int .i64 0,.int .i64 0,Q none 0 0,Q none 0 0,.int .i64 0,Q none 0 0] 36) (bB.trans (hy.mono bB.size)).size
  clear HD
  go_wp2_with fail
  refine(HAw.out _ (hyb)).mono ?_
  rintro e w9 ⟨rfl,hw9⟩
  have hf:=(hyb).trans (hw9.mono (hyb).size)
  go_wp2
  go_ret
  exact⟨rfl,hf⟩
theorem lifted (os:Os)(started:os.Started)(H:Type)(enc:TypeId×Value->H):
 ReturnsInHanded {} Tryz.checked os 5 .any (fun w args=>(Rows.graunkeTurnsSpec.pre enc Tryz.prog Tryz.f5 [] false w args/\laidMetH Tryz.prog Rows.graunkeTurnsRow.laid w)/\sizedMet enc Tryz.prog Tryz.f5 (OpenSpec.ofChange Rows.graunkeTurnsSpec) false w args)
  (Rows.graunkeTurnsSpec.post enc Tryz.prog Tryz.f5 false I false false):=by
 refine fM (C:=Tryz.checked) (X:=fun w _=>laidMetH Tryz.prog Rows.graunkeTurnsRow.laid w) (fun _ _ _ hh h=>h.of_heap hh) own started (by kernel_rfl) Tryz.func5
  (ChangeSpec.witness_shaped (enc:=enc) (C:=Tryz.checked) (os:=os) (X:=fun w _=>laidMetH Tryz.prog Rows.graunkeTurnsRow.laid w) false (World.laidAll Tryz.prog os Rows.graunkeTurnsRow.laid) #[.int .i64 0,.int .u8 0] 8 (World.laidAll_os _ _ _)
   (World.shaped_of_ZipB (by kernel_rfl) (by kernel_rfl)) (by kernel_rfl) (by kernel_rfl) (by kernel_rfl)
   (by rw[MakeChecks.laidMetH_plain _ _ _ (by kernel_rfl)];exact laidMet_laidAll _ (by kernel_rfl) (by kernel_rfl))) ?_
 intro W base args ds gs before hval0 hW hL hsh
 have hval:∀ (j:Nat) t v,Tryz.f5.params[j]?=some t->args[j]?=some v->Value.okWide Tryz.prog W .any base t v:=hval0
 have hW':=hW
 obtain⟨p,q,hA0,hV,rfl,_,_⟩:=hW
 have hA:DataW.TrodAll enc Tryz.prog W 0 (fun _=>I) I Tryz.f5.params.toList args.toList ds p:=hA0
 rw[Tryz.params5] at hA hval
 obtain⟨v0,vs0,d0,ds0,p0,q0,hargs,rfl,rfl,h0,r0⟩:=trodAll_cons hA
 obtain⟨v1,vs1,d1,ds1,p1,q1,rfl,rfl,rfl,h1,r1⟩:=trodAll_cons r0
 obtain⟨rfl,rfl,rfl⟩:=trodAll_nil r1
 obtain rfl:args=#[v0,v1]:=by cases args;simp_all
 obtain⟨rfl,rfl⟩:=trodVars_none hV
 have k0:=h0
 have lt0:∀ x∈p0,x.block<W.heap.size:=by obtain⟨m,hm⟩:=k0;exact DataW.trod_lt m _ _ _ hm
 obtain⟨x0,rfl,rfl,rfl,f0⟩:=open_int Tryz.underlying3 (hval 0 3 v0 rfl rfl) h0
 have k1:=h1
 have lt1:∀ x∈p1,x.block<W.heap.size:=by obtain⟨m,hm⟩:=k1;exact DataW.trod_lt m _ _ _ hm
 obtain⟨x1,rfl,rfl,rfl,f1⟩:=open_int Tryz.underlying5 (hval 1 5 v1 rfl rfl) h1
 clear hA0 hval0
 rw[MakeChecks.laidMetH_plain _ _ _ (by kernel_rfl)] at hL
 refine(walk x0 x1 f0 f1 W  (zq hL hsh)).mono fun e W' ⟨he,bel⟩=>?_
 subst he
 exact⟨_,rfl,_,_,_,[],_,[],hW',trodAll_mk1 (shut_bool Tryz.underlying4 _),(trodAll_cons_mk (Below.trod iJ (by kernel_rfl) (of_decide_eq_true (by kernel_rfl)) k0 bel lt0) (trodAll_cons_mk (Below.trod iJ (by kernel_rfl) (of_decide_eq_true (by kernel_rfl)) k1 bel lt1) trodAll_mk0)),rfl,bel.frame _,fun h=>by cases h⟩
theorem over:Rows.graunkeTurnsRow.holds Tryz.pinned (OpenSpec.ofChange Rows.graunkeTurnsSpec):=
 OpenClaim.holds_of_wide 5 Tryz.f5 rfl rfl rfl rfl rfl rfl rfl ⟨rfl,rfl,rfl,rfl,rfl⟩ rfl rfl rfl rfl rfl (by kernel_rfl) Tryz.func5 (by kernel_rfl)
  (of_decide_eq_true (by kernel_rfl)) (by unfold Func.isWrapper;first | (rw[if_pos (by decide +kernel)];kernel_rfl) | (rw[if_neg (by decide +kernel)];exact⟨rfl,rfl⟩))
  (fun os started H enc _=>lifted os started H enc)
theorem proved:Rows.GraunkeTurnsCardSaid:=
 Claim7.holds_tied_plain_at .later [] Rows.graunkeTurnsCard.laidKinds I Rows.graunkeTurnsCard.stood.harness I over (fun _ h=>by cases h) (by kernel_rfl) (fun _ h=>by cases h) graunkeTurns_row_tie rfl ⟨rfl,rfl⟩ (by kernel_rfl) rfl
  (fun f fn hf hfn=>by
   obtain rfl:f=5:=Option.some.inj ((show Tryz.prog.funcNamed Rows.graunkeTurnsRow.func=some 5 by kernel_rfl).symm.trans hf) |>.symm
   obtain rfl:fn=Tryz.f5:=(Option.some.inj (Tryz.func5.symm.trans hfn)).symm
   exact⟨by kernel_rfl,fun j t ht=>by
    rw[Tryz.params5] at ht
    have hm:t∈[3,5]:=by simpa using Array.mem_of_getElem? ht
    have hall:([3,5].all fun u=>!Tryz.prog.wantsStandIn u)=I:=by kernel_rfl
    exact(show Tryz.prog.wantsStandIn t=false by simpa using List.all_eq_true.1 hall t hm)⟩)
  (by kernel_rfl)
#print axioms proved
end Go.Proofs.YtieiifdhdjhnoaaGreatDoor.graunkeTurns
