/- For any number of threads, any number to begin with, and any number of calls: TicketTurns returns true: if all call, and call again, and do steps by turns, and unlock when they have the lock, each call comes to its end, and has the lock; no condition. A tied card: the listed variables of the library are tied to the program's text. -/
import Derived.Test.YthdgehcghklflaaGreatDoorTTkA
import Derived.Test.YthdgehcghklflaaGreatDoorTRuV
import Derived.ChangeMaps5
set_option linter.unusedVariables false
set_option maxHeartbeats 4000000
set_option maxRecDepth 100000
open Bool renaming true->I
open Go.Value renaming slice->Q
open Go.Lib renaming hid->O
namespace Go.Proofs.YthdgehcghklflaaGreatDoor.ticketTurns
open Go.Joins Go.ChangeShapes Go.WideShapes Go.ChangeAt Go.RowKit Go.Deep
theorem C1 (x0 x1 x2:Int)(f0:(Lit.int .i64 x0).wf=I)(f1:(Lit.int .u32 x1).wf=I)(f2:(Lit.int .u8 x2).wf=I)(W:World)(L:Lb W):
 Calls Tryz.prog 5 #[.int .i64 x0,.int .u32 x1,.int .u8 x2] W fun e w'=>e=.returned (.bool I)/\Below W.heap.size W w':=by
 have HLB:Hid (∀ V,Below W.heap.size W V->Lb V):=O (fun V hV=>L.below hV)
 have HAw:Hid (∀ V,Below W.heap.size W V->Calls Tryz.prog 12 #[] V fun e w'=>e=.returned (.bool I)/\Below V.heap.size V w'):=O (fun V hV=>yl V (HLB.out V hV))
 obtain⟨u0,u1⟩:0<=x1/\x1<4294967296:=by
  simp[Lit.wf,IntKind.min,IntKind.max,IntKind.bits,IntKind.signed] at f1
  omega
 obtain⟨c,rfl⟩:∃ c:Nat,x2=c:=⟨x2.toNat,by
  simp[Lit.wf,IntKind.min,IntKind.max,IntKind.bits,IntKind.signed] at f2
  omega⟩
 have hc8:c<256:=by
  simp[Lit.wf,IntKind.min,IntKind.max,IntKind.bits,IntKind.signed] at f2
  omega
 clear L f0 f1 f2
 by_cases hn:1<=x0/\x0<=64
 ·obtain⟨N,rfl⟩:∃ N:Nat,x0=N:=⟨x0.toNat,by omega⟩
  have h1:1<=N:=by omega
  have h64:N<=64:=by omega
  clear hn
  have HD:=O (DL N x1 W h1 h64 u0 u1)
  go_enter Tryz.func5,Tryz.ntmps5
  go_wp2_with fail
  refine HD.out.mono ?_
  rintro e y ⟨v,rfl,⟨sl,bS,dS,bI,dI,bR,dR,rfl,ho,-⟩,hy⟩
  obtain⟨bL,dL,rfl,-⟩:=aX ho
  rw[show ([1,1]:List Int).length=2 from rfl,show ([x1,x1]:List Int).length=2 from rfl,lB]
  have hyb:=hy.alloc (o:=.cells #[Q bL fG.l.length dL,.int .i64 fG.lo,.int .i64 fG.un,Q bS 2 dS,Q bI 2 dI,.int .i64 0,Q bR N dR] 37) hy.size
  clear HD ho
  by_cases h8:N<=8
  ·go_upto_region 4 with fail
   generalize y.alloc (.cells #[Q bL fG.l.length dL,.int .i64 fG.lo,.int .i64 fG.un,Q bS 2 dS,Q bI 2 dI,.int .i64 0,Q bR N dR] 37)=z at *
   have HC:=O (BO N x1 z (HLB.out z hyb) h1 h64 u0 u1)
   go_wp2_with fail
   refine HC.out.mono ?_
   rintro e z1 ⟨v,rfl,hsv,hz1⟩
   have HSV:=O hsv
   obtain⟨aL,cL,aS,cS,aI,cI,aR,cR,rfl,-⟩:=hsv
   rw[show ([1,1]:List Int).length=2 from rfl,show ([x1,x1]:List Int).length=2 from rfl,lB] at *
   have b1:=hyb.trans (hz1.mono hyb.size)
   have hza:Below z1.heap.size z1 (z1.alloc (.cells #[Q aL fG.l.length cL,.int .i64 fG.lo,.int .i64 fG.un,Q aS 2 cS,Q aI 2 cI,.int .i64 0,Q aR N cR] 29)):=(Below.refl _ _).alloc (Nat.le_refl _) _
   have q2:=Bk.made z1 29 #[Q aL fG.l.length cL,.int .i64 fG.lo,.int .i64 fG.un,Q aS 2 cS,Q aI 2 cI,.int .i64 0,Q aR N cR]
   have b2:=b1.trans (hza.mono b1.size)
   obtain⟨zb,hzb⟩:∃ zb,z1.heap.size=zb:=⟨_,rfl⟩
   rw[hzb] at q2
   have HSV2:=O (HSV.out.below hza)
   clear HC hz1 b1 HSV
   go_upto_region 5 with fail
   try rw[hzb]
   generalize z1.alloc (.cells #[Q aL fG.l.length cL,.int .i64 fG.lo,.int .i64 fG.un,Q aS 2 cS,Q aI 2 cI,.int .i64 0,Q aR N cR] 29)=z2 at *
   obtain⟨y0,y1,y2,y3,y4,y5,y6⟩:=q2.pM
   have HRf:=O (zm HSV2.out (by decide))
   clear hza hzb
   go_wp2_with fail
   refine HRf.out.mono ?_
   rintro e z3 ⟨v3,rfl,hv3,hz3⟩
   have b3:=b2.trans (hz3.mono b2.size)
   have HRg:=O (Ar hv3 DB (Cc h1 h64))
   clear HRf y0 y1 y2 y3 y4 y5 y6 hv3
   go_wp2_with fail
   refine HRg.out.mono ?_
   rintro e z4 ⟨rfl,hz4⟩
   have hz24:=hz3.trans (hz4.mono hz3.size)
   have b4:=b3.trans (hz4.mono b3.size)
   have q4:Bk z4 zb 29 #[Q aL fG.l.length cL,.int .i64 fG.lo,.int .i64 fG.un,Q aS 2 cS,Q aI 2 cI,.int .i64 0,Q aR N cR]:=(hz24.block _ (Bk.lt q2)).trans q2
   obtain⟨y0,y1,y2,y3,y4,y5,y6⟩:=q4.pM
   have HRf:=O (zm (HSV2.out.below hz24) (by decide))
   clear HRg hz3 hz4 b2 b3 q2 q4 HSV2
   go_wp2_with fail
   refine HRf.out.mono ?_
   rintro e z5 ⟨v5,rfl,hv5,hz5⟩
   have b5:=b4.trans (hz5.mono b4.size)
   obtain⟨m,hm⟩:∃ m:Nat,c % 13=m:=⟨_,rfl⟩
   have hm12:m<=12:=by omega
   have hcm:(c:Int) % 13=(m:Int):=by omega
   have HTr:Hid (Calls Tryz.prog 17 #[v5,.int .i64 N,.int .i64 m] z5 fun e w'=>e=.returned (.bool I)/\Below W.heap.size W w'):=O (by
    obtain⟨s1,s2,s3⟩:=sf (n:=N) h1 h64 u0 u1 m
    have h9:=Aq (k:=lR N) (init:=[x1,x1]) (r7:=rS N) m hz5.size (BD h1 h64) hv5 rfl (z9 u0 u1) (lB N) (zZ N) h8 hm12 _ rfl s1 s2 s3 xy
    exact h9.mono fun e w' h=>⟨h.1,wH b5 h.2 b4.size (Nat.le_refl _)⟩)
   clear hm hm12
   clear HRf y0 y1 y2 y3 y4 y5 y6 hv5 hz5 b4
   go_wp2_with fail
   refine HTr.out.mono ?_
   rintro e z6 ⟨rfl,b6⟩
   clear HTr
   go_wp2_with fail
   refine(HAw.out _ (b6)).mono ?_
   rintro e w9 ⟨rfl,hw9⟩
   have hf:=(b6).trans (hw9.mono (b6).size)
   go_wp2
   go_ret
   exact⟨rfl,hf⟩
  ·have hf8:8<N:=by omega
   go_wp2_with fail
   refine(HAw.out _ (hyb)).mono ?_
   rintro e w9 ⟨rfl,hw9⟩
   have hf:=(hyb).trans (hw9.mono (hyb).size)
   go_wp2
   go_ret
   exact⟨rfl,hf⟩
 ·have HD:=O (Ap x0 x1 W hn)
  clear hn
  unfold EW at HD
  go_enter Tryz.func5,Tryz.ntmps5
  go_wp2_with fail
  refine HD.out.mono ?_
  rintro e y ⟨rfl,hy⟩
  have hyb:=hy.alloc (o:=.cells #[Q none 0 0,.int .i64 0,.int .i64 0,Q none 0 0,Q none 0 0,.int .i64 0,Q none 0 0] 37) hy.size
  clear HD
  go_wp2_with fail
  refine(HAw.out _ (hyb)).mono ?_
  rintro e w9 ⟨rfl,hw9⟩
  have hf:=(hyb).trans (hw9.mono (hyb).size)
  go_wp2
  go_ret
  exact⟨rfl,hf⟩
theorem CA (os:Os)(started:os.Started)(H:Type)(enc:TypeId×Value->H):
 ReturnsInHanded {} Tryz.checked os 5 .any (fun w args=>(Rows.ticketTurnsSpec.pre enc Tryz.prog Tryz.f5 [] false w args/\laidMetH Tryz.prog Rows.ticketTurnsRow.laid w)/\sizedMet enc Tryz.prog Tryz.f5 (OpenSpec.ofChange Rows.ticketTurnsSpec) false w args)
  (Rows.ticketTurnsSpec.post enc Tryz.prog Tryz.f5 false I false false):=by
 refine oW (C:=Tryz.checked) (X:=fun w _=>laidMetH Tryz.prog Rows.ticketTurnsRow.laid w) (fun _ _ _ hh h=>h.of_heap hh) own started (by kernel_rfl) Tryz.func5
  (ChangeSpec.witness_shaped (enc:=enc) (C:=Tryz.checked) (os:=os) (X:=fun w _=>laidMetH Tryz.prog Rows.ticketTurnsRow.laid w) false (World.laidAll Tryz.prog os Rows.ticketTurnsRow.laid) #[.int .i64 0,.int .u32 0,.int .u8 0] 8 (World.laidAll_os _ _ _)
   (World.shaped_of_ZipB (by kernel_rfl) (by kernel_rfl)) (by kernel_rfl) (by kernel_rfl) (by kernel_rfl)
   (by rw[MakeChecks.laidMetH_plain _ _ _ (by kernel_rfl)];exact laidMet_laidAll _ (by kernel_rfl) (by kernel_rfl))) ?_
 intro W base args ds gs before hval0 hW hL hsh
 have hval:∀ (j:Nat) t v,Tryz.f5.params[j]?=some t->args[j]?=some v->Value.okWide Tryz.prog W .any base t v:=hval0
 have hW':=hW
 obtain⟨p,q,hA0,hV,rfl,_,_⟩:=hW
 have hA:DataW.TrodAll enc Tryz.prog W 0 (fun _=>I) I Tryz.f5.params.toList args.toList ds p:=hA0
 rw[Tryz.params5] at hA hval
 obtain⟨v0,vs0,d0,ds0,p0,q0,hargs,rfl,rfl,h0,r0⟩:=trodAll_cons hA
 obtain⟨v1,vs1,d1,ds1,p1,q1,rfl,rfl,rfl,h1,r1⟩:=trodAll_cons r0
 obtain⟨v2,vs2,d2,ds2,p2,q2,rfl,rfl,rfl,h2,r2⟩:=trodAll_cons r1
 obtain⟨rfl,rfl,rfl⟩:=trodAll_nil r2
 obtain rfl:args=#[v0,v1,v2]:=by cases args;simp_all
 obtain⟨rfl,rfl⟩:=trodVars_none hV
 have k0:=h0
 have lt0:∀ x∈p0,x.block<W.heap.size:=by obtain⟨m,hm⟩:=k0;exact DataW.trod_lt m _ _ _ hm
 obtain⟨x0,rfl,rfl,rfl,f0⟩:=open_int Tryz.underlying3 (hval 0 3 v0 rfl rfl) h0
 have k1:=h1
 have lt1:∀ x∈p1,x.block<W.heap.size:=by obtain⟨m,hm⟩:=k1;exact DataW.trod_lt m _ _ _ hm
 obtain⟨x1,rfl,rfl,rfl,f1⟩:=open_int Tryz.underlying22 (hval 1 22 v1 rfl rfl) h1
 have k2:=h2
 have lt2:∀ x∈p2,x.block<W.heap.size:=by obtain⟨m,hm⟩:=k2;exact DataW.trod_lt m _ _ _ hm
 obtain⟨x2,rfl,rfl,rfl,f2⟩:=open_int Tryz.underlying5 (hval 2 5 v2 rfl rfl) h2
 clear hA0 hval0
 rw[MakeChecks.laidMetH_plain _ _ _ (by kernel_rfl)] at hL
 refine(C1 x0 x1 x2 f0 f1 f2 W  (DV hL hsh)).mono fun e W' ⟨he,bel⟩=>?_
 subst he
 exact⟨_,rfl,_,_,_,[],_,[],hW',trodAll_mk1 (shut_bool Tryz.underlying4 _),(trodAll_cons_mk (Below.trod pD (by kernel_rfl) (of_decide_eq_true (by kernel_rfl)) k0 bel lt0) (trodAll_cons_mk (Below.trod pD (by kernel_rfl) (of_decide_eq_true (by kernel_rfl)) k1 bel lt1) (trodAll_cons_mk (Below.trod pD (by kernel_rfl) (of_decide_eq_true (by kernel_rfl)) k2 bel lt2) trodAll_mk0))),rfl,bel.frame _,fun h=>by cases h⟩
theorem pZ:Rows.ticketTurnsRow.holds Tryz.pinned (OpenSpec.ofChange Rows.ticketTurnsSpec):=
 OpenClaim.holds_of_wide 5 Tryz.f5 rfl rfl rfl rfl rfl rfl rfl ⟨rfl,rfl,rfl,rfl,rfl⟩ rfl rfl rfl rfl rfl (by kernel_rfl) Tryz.func5 (by kernel_rfl)
  (of_decide_eq_true (by kernel_rfl)) (by unfold Func.isWrapper;first | (rw[if_pos (by decide +kernel)];kernel_rfl) | (rw[if_neg (by decide +kernel)];exact⟨rfl,rfl⟩))
  (fun os started H enc _=>CA os started H enc)
theorem proved:Rows.TicketTurnsCardSaid:=
 Claim7.holds_tied_plain_at .later [] Rows.ticketTurnsCard.laidKinds I Rows.ticketTurnsCard.stood.harness I pZ (fun _ h=>by cases h) (by kernel_rfl) (fun _ h=>by cases h) ticketTurns_row_tie rfl ⟨rfl,rfl⟩ (by kernel_rfl) rfl
  (fun f fn hf hfn=>by
   obtain rfl:f=5:=Option.some.inj ((show Tryz.prog.funcNamed Rows.ticketTurnsRow.func=some 5 by kernel_rfl).symm.trans hf) |>.symm
   obtain rfl:fn=Tryz.f5:=(Option.some.inj (Tryz.func5.symm.trans hfn)).symm
   exact⟨by kernel_rfl,fun j t ht=>by
    rw[Tryz.params5] at ht
    have hm:t∈[3,22,5]:=by simpa using Array.mem_of_getElem? ht
    have hall:([3,22,5].all fun u=>!Tryz.prog.wantsStandIn u)=I:=by kernel_rfl
    exact(show Tryz.prog.wantsStandIn t=false by simpa using List.all_eq_true.1 hall t hm)⟩)
  (by kernel_rfl)
#print axioms proved
end Go.Proofs.YthdgehcghklflaaGreatDoor.ticketTurns
