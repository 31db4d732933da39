import Derived.Test.YtieiifdhdjhnoaaGreatDoorWInstV
import Derived.Test.YtieiifdhdjhnoaaGreatDoorWMem
import Derived.Deep.Cut
set_option linter.unusedVariables false
set_option maxHeartbeats 8000000
set_option maxRecDepth 100000
open Go.Value renaming int->I
open Go.IntKind renaming i64->Q
open Go.Lib renaming hid->N
open Go.RowKit.Below renaming refl->O
open Nat renaming le_refl->Z,le_of_lt->V
namespace Go.Proofs.YtieiifdhdjhnoaaGreatDoor
open Go.ChangeShapes Go.WideShapes Go.ChangeAt Go.RowKit
theorem gK (op:Int)(dn sn tn un an kn pn:Nat)(hop:op=1\/op=2\/op=3\/op=4\/op=5\/op=6\/op=7\/op=8\/op=9\/op=10)(hd:dn<5000000000)(hs:sn<5000000000)(ht:tn<5000000000)(hu:un<5000000000)(ha:an<5000000000)(hk:kn<4294967296)(hp:pn<5000000000)(w:World):
 Calls Tryz.prog 145 #[iv ⟨op,dn,sn,tn,un,an,kn,pn⟩] w fun e w'=>e=.returned (bs (af ⟨op,dn,sn,tn,un,an,kn,pn⟩))/\Below w.heap.size w w':=by
 have HRd:=N (fun W=>rR dn W hd)
 have HRs:=N (fun W=>rR sn W hs)
 have HRt:=N (fun W=>rR tn W ht)
 have HRu:=N (fun W=>rR un W hu)
 have HDk:=N (fun W=>jf kn W (by omega))
 have HDa:=N (fun W=>jf an W ha)
 have HDp:=N (fun W=>jf pn W hp)
 have HN:=N (fun W=>eZ op W)
 have lnm:(bD op).length<=40:=Nat.le_trans (js op) (by decide)
 have lRD:=cQ dn hd
 have lRS:=cQ sn hs
 have lRT:=cQ tn ht
 have lRU:=cQ un hu
 have lDK:=cC kn (by omega)
 have lDA:=cC an ha
 have lDP:=cC pn hp
 generalize hRD:rL dn=RD at *
 generalize hRS:rL sn=RS at *
 generalize hRT:rL tn=RT at *
 generalize hRU:rL un=RU at *
 generalize hDK:Lib.decDigits kn=DK at *
 generalize hDA:Lib.decDigits an=DA at *
 generalize hDP:Lib.decDigits pn=DP at *
 generalize hnm:bD op=nm at *
 generalize htx:af ⟨op,dn,sn,tn,un,an,kn,pn⟩=tx
 have HRD:=N hRD.symm
 have HRS:=N hRS.symm
 have HRT:=N hRT.symm
 have HRU:=N hRU.symm
 have HDK:=N hDK.symm
 have HDA:=N hDA.symm
 have HDP:=N hDP.symm
 have HNM:=N hnm.symm
 have HT:=N htx.symm
 clear hRD hRS hRT hRU hDK hDA hDP hnm htx
 have lKL:(32 :: DK).length<=40:=by simp;omega
 have lAL:(32 :: DA).length<=40:=by simp;omega
 have lPL:(32 :: DP).length<=40:=by simp;omega
 generalize hKL:32 :: DK=KL at *
 generalize hAL:32 :: DA=AL at *
 generalize hPL:32 :: DP=PL at *
 have ck:(⟨#[32]⟩:ByteArray)++⟨DK.toArray⟩=⟨KL.toArray⟩:=by rw[<-hKL];exact cW [32] DK
 have ca:(⟨#[32]⟩:ByteArray)++⟨DA.toArray⟩=⟨AL.toArray⟩:=by rw[<-hAL];exact cW [32] DA
 have cp:(⟨#[32]⟩:ByteArray)++⟨DP.toArray⟩=⟨PL.toArray⟩:=by rw[<-hPL];exact cW [32] DP
 have HKL:=N hKL.symm
 have HAL:=N hAL.symm
 have HPL:=N hPL.symm
 clear hKL hAL hPL
 have sk:¬ 9223372036854775807<1+DK.length:=by omega
 have sa:¬ 9223372036854775807<1+DA.length:=by omega
 have sp:¬ 9223372036854775807<1+DP.length:=by omega
 have hk0:(0:Int)<=(kn:Int):=by omega
 have hk1:(kn:Int)<4294967296:=by omega
 have hp0:(0:Int)<=(pn:Int):=by omega
 unfold iv
 go_enter Tryz.func145,Tryz.ntmps145
 go_wp2
 generalize hx0:w.alloc (.cells #[I Q op,I Q (dn:Int),I Q (sn:Int),I Q (tn:Int),I Q (un:Int),I Q (an:Int),I .u32 (kn:Int),I Q (pn:Int)] 123)=x0
 have hJ:Jb x0 w.heap.size ⟨op,dn,sn,tn,un,an,kn,pn⟩:=by rw[<-hx0];exact Jb.made w _ _ _ _ _ _ _ _
 have hb:Below w.heap.size w x0:=by rw[<-hx0];exact(O _ _).alloc (Z _) _
 have hlt:w.heap.size<x0.heap.size:=Bk.lt hJ
 clear hx0
 obtain⟨g0,g1,g2,g3,g4,g5,g6,g7⟩:=hJ.wT
 simp only at g0 g1 g2 g3 g4 g5 g6 g7
 refine ar (by kernel_rfl) (by kernel_rfl) ?_
 repeat (go_big_quiet_step (first | (go_at_call 165;with_reducible exact ag (HDk.out _)) | (go_at_call 165;with_reducible exact ag (HDa.out _))))
 refine wpQuiet_nil ?_
 rintro x ⟨⟨_,hx⟩,rfl⟩
 replace hb:=hb.trans (hx.mono (V hlt))
 replace hJ:=hJ.below hx
 replace hlt:w.heap.size<x.heap.size:=Bk.lt hJ
 clear g0 g1 g2 g3 g4 g5 g6 g7 hx ck ca sk sa
 obtain⟨c0,-,-,-,-,-,-,c7⟩:=hJ.cells
 simp only at c0 c7
 go_wp2_with fail
 refine(HDp.out _).mono ?_
 rintro e x1 ⟨rfl,hx⟩
 replace hb:=hb.trans (hx.mono (V hlt))
 replace hJ:=hJ.below hx
 replace hlt:w.heap.size<x1.heap.size:=Bk.lt hJ
 clear hx c0 c7
 obtain⟨c0,-⟩:=hJ.cells
 simp only at c0
 go_wp2_with fail
 refine(HN.out _).mono ?_
 rintro e x2 ⟨rfl,hx⟩
 replace hb:=hb.trans (hx.mono (V hlt))
 replace hJ:=hJ.below hx
 replace hlt:w.heap.size<x2.heap.size:=Bk.lt hJ
 clear hx c0 cp sp
 obtain⟨c0,c1,c2,c3,c4,c5,c6,c7⟩:=hJ.cells
 obtain⟨g0,g1,g2,g3,g4,g5,g6,g7⟩:=hJ.wT
 simp only at c0 c1 c2 c3 c4 c5 c6 c7 g0 g1 g2 g3 g4 g5 g6 g7
 unfold bs
 go_upto_region 6 with (fail)
 rcases hop with rfl|rfl|rfl|rfl|rfl|rfl|rfl|rfl|rfl|rfl
 ·skip
  obtain⟨Z1,hz1,cc1,ss1,ll1⟩:=bK RD KL 40 40 lRD lKL
  have HZ1:=N hz1
  clear hz1
  obtain⟨Z2,hz2,cc2,ss2,ll2⟩:=bK nm Z1 40 80 lnm ll1
  have HZ2:=N hz2
  clear hz2
  go_wp2_with (first | (go_at_call 166;(with_reducible refine(HRd.out _).mono ?_);rintro e y ⟨rfl,hy⟩) | (go_at_call 166;(with_reducible refine(HRs.out _).mono ?_);rintro e y ⟨rfl,hy⟩))
  go_ret
  refine⟨bQ ?_,hb.trans (hy.mono (V hlt))⟩
  rw[HZ2.out,HZ1.out,HT.out,HNM.out,HRD.out,HKL.out,HDK.out]
  exact(Ed dn sn tn un an kn pn).symm
 ·skip
  obtain⟨Z1,hz1,cc1,ss1,ll1⟩:=bK RD RS 40 40 lRD lRS
  have HZ1:=N hz1
  clear hz1
  obtain⟨Z2,hz2,cc2,ss2,ll2⟩:=bK nm Z1 40 80 lnm ll1
  have HZ2:=N hz2
  clear hz2
  go_wp2
  refine ar (by kernel_rfl) (by kernel_rfl) ?_
  repeat (go_big_quiet_step (first | (go_at_call 166;with_reducible exact ag (HRd.out _)) | (go_at_call 166;with_reducible exact ag (HRs.out _)) | (go_at_call 166;with_reducible exact ag (HRt.out _)) | (go_at_call 166;with_reducible exact ag (HRu.out _))))
  refine wpQuiet_nil ?_
  rintro y ⟨⟨_,hy⟩,rfl⟩
  go_wp2
  go_ret
  refine⟨bQ ?_,hb.trans (hy.mono (V hlt))⟩
  rw[HZ2.out,HZ1.out,HT.out,HNM.out,HRD.out,HRS.out]
  exact(Ec dn sn tn un an kn pn).symm
 ·skip
  obtain⟨Z1,hz1,cc1,ss1,ll1⟩:=bK RD RS 40 40 lRD lRS
  have HZ1:=N hz1
  clear hz1
  obtain⟨Z2,hz2,cc2,ss2,ll2⟩:=bK Z1 KL 80 40 ll1 lKL
  have HZ2:=N hz2
  clear hz2
  obtain⟨Z3,hz3,cc3,ss3,ll3⟩:=bK nm Z2 40 120 lnm ll2
  have HZ3:=N hz3
  clear hz3
  go_wp2
  refine ar (by kernel_rfl) (by kernel_rfl) ?_
  repeat (go_big_quiet_step (first | (go_at_call 166;with_reducible exact ag (HRd.out _)) | (go_at_call 166;with_reducible exact ag (HRs.out _)) | (go_at_call 166;with_reducible exact ag (HRt.out _)) | (go_at_call 166;with_reducible exact ag (HRu.out _))))
  refine wpQuiet_nil ?_
  rintro y ⟨⟨_,hy⟩,rfl⟩
  go_wp2
  go_ret
  refine⟨bQ ?_,hb.trans (hy.mono (V hlt))⟩
  rw[HZ3.out,HZ2.out,HZ1.out,HT.out,HNM.out,HRD.out,HRS.out,HKL.out,HDK.out]
  exact(Eb dn sn tn un an kn pn).symm
 ·skip
  obtain⟨Z1,hz1,cc1,ss1,ll1⟩:=bK RD RS 40 40 lRD lRS
  have HZ1:=N hz1
  clear hz1
  obtain⟨Z2,hz2,cc2,ss2,ll2⟩:=bK Z1 KL 80 40 ll1 lKL
  have HZ2:=N hz2
  clear hz2
  obtain⟨Z3,hz3,cc3,ss3,ll3⟩:=bK nm Z2 40 120 lnm ll2
  have HZ3:=N hz3
  clear hz3
  go_wp2
  refine ar (by kernel_rfl) (by kernel_rfl) ?_
  repeat (go_big_quiet_step (first | (go_at_call 166;with_reducible exact ag (HRd.out _)) | (go_at_call 166;with_reducible exact ag (HRs.out _)) | (go_at_call 166;with_reducible exact ag (HRt.out _)) | (go_at_call 166;with_reducible exact ag (HRu.out _))))
  refine wpQuiet_nil ?_
  rintro y ⟨⟨_,hy⟩,rfl⟩
  go_wp2
  go_ret
  refine⟨bQ ?_,hb.trans (hy.mono (V hlt))⟩
  rw[HZ3.out,HZ2.out,HZ1.out,HT.out,HNM.out,HRD.out,HRS.out,HKL.out,HDK.out]
  exact(Ea dn sn tn un an kn pn).symm
 ·skip
  obtain⟨Z1,hz1,cc1,ss1,ll1⟩:=bK RD RS 40 40 lRD lRS
  have HZ1:=N hz1
  clear hz1
  obtain⟨Z2,hz2,cc2,ss2,ll2⟩:=bK Z1 KL 80 40 ll1 lKL
  have HZ2:=N hz2
  clear hz2
  obtain⟨Z3,hz3,cc3,ss3,ll3⟩:=bK nm Z2 40 120 lnm ll2
  have HZ3:=N hz3
  clear hz3
  go_wp2
  refine ar (by kernel_rfl) (by kernel_rfl) ?_
  repeat (go_big_quiet_step (first | (go_at_call 166;with_reducible exact ag (HRd.out _)) | (go_at_call 166;with_reducible exact ag (HRs.out _)) | (go_at_call 166;with_reducible exact ag (HRt.out _)) | (go_at_call 166;with_reducible exact ag (HRu.out _))))
  refine wpQuiet_nil ?_
  rintro y ⟨⟨_,hy⟩,rfl⟩
  go_wp2
  go_ret
  refine⟨bQ ?_,hb.trans (hy.mono (V hlt))⟩
  rw[HZ3.out,HZ2.out,HZ1.out,HT.out,HNM.out,HRD.out,HRS.out,HKL.out,HDK.out]
  exact(D9 dn sn tn un an kn pn).symm
 ·skip
  obtain⟨Z1,hz1,cc1,ss1,ll1⟩:=bK RD RS 40 40 lRD lRS
  have HZ1:=N hz1
  clear hz1
  obtain⟨Z2,hz2,cc2,ss2,ll2⟩:=bK Z1 KL 80 40 ll1 lKL
  have HZ2:=N hz2
  clear hz2
  obtain⟨Z3,hz3,cc3,ss3,ll3⟩:=bK nm Z2 40 120 lnm ll2
  have HZ3:=N hz3
  clear hz3
  go_wp2
  refine ar (by kernel_rfl) (by kernel_rfl) ?_
  repeat (go_big_quiet_step (first | (go_at_call 166;with_reducible exact ag (HRd.out _)) | (go_at_call 166;with_reducible exact ag (HRs.out _)) | (go_at_call 166;with_reducible exact ag (HRt.out _)) | (go_at_call 166;with_reducible exact ag (HRu.out _))))
  refine wpQuiet_nil ?_
  rintro y ⟨⟨_,hy⟩,rfl⟩
  go_wp2
  go_ret
  refine⟨bQ ?_,hb.trans (hy.mono (V hlt))⟩
  rw[HZ3.out,HZ2.out,HZ1.out,HT.out,HNM.out,HRD.out,HRS.out,HKL.out,HDK.out]
  exact(D8 dn sn tn un an kn pn).symm
 ·skip
  obtain⟨Z1,hz1,cc1,ss1,ll1⟩:=bK RD RS 40 40 lRD lRS
  have HZ1:=N hz1
  clear hz1
  obtain⟨Z2,hz2,cc2,ss2,ll2⟩:=bK Z1 RT 80 40 ll1 lRT
  have HZ2:=N hz2
  clear hz2
  obtain⟨Z3,hz3,cc3,ss3,ll3⟩:=bK nm Z2 40 120 lnm ll2
  have HZ3:=N hz3
  clear hz3
  go_wp2
  refine ar (by kernel_rfl) (by kernel_rfl) ?_
  repeat (go_big_quiet_step (first | (go_at_call 166;with_reducible exact ag (HRd.out _)) | (go_at_call 166;with_reducible exact ag (HRs.out _)) | (go_at_call 166;with_reducible exact ag (HRt.out _)) | (go_at_call 166;with_reducible exact ag (HRu.out _))))
  refine wpQuiet_nil ?_
  rintro y ⟨⟨_,hy⟩,rfl⟩
  go_wp2
  go_ret
  refine⟨bQ ?_,hb.trans (hy.mono (V hlt))⟩
  rw[HZ3.out,HZ2.out,HZ1.out,HT.out,HNM.out,HRD.out,HRS.out,HRT.out]
  exact(D7 dn sn tn un an kn pn).symm
 ·skip
  obtain⟨Z1,hz1,cc1,ss1,ll1⟩:=bK RS RT 40 40 lRS lRT
  have HZ1:=N hz1
  clear hz1
  obtain⟨Z2,hz2,cc2,ss2,ll2⟩:=bK Z1 PL 80 40 ll1 lPL
  have HZ2:=N hz2
  clear hz2
  obtain⟨Z3,hz3,cc3,ss3,ll3⟩:=bK nm Z2 40 120 lnm ll2
  have HZ3:=N hz3
  clear hz3
  go_wp2
  refine ar (by kernel_rfl) (by kernel_rfl) ?_
  repeat (go_big_quiet_step (first | (go_at_call 166;with_reducible exact ag (HRd.out _)) | (go_at_call 166;with_reducible exact ag (HRs.out _)) | (go_at_call 166;with_reducible exact ag (HRt.out _)) | (go_at_call 166;with_reducible exact ag (HRu.out _))))
  refine wpQuiet_nil ?_
  rintro y ⟨⟨_,hy⟩,rfl⟩
  go_wp2
  go_ret
  refine⟨bQ ?_,hb.trans (hy.mono (V hlt))⟩
  rw[HZ3.out,HZ2.out,HZ1.out,HT.out,HNM.out,HRS.out,HRT.out,HPL.out,HDP.out]
  exact(D6 dn sn tn un an kn pn).symm
 ·skip
  obtain⟨Z1,hz1,cc1,ss1,ll1⟩:=bK RS RT 40 40 lRS lRT
  have HZ1:=N hz1
  clear hz1
  obtain⟨Z2,hz2,cc2,ss2,ll2⟩:=bK Z1 PL 80 40 ll1 lPL
  have HZ2:=N hz2
  clear hz2
  obtain⟨Z3,hz3,cc3,ss3,ll3⟩:=bK nm Z2 40 120 lnm ll2
  have HZ3:=N hz3
  clear hz3
  go_wp2
  refine ar (by kernel_rfl) (by kernel_rfl) ?_
  repeat (go_big_quiet_step (first | (go_at_call 166;with_reducible exact ag (HRd.out _)) | (go_at_call 166;with_reducible exact ag (HRs.out _)) | (go_at_call 166;with_reducible exact ag (HRt.out _)) | (go_at_call 166;with_reducible exact ag (HRu.out _))))
  refine wpQuiet_nil ?_
  rintro y ⟨⟨_,hy⟩,rfl⟩
  go_wp2
  go_ret
  refine⟨bQ ?_,hb.trans (hy.mono (V hlt))⟩
  rw[HZ3.out,HZ2.out,HZ1.out,HT.out,HNM.out,HRS.out,HRT.out,HPL.out,HDP.out]
  exact(D5 dn sn tn un an kn pn).symm
 ·skip
  obtain⟨Z1,hz1,cc1,ss1,ll1⟩:=bK nm PL 40 40 lnm lPL
  have HZ1:=N hz1
  clear hz1
  go_wp2
  go_ret
  refine⟨bQ ?_,hb⟩
  rw[HZ1.out,HT.out,HNM.out,HPL.out,HDP.out]
  exact(CD dn sn tn un an kn pn).symm
theorem gJ (op:Int)(dn sn tn un an kn pn:Nat)(hop:op=11\/op=22\/op=12\/op=13\/op=16\/op=17\/op=18\/op=19\/op=20\/op=23)(hd:dn<5000000000)(hs:sn<5000000000)(ht:tn<5000000000)(hu:un<5000000000)(ha:an<5000000000)(hk:kn<4294967296)(hp:pn<5000000000)(w:World):
 Calls Tryz.prog 145 #[iv ⟨op,dn,sn,tn,un,an,kn,pn⟩] w fun e w'=>e=.returned (bs (af ⟨op,dn,sn,tn,un,an,kn,pn⟩))/\Below w.heap.size w w':=by
 have HRd:=N (fun W=>rR dn W hd)
 have HRs:=N (fun W=>rR sn W hs)
 have HRt:=N (fun W=>rR tn W ht)
 have HRu:=N (fun W=>rR un W hu)
 have HDk:=N (fun W=>jf kn W (by omega))
 have HDa:=N (fun W=>jf an W ha)
 have HDp:=N (fun W=>jf pn W hp)
 have HN:=N (fun W=>eZ op W)
 have lnm:(bD op).length<=40:=Nat.le_trans (js op) (by decide)
 have lRD:=cQ dn hd
 have lRS:=cQ sn hs
 have lRT:=cQ tn ht
 have lRU:=cQ un hu
 have lDK:=cC kn (by omega)
 have lDA:=cC an ha
 have lDP:=cC pn hp
 generalize hRD:rL dn=RD at *
 generalize hRS:rL sn=RS at *
 generalize hRT:rL tn=RT at *
 generalize hRU:rL un=RU at *
 generalize hDK:Lib.decDigits kn=DK at *
 generalize hDA:Lib.decDigits an=DA at *
 generalize hDP:Lib.decDigits pn=DP at *
 generalize hnm:bD op=nm at *
 generalize htx:af ⟨op,dn,sn,tn,un,an,kn,pn⟩=tx
 have HRD:=N hRD.symm
 have HRS:=N hRS.symm
 have HRT:=N hRT.symm
 have HRU:=N hRU.symm
 have HDK:=N hDK.symm
 have HDA:=N hDA.symm
 have HDP:=N hDP.symm
 have HNM:=N hnm.symm
 have HT:=N htx.symm
 clear hRD hRS hRT hRU hDK hDA hDP hnm htx
 have lKL:(32 :: DK).length<=40:=by simp;omega
 have lAL:(32 :: DA).length<=40:=by simp;omega
 have lPL:(32 :: DP).length<=40:=by simp;omega
 generalize hKL:32 :: DK=KL at *
 generalize hAL:32 :: DA=AL at *
 generalize hPL:32 :: DP=PL at *
 have ck:(⟨#[32]⟩:ByteArray)++⟨DK.toArray⟩=⟨KL.toArray⟩:=by rw[<-hKL];exact cW [32] DK
 have ca:(⟨#[32]⟩:ByteArray)++⟨DA.toArray⟩=⟨AL.toArray⟩:=by rw[<-hAL];exact cW [32] DA
 have cp:(⟨#[32]⟩:ByteArray)++⟨DP.toArray⟩=⟨PL.toArray⟩:=by rw[<-hPL];exact cW [32] DP
 have HKL:=N hKL.symm
 have HAL:=N hAL.symm
 have HPL:=N hPL.symm
 clear hKL hAL hPL
 have sk:¬ 9223372036854775807<1+DK.length:=by omega
 have sa:¬ 9223372036854775807<1+DA.length:=by omega
 have sp:¬ 9223372036854775807<1+DP.length:=by omega
 have hk0:(0:Int)<=(kn:Int):=by omega
 have hk1:(kn:Int)<4294967296:=by omega
 have hp0:(0:Int)<=(pn:Int):=by omega
 unfold iv
 go_enter Tryz.func145,Tryz.ntmps145
 go_wp2
 generalize hx0:w.alloc (.cells #[I Q op,I Q (dn:Int),I Q (sn:Int),I Q (tn:Int),I Q (un:Int),I Q (an:Int),I .u32 (kn:Int),I Q (pn:Int)] 123)=x0
 have hJ:Jb x0 w.heap.size ⟨op,dn,sn,tn,un,an,kn,pn⟩:=by rw[<-hx0];exact Jb.made w _ _ _ _ _ _ _ _
 have hb:Below w.heap.size w x0:=by rw[<-hx0];exact(O _ _).alloc (Z _) _
 have hlt:w.heap.size<x0.heap.size:=Bk.lt hJ
 clear hx0
 obtain⟨g0,g1,g2,g3,g4,g5,g6,g7⟩:=hJ.wT
 simp only at g0 g1 g2 g3 g4 g5 g6 g7
 refine ar (by kernel_rfl) (by kernel_rfl) ?_
 repeat (go_big_quiet_step (first | (go_at_call 165;with_reducible exact ag (HDk.out _)) | (go_at_call 165;with_reducible exact ag (HDa.out _))))
 refine wpQuiet_nil ?_
 rintro x ⟨⟨_,hx⟩,rfl⟩
 replace hb:=hb.trans (hx.mono (V hlt))
 replace hJ:=hJ.below hx
 replace hlt:w.heap.size<x.heap.size:=Bk.lt hJ
 clear g0 g1 g2 g3 g4 g5 g6 g7 hx ck ca sk sa
 obtain⟨c0,-,-,-,-,-,-,c7⟩:=hJ.cells
 simp only at c0 c7
 go_wp2_with fail
 refine(HDp.out _).mono ?_
 rintro e x1 ⟨rfl,hx⟩
 replace hb:=hb.trans (hx.mono (V hlt))
 replace hJ:=hJ.below hx
 replace hlt:w.heap.size<x1.heap.size:=Bk.lt hJ
 clear hx c0 c7
 obtain⟨c0,-⟩:=hJ.cells
 simp only at c0
 go_wp2_with fail
 refine(HN.out _).mono ?_
 rintro e x2 ⟨rfl,hx⟩
 replace hb:=hb.trans (hx.mono (V hlt))
 replace hJ:=hJ.below hx
 replace hlt:w.heap.size<x2.heap.size:=Bk.lt hJ
 clear hx c0 cp sp
 obtain⟨c0,c1,c2,c3,c4,c5,c6,c7⟩:=hJ.cells
 obtain⟨g0,g1,g2,g3,g4,g5,g6,g7⟩:=hJ.wT
 simp only at c0 c1 c2 c3 c4 c5 c6 c7 g0 g1 g2 g3 g4 g5 g6 g7
 unfold bs
 go_upto_region 6 with (fail)
 rcases hop with rfl|rfl|rfl|rfl|rfl|rfl|rfl|rfl|rfl|rfl
 ·skip
  obtain⟨Z1,hz1,cc1,ss1,ll1⟩:=bK nm RD 40 40 lnm lRD
  have HZ1:=N hz1
  clear hz1
  go_wp2_with (first | (go_at_call 166;(with_reducible refine(HRd.out _).mono ?_);rintro e y ⟨rfl,hy⟩) | (go_at_call 166;(with_reducible refine(HRs.out _).mono ?_);rintro e y ⟨rfl,hy⟩))
  go_ret
  refine⟨bQ ?_,hb.trans (hy.mono (V hlt))⟩
  rw[HZ1.out,HT.out,HNM.out,HRD.out]
  exact(CC dn sn tn un an kn pn).symm
 ·skip
  obtain⟨Z1,hz1,cc1,ss1,ll1⟩:=bK nm RD 40 40 lnm lRD
  have HZ1:=N hz1
  clear hz1
  go_wp2_with (first | (go_at_call 166;(with_reducible refine(HRd.out _).mono ?_);rintro e y ⟨rfl,hy⟩) | (go_at_call 166;(with_reducible refine(HRs.out _).mono ?_);rintro e y ⟨rfl,hy⟩))
  go_ret
  refine⟨bQ ?_,hb.trans (hy.mono (V hlt))⟩
  rw[HZ1.out,HT.out,HNM.out,HRD.out]
  exact(Cu dn sn tn un an kn pn).symm
 ·skip
  obtain⟨Z1,hz1,cc1,ss1,ll1⟩:=bK nm KL 40 40 lnm lKL
  have HZ1:=N hz1
  clear hz1
  go_wp2
  go_ret
  refine⟨bQ ?_,hb⟩
  rw[HZ1.out,HT.out,HNM.out,HKL.out,HDK.out]
  exact(CB dn sn tn un an kn pn).symm
 ·skip
  obtain⟨Z1,hz1,cc1,ss1,ll1⟩:=bK nm KL 40 40 lnm lKL
  have HZ1:=N hz1
  clear hz1
  go_wp2
  go_ret
  refine⟨bQ ?_,hb⟩
  rw[HZ1.out,HT.out,HNM.out,HKL.out,HDK.out]
  exact(CA dn sn tn un an kn pn).symm
 ·skip
  obtain⟨Z1,hz1,cc1,ss1,ll1⟩:=bK RD AL 40 40 lRD lAL
  have HZ1:=N hz1
  clear hz1
  obtain⟨Z2,hz2,cc2,ss2,ll2⟩:=bK Z1 RS 80 40 ll1 lRS
  have HZ2:=N hz2
  clear hz2
  obtain⟨Z3,hz3,cc3,ss3,ll3⟩:=bK nm Z2 40 120 lnm ll2
  have HZ3:=N hz3
  clear hz3
  go_wp2
  refine ar (by kernel_rfl) (by kernel_rfl) ?_
  repeat (go_big_quiet_step (first | (go_at_call 166;with_reducible exact ag (HRd.out _)) | (go_at_call 166;with_reducible exact ag (HRs.out _)) | (go_at_call 166;with_reducible exact ag (HRt.out _)) | (go_at_call 166;with_reducible exact ag (HRu.out _))))
  refine wpQuiet_nil ?_
  rintro y ⟨⟨_,hy⟩,rfl⟩
  go_wp2
  go_ret
  refine⟨bQ ?_,hb.trans (hy.mono (V hlt))⟩
  rw[HZ3.out,HZ2.out,HZ1.out,HT.out,HNM.out,HRD.out,HAL.out,HDA.out,HRS.out]
  exact(Cz dn sn tn un an kn pn).symm
 ·skip
  obtain⟨Z1,hz1,cc1,ss1,ll1⟩:=bK AL RS 40 40 lAL lRS
  have HZ1:=N hz1
  clear hz1
  obtain⟨Z2,hz2,cc2,ss2,ll2⟩:=bK Z1 RT 80 40 ll1 lRT
  have HZ2:=N hz2
  clear hz2
  obtain⟨Z3,hz3,cc3,ss3,ll3⟩:=bK nm Z2 40 120 lnm ll2
  have HZ3:=N hz3
  clear hz3
  go_wp2
  refine ar (by kernel_rfl) (by kernel_rfl) ?_
  repeat (go_big_quiet_step (first | (go_at_call 166;with_reducible exact ag (HRd.out _)) | (go_at_call 166;with_reducible exact ag (HRs.out _)) | (go_at_call 166;with_reducible exact ag (HRt.out _)) | (go_at_call 166;with_reducible exact ag (HRu.out _))))
  refine wpQuiet_nil ?_
  rintro y ⟨⟨_,hy⟩,rfl⟩
  go_wp2
  go_ret
  refine⟨bQ ?_,hb.trans (hy.mono (V hlt))⟩
  rw[HZ3.out,HZ2.out,HZ1.out,HT.out,HNM.out,HAL.out,HDA.out,HRS.out,HRT.out]
  exact(Cy dn sn tn un an kn pn).symm
 ·skip
  obtain⟨Z1,hz1,cc1,ss1,ll1⟩:=bK RD AL 40 40 lRD lAL
  have HZ1:=N hz1
  clear hz1
  obtain⟨Z2,hz2,cc2,ss2,ll2⟩:=bK Z1 RS 80 40 ll1 lRS
  have HZ2:=N hz2
  clear hz2
  obtain⟨Z3,hz3,cc3,ss3,ll3⟩:=bK Z2 RT 120 40 ll2 lRT
  have HZ3:=N hz3
  clear hz3
  obtain⟨Z4,hz4,cc4,ss4,ll4⟩:=bK nm Z3 40 160 lnm ll3
  have HZ4:=N hz4
  clear hz4
  go_wp2
  refine ar (by kernel_rfl) (by kernel_rfl) ?_
  repeat (go_big_quiet_step (first | (go_at_call 166;with_reducible exact ag (HRd.out _)) | (go_at_call 166;with_reducible exact ag (HRs.out _)) | (go_at_call 166;with_reducible exact ag (HRt.out _)) | (go_at_call 166;with_reducible exact ag (HRu.out _))))
  refine wpQuiet_nil ?_
  rintro y ⟨⟨_,hy⟩,rfl⟩
  go_wp2
  go_ret
  refine⟨bQ ?_,hb.trans (hy.mono (V hlt))⟩
  rw[HZ4.out,HZ3.out,HZ2.out,HZ1.out,HT.out,HNM.out,HRD.out,HAL.out,HDA.out,HRS.out,HRT.out]
  exact(Cx dn sn tn un an kn pn).symm
 ·skip
  obtain⟨Z1,hz1,cc1,ss1,ll1⟩:=bK RD AL 40 40 lRD lAL
  have HZ1:=N hz1
  clear hz1
  obtain⟨Z2,hz2,cc2,ss2,ll2⟩:=bK Z1 RS 80 40 ll1 lRS
  have HZ2:=N hz2
  clear hz2
  obtain⟨Z3,hz3,cc3,ss3,ll3⟩:=bK Z2 RT 120 40 ll2 lRT
  have HZ3:=N hz3
  clear hz3
  obtain⟨Z4,hz4,cc4,ss4,ll4⟩:=bK Z3 RU 160 40 ll3 lRU
  have HZ4:=N hz4
  clear hz4
  obtain⟨Z5,hz5,cc5,ss5,ll5⟩:=bK nm Z4 40 200 lnm ll4
  have HZ5:=N hz5
  clear hz5
  go_wp2
  refine ar (by kernel_rfl) (by kernel_rfl) ?_
  repeat (go_big_quiet_step (first | (go_at_call 166;with_reducible exact ag (HRd.out _)) | (go_at_call 166;with_reducible exact ag (HRs.out _)) | (go_at_call 166;with_reducible exact ag (HRt.out _)) | (go_at_call 166;with_reducible exact ag (HRu.out _))))
  refine wpQuiet_nil ?_
  rintro y ⟨⟨_,hy⟩,rfl⟩
  go_wp2
  go_ret
  refine⟨bQ ?_,hb.trans (hy.mono (V hlt))⟩
  rw[HZ5.out,HZ4.out,HZ3.out,HZ2.out,HZ1.out,HT.out,HNM.out,HRD.out,HAL.out,HDA.out,HRS.out,HRT.out,HRU.out]
  exact(Cw dn sn tn un an kn pn).symm
 ·skip
  obtain⟨Z1,hz1,cc1,ss1,ll1⟩:=bK RD AL 40 40 lRD lAL
  have HZ1:=N hz1
  clear hz1
  obtain⟨Z2,hz2,cc2,ss2,ll2⟩:=bK Z1 RS 80 40 ll1 lRS
  have HZ2:=N hz2
  clear hz2
  obtain⟨Z3,hz3,cc3,ss3,ll3⟩:=bK Z2 KL 120 40 ll2 lKL
  have HZ3:=N hz3
  clear hz3
  obtain⟨Z4,hz4,cc4,ss4,ll4⟩:=bK nm Z3 40 160 lnm ll3
  have HZ4:=N hz4
  clear hz4
  go_wp2
  refine ar (by kernel_rfl) (by kernel_rfl) ?_
  repeat (go_big_quiet_step (first | (go_at_call 166;with_reducible exact ag (HRd.out _)) | (go_at_call 166;with_reducible exact ag (HRs.out _)) | (go_at_call 166;with_reducible exact ag (HRt.out _)) | (go_at_call 166;with_reducible exact ag (HRu.out _))))
  refine wpQuiet_nil ?_
  rintro y ⟨⟨_,hy⟩,rfl⟩
  go_wp2
  go_ret
  refine⟨bQ ?_,hb.trans (hy.mono (V hlt))⟩
  rw[HZ4.out,HZ3.out,HZ2.out,HZ1.out,HT.out,HNM.out,HRD.out,HAL.out,HDA.out,HRS.out,HKL.out,HDK.out]
  exact(Cv dn sn tn un an kn pn).symm
 ·skip
  obtain⟨Z1,hz1,cc1,ss1,ll1⟩:=bK nm RS 40 40 lnm lRS
  have HZ1:=N hz1
  clear hz1
  go_wp2_with (first | (go_at_call 166;(with_reducible refine(HRd.out _).mono ?_);rintro e y ⟨rfl,hy⟩) | (go_at_call 166;(with_reducible refine(HRs.out _).mono ?_);rintro e y ⟨rfl,hy⟩))
  go_ret
  refine⟨bQ ?_,hb.trans (hy.mono (V hlt))⟩
  rw[HZ1.out,HT.out,HNM.out,HRS.out]
  exact(Ct dn sn tn un an kn pn).symm
theorem uH (dn sn tn un an pn:Nat):af ⟨21,dn,sn,tn,un,an,0,pn⟩=bD 21++(rL dn++(32 :: Lib.decDigits an)++rL sn++[32,101,113]++rL tn)++([32,101,108,115,101]++(32 :: Lib.decDigits pn)):=by
 have e:¬ ((pn:Int)=-1):=by omega
 simp[af,cM,av,aQ,aZ,rL,aE,e]
theorem uI (dn sn tn un an pn:Nat):af ⟨21,dn,sn,tn,un,an,0,-1⟩=bD 21++(rL dn++(32 :: Lib.decDigits an)++rL sn++[32,101,113]++rL tn):=by
 simp[af,cM,av,aQ,aZ,rL,aE]
theorem uF (dn sn tn un an pn:Nat):af ⟨21,dn,sn,tn,un,an,1,pn⟩=bD 21++(rL dn++(32 :: Lib.decDigits an)++rL sn++[32,110,101]++rL tn)++([32,101,108,115,101]++(32 :: Lib.decDigits pn)):=by
 have e:¬ ((pn:Int)=-1):=by omega
 simp[af,cM,av,aQ,aZ,rL,aE,e]
theorem uG (dn sn tn un an pn:Nat):af ⟨21,dn,sn,tn,un,an,1,-1⟩=bD 21++(rL dn++(32 :: Lib.decDigits an)++rL sn++[32,110,101]++rL tn):=by
 simp[af,cM,av,aQ,aZ,rL,aE]
theorem sj (dn sn tn un an pn:Nat)(hd:dn<5000000000)(hs:sn<5000000000)(ht:tn<5000000000)(hu:un<5000000000)(ha:an<5000000000)(hp:pn<5000000000)(w:World):
 Calls Tryz.prog 145 #[iv ⟨21,dn,sn,tn,un,an,0,pn⟩] w fun e w'=>e=.returned (bs (af ⟨21,dn,sn,tn,un,an,0,pn⟩))/\Below w.heap.size w w':=by
 have HRd:=N (fun W=>rR dn W hd)
 have HRs:=N (fun W=>rR sn W hs)
 have HRt:=N (fun W=>rR tn W ht)
 have HRu:=N (fun W=>rR un W hu)
 have HDk:=N (fun W=>jf 0 W (by decide))
 have HDa:=N (fun W=>jf an W ha)
 have HDp:=N (fun W=>jf pn W hp)
 have HN:=N (fun W=>eZ 21 W)
 have lnm:(bD 21).length<=40:=Nat.le_trans (js 21) (by decide)
 have lRD:=cQ dn hd
 have lRS:=cQ sn hs
 have lRT:=cQ tn ht
 have lRU:=cQ un hu
 have lDK:=cC 0 (by decide)
 have lDA:=cC an ha
 have lDP:=cC pn hp
 generalize hRD:rL dn=RD at *
 generalize hRS:rL sn=RS at *
 generalize hRT:rL tn=RT at *
 generalize hRU:rL un=RU at *
 generalize hDK:Lib.decDigits 0=DK at *
 generalize hDA:Lib.decDigits an=DA at *
 generalize hDP:Lib.decDigits pn=DP at *
 generalize hnm:bD 21=nm at *
 generalize htx:af ⟨21,dn,sn,tn,un,an,0,pn⟩=tx
 have HRD:=N hRD.symm
 have HRS:=N hRS.symm
 have HRT:=N hRT.symm
 have HRU:=N hRU.symm
 have HDK:=N hDK.symm
 have HDA:=N hDA.symm
 have HDP:=N hDP.symm
 have HNM:=N hnm.symm
 have HT:=N htx.symm
 clear hRD hRS hRT hRU hDK hDA hDP hnm htx
 have lKL:(32 :: DK).length<=40:=by simp;omega
 have lAL:(32 :: DA).length<=40:=by simp;omega
 have lPL:(32 :: DP).length<=40:=by simp;omega
 generalize hKL:32 :: DK=KL at *
 generalize hAL:32 :: DA=AL at *
 generalize hPL:32 :: DP=PL at *
 have ck:(⟨#[32]⟩:ByteArray)++⟨DK.toArray⟩=⟨KL.toArray⟩:=by rw[<-hKL];exact cW [32] DK
 have ca:(⟨#[32]⟩:ByteArray)++⟨DA.toArray⟩=⟨AL.toArray⟩:=by rw[<-hAL];exact cW [32] DA
 have cp:(⟨#[32]⟩:ByteArray)++⟨DP.toArray⟩=⟨PL.toArray⟩:=by rw[<-hPL];exact cW [32] DP
 have HKL:=N hKL.symm
 have HAL:=N hAL.symm
 have HPL:=N hPL.symm
 clear hKL hAL hPL
 have sk:¬ 9223372036854775807<1+DK.length:=by omega
 have sa:¬ 9223372036854775807<1+DA.length:=by omega
 have sp:¬ 9223372036854775807<1+DP.length:=by omega
 have hp0:(0:Int)<=(pn:Int):=by omega
 unfold iv
 go_enter Tryz.func145,Tryz.ntmps145
 go_wp2
 generalize hx0:w.alloc (.cells #[I Q 21,I Q (dn:Int),I Q (sn:Int),I Q (tn:Int),I Q (un:Int),I Q (an:Int),I .u32 0,I Q (pn:Int)] 123)=x0
 have hJ:Jb x0 w.heap.size ⟨21,dn,sn,tn,un,an,0,pn⟩:=by rw[<-hx0];exact Jb.made w _ _ _ _ _ _ _ _
 have hb:Below w.heap.size w x0:=by rw[<-hx0];exact(O _ _).alloc (Z _) _
 have hlt:w.heap.size<x0.heap.size:=Bk.lt hJ
 clear hx0
 obtain⟨g0,g1,g2,g3,g4,g5,g6,g7⟩:=hJ.wT
 simp only at g0 g1 g2 g3 g4 g5 g6 g7
 refine ar (by kernel_rfl) (by kernel_rfl) ?_
 repeat (go_big_quiet_step (first | (go_at_call 165;with_reducible exact ag (HDk.out _)) | (go_at_call 165;with_reducible exact ag (HDa.out _))))
 refine wpQuiet_nil ?_
 rintro x ⟨⟨_,hx⟩,rfl⟩
 replace hb:=hb.trans (hx.mono (V hlt))
 replace hJ:=hJ.below hx
 replace hlt:w.heap.size<x.heap.size:=Bk.lt hJ
 clear g0 g1 g2 g3 g4 g5 g6 g7 hx ck ca sk sa
 obtain⟨c0,-,-,-,-,-,-,c7⟩:=hJ.cells
 simp only at c0 c7
 go_wp2_with fail
 refine(HDp.out _).mono ?_
 rintro e x1 ⟨rfl,hx⟩
 replace hb:=hb.trans (hx.mono (V hlt))
 replace hJ:=hJ.below hx
 replace hlt:w.heap.size<x1.heap.size:=Bk.lt hJ
 clear hx c0 c7
 obtain⟨c0,-⟩:=hJ.cells
 simp only at c0
 go_wp2_with fail
 refine(HN.out _).mono ?_
 rintro e x2 ⟨rfl,hx⟩
 replace hb:=hb.trans (hx.mono (V hlt))
 replace hJ:=hJ.below hx
 replace hlt:w.heap.size<x2.heap.size:=Bk.lt hJ
 clear hx c0 cp sp
 obtain⟨c0,c1,c2,c3,c4,c5,c6,c7⟩:=hJ.cells
 obtain⟨g0,g1,g2,g3,g4,g5,g6,g7⟩:=hJ.wT
 simp only at c0 c1 c2 c3 c4 c5 c6 c7 g0 g1 g2 g3 g4 g5 g6 g7
 unfold bs
 have lWW:([32,101,113]:List UInt8).length<=40:=by decide
 obtain⟨Z1,hz1,cc1,ss1,ll1⟩:=bK RD AL 40 40 lRD lAL
 have HZ1:=N hz1
 clear hz1
 obtain⟨Z2,hz2,cc2,ss2,ll2⟩:=bK Z1 RS 80 40 ll1 lRS
 have HZ2:=N hz2
 clear hz2
 obtain⟨Z3,hz3,cc3,ss3,ll3⟩:=bK Z2 [32,101,113] 120 40 ll2 lWW
 simp only[List.length_cons,List.length_nil,Nat.zero_add,Nat.reduceAdd] at ss3
 have HZ3:=N hz3
 clear hz3
 obtain⟨Z4,hz4,cc4,ss4,ll4⟩:=bK Z3 RT 160 40 ll3 lRT
 have HZ4:=N hz4
 clear hz4
 obtain⟨Z5,hz5,cc5,ss5,ll5⟩:=bK nm Z4 40 200 lnm ll4
 have HZ5:=N hz5
 clear hz5
 have lEL:([32,101,108,115,101]:List UInt8).length<=40:=by decide
 obtain⟨Z6,hz6,cc6,ss6,ll6⟩:=bK [32,101,108,115,101] PL 40 40 lEL lPL
 simp only[List.length_cons,List.length_nil,Nat.zero_add,Nat.reduceAdd] at ss6
 have HZ6:=N hz6
 clear hz6
 obtain⟨Z7,hz7,cc7,ss7,ll7⟩:=bK Z5 Z6 240 80 ll5 ll6
 have HZ7:=N hz7
 clear hz7
 clear lWW
 go_wp2
 refine ar (by kernel_rfl) (by kernel_rfl) ?_
 repeat (go_big_quiet_step (first | (go_at_call 166;with_reducible exact ag (HRd.out _)) | (go_at_call 166;with_reducible exact ag (HRs.out _)) | (go_at_call 166;with_reducible exact ag (HRt.out _)) | (go_at_call 166;with_reducible exact ag (HRu.out _))))
 refine wpQuiet_nil ?_
 rintro y ⟨⟨_,hy⟩,rfl⟩
 replace hb:=hb.trans (hy.mono (V hlt))
 replace hJ:=hJ.below hy
 clear c0 c1 c2 c3 c4 c5 c6 c7 g0 g1 g2 g3 g4 g5 g6 g7
 obtain⟨-,-,-,-,-,-,-,c7⟩:=hJ.cells
 simp only at c7
 go_wp2
 go_ret
 refine⟨bQ ?_,hb⟩
 rw[HZ7.out,HZ6.out,HZ5.out,HZ4.out,HZ3.out,HZ2.out,HZ1.out,HT.out,HNM.out,HRD.out,HAL.out,HDA.out,HRS.out,HRT.out,HPL.out,HDP.out]
 exact(uH dn sn tn un an pn).symm
theorem sm (dn sn tn un an pn:Nat)(hd:dn<5000000000)(hs:sn<5000000000)(ht:tn<5000000000)(hu:un<5000000000)(ha:an<5000000000)(hp:pn<5000000000)(w:World):
 Calls Tryz.prog 145 #[iv ⟨21,dn,sn,tn,un,an,0,-1⟩] w fun e w'=>e=.returned (bs (af ⟨21,dn,sn,tn,un,an,0,-1⟩))/\Below w.heap.size w w':=by
 have HRd:=N (fun W=>rR dn W hd)
 have HRs:=N (fun W=>rR sn W hs)
 have HRt:=N (fun W=>rR tn W ht)
 have HRu:=N (fun W=>rR un W hu)
 have HDk:=N (fun W=>jf 0 W (by decide))
 have HDa:=N (fun W=>jf an W ha)
 have HDp:=N (fun W=>jf pn W hp)
 have HN:=N (fun W=>eZ 21 W)
 have lnm:(bD 21).length<=40:=Nat.le_trans (js 21) (by decide)
 have lRD:=cQ dn hd
 have lRS:=cQ sn hs
 have lRT:=cQ tn ht
 have lRU:=cQ un hu
 have lDK:=cC 0 (by decide)
 have lDA:=cC an ha
 have lDP:=cC pn hp
 generalize hRD:rL dn=RD at *
 generalize hRS:rL sn=RS at *
 generalize hRT:rL tn=RT at *
 generalize hRU:rL un=RU at *
 generalize hDK:Lib.decDigits 0=DK at *
 generalize hDA:Lib.decDigits an=DA at *
 generalize hDP:Lib.decDigits pn=DP at *
 generalize hnm:bD 21=nm at *
 generalize htx:af ⟨21,dn,sn,tn,un,an,0,-1⟩=tx
 have HRD:=N hRD.symm
 have HRS:=N hRS.symm
 have HRT:=N hRT.symm
 have HRU:=N hRU.symm
 have HDK:=N hDK.symm
 have HDA:=N hDA.symm
 have HDP:=N hDP.symm
 have HNM:=N hnm.symm
 have HT:=N htx.symm
 clear hRD hRS hRT hRU hDK hDA hDP hnm htx
 have lKL:(32 :: DK).length<=40:=by simp;omega
 have lAL:(32 :: DA).length<=40:=by simp;omega
 have lPL:(32 :: DP).length<=40:=by simp;omega
 generalize hKL:32 :: DK=KL at *
 generalize hAL:32 :: DA=AL at *
 generalize hPL:32 :: DP=PL at *
 have ck:(⟨#[32]⟩:ByteArray)++⟨DK.toArray⟩=⟨KL.toArray⟩:=by rw[<-hKL];exact cW [32] DK
 have ca:(⟨#[32]⟩:ByteArray)++⟨DA.toArray⟩=⟨AL.toArray⟩:=by rw[<-hAL];exact cW [32] DA
 have cp:(⟨#[32]⟩:ByteArray)++⟨DP.toArray⟩=⟨PL.toArray⟩:=by rw[<-hPL];exact cW [32] DP
 have HKL:=N hKL.symm
 have HAL:=N hAL.symm
 have HPL:=N hPL.symm
 clear hKL hAL hPL
 have sk:¬ 9223372036854775807<1+DK.length:=by omega
 have sa:¬ 9223372036854775807<1+DA.length:=by omega
 have sp:¬ 9223372036854775807<1+DP.length:=by omega
 unfold iv
 go_enter Tryz.func145,Tryz.ntmps145
 go_wp2
 generalize hx0:w.alloc (.cells #[I Q 21,I Q (dn:Int),I Q (sn:Int),I Q (tn:Int),I Q (un:Int),I Q (an:Int),I .u32 0,I Q (-1)] 123)=x0
 have hJ:Jb x0 w.heap.size ⟨21,dn,sn,tn,un,an,0,-1⟩:=by rw[<-hx0];exact Jb.made w _ _ _ _ _ _ _ _
 have hb:Below w.heap.size w x0:=by rw[<-hx0];exact(O _ _).alloc (Z _) _
 have hlt:w.heap.size<x0.heap.size:=Bk.lt hJ
 clear hx0
 obtain⟨g0,g1,g2,g3,g4,g5,g6,g7⟩:=hJ.wT
 simp only at g0 g1 g2 g3 g4 g5 g6 g7
 refine ar (by kernel_rfl) (by kernel_rfl) ?_
 repeat (go_big_quiet_step (first | (go_at_call 165;with_reducible exact ag (HDk.out _)) | (go_at_call 165;with_reducible exact ag (HDa.out _))))
 refine wpQuiet_nil ?_
 rintro x ⟨⟨_,hx⟩,rfl⟩
 replace hb:=hb.trans (hx.mono (V hlt))
 replace hJ:=hJ.below hx
 replace hlt:w.heap.size<x.heap.size:=Bk.lt hJ
 clear g0 g1 g2 g3 g4 g5 g6 g7 hx ck ca sk sa
 obtain⟨c0,-,-,-,-,-,-,c7⟩:=hJ.cells
 simp only at c0 c7
 go_wp2_with fail
 refine(HN.out _).mono ?_
 rintro e x2 ⟨rfl,hx⟩
 replace hb:=hb.trans (hx.mono (V hlt))
 replace hJ:=hJ.below hx
 replace hlt:w.heap.size<x2.heap.size:=Bk.lt hJ
 clear hx c0 c7 cp sp
 obtain⟨c0,c1,c2,c3,c4,c5,c6,c7⟩:=hJ.cells
 obtain⟨g0,g1,g2,g3,g4,g5,g6,g7⟩:=hJ.wT
 simp only at c0 c1 c2 c3 c4 c5 c6 c7 g0 g1 g2 g3 g4 g5 g6 g7
 unfold bs
 have lWW:([32,101,113]:List UInt8).length<=40:=by decide
 obtain⟨Z1,hz1,cc1,ss1,ll1⟩:=bK RD AL 40 40 lRD lAL
 have HZ1:=N hz1
 clear hz1
 obtain⟨Z2,hz2,cc2,ss2,ll2⟩:=bK Z1 RS 80 40 ll1 lRS
 have HZ2:=N hz2
 clear hz2
 obtain⟨Z3,hz3,cc3,ss3,ll3⟩:=bK Z2 [32,101,113] 120 40 ll2 lWW
 simp only[List.length_cons,List.length_nil,Nat.zero_add,Nat.reduceAdd] at ss3
 have HZ3:=N hz3
 clear hz3
 obtain⟨Z4,hz4,cc4,ss4,ll4⟩:=bK Z3 RT 160 40 ll3 lRT
 have HZ4:=N hz4
 clear hz4
 obtain⟨Z5,hz5,cc5,ss5,ll5⟩:=bK nm Z4 40 200 lnm ll4
 have HZ5:=N hz5
 clear hz5
 clear lWW
 go_wp2
 refine ar (by kernel_rfl) (by kernel_rfl) ?_
 repeat (go_big_quiet_step (first | (go_at_call 166;with_reducible exact ag (HRd.out _)) | (go_at_call 166;with_reducible exact ag (HRs.out _)) | (go_at_call 166;with_reducible exact ag (HRt.out _)) | (go_at_call 166;with_reducible exact ag (HRu.out _))))
 refine wpQuiet_nil ?_
 rintro y ⟨⟨_,hy⟩,rfl⟩
 replace hb:=hb.trans (hy.mono (V hlt))
 replace hJ:=hJ.below hy
 clear c0 c1 c2 c3 c4 c5 c6 c7 g0 g1 g2 g3 g4 g5 g6 g7
 obtain⟨-,-,-,-,-,-,-,c7⟩:=hJ.cells
 simp only at c7
 go_wp2
 go_ret
 refine⟨bQ ?_,hb⟩
 rw[HZ5.out,HZ4.out,HZ3.out,HZ2.out,HZ1.out,HT.out,HNM.out,HRD.out,HAL.out,HDA.out,HRS.out,HRT.out]
 exact(uI dn sn tn un an pn).symm
theorem sf (dn sn tn un an pn:Nat)(hd:dn<5000000000)(hs:sn<5000000000)(ht:tn<5000000000)(hu:un<5000000000)(ha:an<5000000000)(hp:pn<5000000000)(w:World):
 Calls Tryz.prog 145 #[iv ⟨21,dn,sn,tn,un,an,1,pn⟩] w fun e w'=>e=.returned (bs (af ⟨21,dn,sn,tn,un,an,1,pn⟩))/\Below w.heap.size w w':=by
 have HRd:=N (fun W=>rR dn W hd)
 have HRs:=N (fun W=>rR sn W hs)
 have HRt:=N (fun W=>rR tn W ht)
 have HRu:=N (fun W=>rR un W hu)
 have HDk:=N (fun W=>jf 1 W (by decide))
 have HDa:=N (fun W=>jf an W ha)
 have HDp:=N (fun W=>jf pn W hp)
 have HN:=N (fun W=>eZ 21 W)
 have lnm:(bD 21).length<=40:=Nat.le_trans (js 21) (by decide)
 have lRD:=cQ dn hd
 have lRS:=cQ sn hs
 have lRT:=cQ tn ht
 have lRU:=cQ un hu
 have lDK:=cC 1 (by decide)
 have lDA:=cC an ha
 have lDP:=cC pn hp
 generalize hRD:rL dn=RD at *
 generalize hRS:rL sn=RS at *
 generalize hRT:rL tn=RT at *
 generalize hRU:rL un=RU at *
 generalize hDK:Lib.decDigits 1=DK at *
 generalize hDA:Lib.decDigits an=DA at *
 generalize hDP:Lib.decDigits pn=DP at *
 generalize hnm:bD 21=nm at *
 generalize htx:af ⟨21,dn,sn,tn,un,an,1,pn⟩=tx
 have HRD:=N hRD.symm
 have HRS:=N hRS.symm
 have HRT:=N hRT.symm
 have HRU:=N hRU.symm
 have HDK:=N hDK.symm
 have HDA:=N hDA.symm
 have HDP:=N hDP.symm
 have HNM:=N hnm.symm
 have HT:=N htx.symm
 clear hRD hRS hRT hRU hDK hDA hDP hnm htx
 have lKL:(32 :: DK).length<=40:=by simp;omega
 have lAL:(32 :: DA).length<=40:=by simp;omega
 have lPL:(32 :: DP).length<=40:=by simp;omega
 generalize hKL:32 :: DK=KL at *
 generalize hAL:32 :: DA=AL at *
 generalize hPL:32 :: DP=PL at *
 have ck:(⟨#[32]⟩:ByteArray)++⟨DK.toArray⟩=⟨KL.toArray⟩:=by rw[<-hKL];exact cW [32] DK
 have ca:(⟨#[32]⟩:ByteArray)++⟨DA.toArray⟩=⟨AL.toArray⟩:=by rw[<-hAL];exact cW [32] DA
 have cp:(⟨#[32]⟩:ByteArray)++⟨DP.toArray⟩=⟨PL.toArray⟩:=by rw[<-hPL];exact cW [32] DP
 have HKL:=N hKL.symm
 have HAL:=N hAL.symm
 have HPL:=N hPL.symm
 clear hKL hAL hPL
 have sk:¬ 9223372036854775807<1+DK.length:=by omega
 have sa:¬ 9223372036854775807<1+DA.length:=by omega
 have sp:¬ 9223372036854775807<1+DP.length:=by omega
 have hp0:(0:Int)<=(pn:Int):=by omega
 unfold iv
 go_enter Tryz.func145,Tryz.ntmps145
 go_wp2
 generalize hx0:w.alloc (.cells #[I Q 21,I Q (dn:Int),I Q (sn:Int),I Q (tn:Int),I Q (un:Int),I Q (an:Int),I .u32 1,I Q (pn:Int)] 123)=x0
 have hJ:Jb x0 w.heap.size ⟨21,dn,sn,tn,un,an,1,pn⟩:=by rw[<-hx0];exact Jb.made w _ _ _ _ _ _ _ _
 have hb:Below w.heap.size w x0:=by rw[<-hx0];exact(O _ _).alloc (Z _) _
 have hlt:w.heap.size<x0.heap.size:=Bk.lt hJ
 clear hx0
 obtain⟨g0,g1,g2,g3,g4,g5,g6,g7⟩:=hJ.wT
 simp only at g0 g1 g2 g3 g4 g5 g6 g7
 refine ar (by kernel_rfl) (by kernel_rfl) ?_
 repeat (go_big_quiet_step (first | (go_at_call 165;with_reducible exact ag (HDk.out _)) | (go_at_call 165;with_reducible exact ag (HDa.out _))))
 refine wpQuiet_nil ?_
 rintro x ⟨⟨_,hx⟩,rfl⟩
 replace hb:=hb.trans (hx.mono (V hlt))
 replace hJ:=hJ.below hx
 replace hlt:w.heap.size<x.heap.size:=Bk.lt hJ
 clear g0 g1 g2 g3 g4 g5 g6 g7 hx ck ca sk sa
 obtain⟨c0,-,-,-,-,-,-,c7⟩:=hJ.cells
 simp only at c0 c7
 go_wp2_with fail
 refine(HDp.out _).mono ?_
 rintro e x1 ⟨rfl,hx⟩
 replace hb:=hb.trans (hx.mono (V hlt))
 replace hJ:=hJ.below hx
 replace hlt:w.heap.size<x1.heap.size:=Bk.lt hJ
 clear hx c0 c7
 obtain⟨c0,-⟩:=hJ.cells
 simp only at c0
 go_wp2_with fail
 refine(HN.out _).mono ?_
 rintro e x2 ⟨rfl,hx⟩
 replace hb:=hb.trans (hx.mono (V hlt))
 replace hJ:=hJ.below hx
 replace hlt:w.heap.size<x2.heap.size:=Bk.lt hJ
 clear hx c0 cp sp
 obtain⟨c0,c1,c2,c3,c4,c5,c6,c7⟩:=hJ.cells
 obtain⟨g0,g1,g2,g3,g4,g5,g6,g7⟩:=hJ.wT
 simp only at c0 c1 c2 c3 c4 c5 c6 c7 g0 g1 g2 g3 g4 g5 g6 g7
 unfold bs
 have lWW:([32,110,101]:List UInt8).length<=40:=by decide
 obtain⟨Z1,hz1,cc1,ss1,ll1⟩:=bK RD AL 40 40 lRD lAL
 have HZ1:=N hz1
 clear hz1
 obtain⟨Z2,hz2,cc2,ss2,ll2⟩:=bK Z1 RS 80 40 ll1 lRS
 have HZ2:=N hz2
 clear hz2
 obtain⟨Z3,hz3,cc3,ss3,ll3⟩:=bK Z2 [32,110,101] 120 40 ll2 lWW
 simp only[List.length_cons,List.length_nil,Nat.zero_add,Nat.reduceAdd] at ss3
 have HZ3:=N hz3
 clear hz3
 obtain⟨Z4,hz4,cc4,ss4,ll4⟩:=bK Z3 RT 160 40 ll3 lRT
 have HZ4:=N hz4
 clear hz4
 obtain⟨Z5,hz5,cc5,ss5,ll5⟩:=bK nm Z4 40 200 lnm ll4
 have HZ5:=N hz5
 clear hz5
 have lEL:([32,101,108,115,101]:List UInt8).length<=40:=by decide
 obtain⟨Z6,hz6,cc6,ss6,ll6⟩:=bK [32,101,108,115,101] PL 40 40 lEL lPL
 simp only[List.length_cons,List.length_nil,Nat.zero_add,Nat.reduceAdd] at ss6
 have HZ6:=N hz6
 clear hz6
 obtain⟨Z7,hz7,cc7,ss7,ll7⟩:=bK Z5 Z6 240 80 ll5 ll6
 have HZ7:=N hz7
 clear hz7
 clear lWW
 go_wp2
 refine ar (by kernel_rfl) (by kernel_rfl) ?_
 repeat (go_big_quiet_step (first | (go_at_call 166;with_reducible exact ag (HRd.out _)) | (go_at_call 166;with_reducible exact ag (HRs.out _)) | (go_at_call 166;with_reducible exact ag (HRt.out _)) | (go_at_call 166;with_reducible exact ag (HRu.out _))))
 refine wpQuiet_nil ?_
 rintro y ⟨⟨_,hy⟩,rfl⟩
 replace hb:=hb.trans (hy.mono (V hlt))
 replace hJ:=hJ.below hy
 clear c0 c1 c2 c3 c4 c5 c6 c7 g0 g1 g2 g3 g4 g5 g6 g7
 obtain⟨-,-,-,-,-,-,-,c7⟩:=hJ.cells
 simp only at c7
 go_wp2
 go_ret
 refine⟨bQ ?_,hb⟩
 rw[HZ7.out,HZ6.out,HZ5.out,HZ4.out,HZ3.out,HZ2.out,HZ1.out,HT.out,HNM.out,HRD.out,HAL.out,HDA.out,HRS.out,HRT.out,HPL.out,HDP.out]
 exact(uF dn sn tn un an pn).symm
theorem sg (dn sn tn un an pn:Nat)(hd:dn<5000000000)(hs:sn<5000000000)(ht:tn<5000000000)(hu:un<5000000000)(ha:an<5000000000)(hp:pn<5000000000)(w:World):
 Calls Tryz.prog 145 #[iv ⟨21,dn,sn,tn,un,an,1,-1⟩] w fun e w'=>e=.returned (bs (af ⟨21,dn,sn,tn,un,an,1,-1⟩))/\Below w.heap.size w w':=by
 have HRd:=N (fun W=>rR dn W hd)
 have HRs:=N (fun W=>rR sn W hs)
 have HRt:=N (fun W=>rR tn W ht)
 have HRu:=N (fun W=>rR un W hu)
 have HDk:=N (fun W=>jf 1 W (by decide))
 have HDa:=N (fun W=>jf an W ha)
 have HDp:=N (fun W=>jf pn W hp)
 have HN:=N (fun W=>eZ 21 W)
 have lnm:(bD 21).length<=40:=Nat.le_trans (js 21) (by decide)
 have lRD:=cQ dn hd
 have lRS:=cQ sn hs
 have lRT:=cQ tn ht
 have lRU:=cQ un hu
 have lDK:=cC 1 (by decide)
 have lDA:=cC an ha
 have lDP:=cC pn hp
 generalize hRD:rL dn=RD at *
 generalize hRS:rL sn=RS at *
 generalize hRT:rL tn=RT at *
 generalize hRU:rL un=RU at *
 generalize hDK:Lib.decDigits 1=DK at *
 generalize hDA:Lib.decDigits an=DA at *
 generalize hDP:Lib.decDigits pn=DP at *
 generalize hnm:bD 21=nm at *
 generalize htx:af ⟨21,dn,sn,tn,un,an,1,-1⟩=tx
 have HRD:=N hRD.symm
 have HRS:=N hRS.symm
 have HRT:=N hRT.symm
 have HRU:=N hRU.symm
 have HDK:=N hDK.symm
 have HDA:=N hDA.symm
 have HDP:=N hDP.symm
 have HNM:=N hnm.symm
 have HT:=N htx.symm
 clear hRD hRS hRT hRU hDK hDA hDP hnm htx
 have lKL:(32 :: DK).length<=40:=by simp;omega
 have lAL:(32 :: DA).length<=40:=by simp;omega
 have lPL:(32 :: DP).length<=40:=by simp;omega
 generalize hKL:32 :: DK=KL at *
 generalize hAL:32 :: DA=AL at *
 generalize hPL:32 :: DP=PL at *
 have ck:(⟨#[32]⟩:ByteArray)++⟨DK.toArray⟩=⟨KL.toArray⟩:=by rw[<-hKL];exact cW [32] DK
 have ca:(⟨#[32]⟩:ByteArray)++⟨DA.toArray⟩=⟨AL.toArray⟩:=by rw[<-hAL];exact cW [32] DA
 have cp:(⟨#[32]⟩:ByteArray)++⟨DP.toArray⟩=⟨PL.toArray⟩:=by rw[<-hPL];exact cW [32] DP
 have HKL:=N hKL.symm
 have HAL:=N hAL.symm
 have HPL:=N hPL.symm
 clear hKL hAL hPL
 have sk:¬ 9223372036854775807<1+DK.length:=by omega
 have sa:¬ 9223372036854775807<1+DA.length:=by omega
 have sp:¬ 9223372036854775807<1+DP.length:=by omega
 unfold iv
 go_enter Tryz.func145,Tryz.ntmps145
 go_wp2
 generalize hx0:w.alloc (.cells #[I Q 21,I Q (dn:Int),I Q (sn:Int),I Q (tn:Int),I Q (un:Int),I Q (an:Int),I .u32 1,I Q (-1)] 123)=x0
 have hJ:Jb x0 w.heap.size ⟨21,dn,sn,tn,un,an,1,-1⟩:=by rw[<-hx0];exact Jb.made w _ _ _ _ _ _ _ _
 have hb:Below w.heap.size w x0:=by rw[<-hx0];exact(O _ _).alloc (Z _) _
 have hlt:w.heap.size<x0.heap.size:=Bk.lt hJ
 clear hx0
 obtain⟨g0,g1,g2,g3,g4,g5,g6,g7⟩:=hJ.wT
 simp only at g0 g1 g2 g3 g4 g5 g6 g7
 refine ar (by kernel_rfl) (by kernel_rfl) ?_
 repeat (go_big_quiet_step (first | (go_at_call 165;with_reducible exact ag (HDk.out _)) | (go_at_call 165;with_reducible exact ag (HDa.out _))))
 refine wpQuiet_nil ?_
 rintro x ⟨⟨_,hx⟩,rfl⟩
 replace hb:=hb.trans (hx.mono (V hlt))
 replace hJ:=hJ.below hx
 replace hlt:w.heap.size<x.heap.size:=Bk.lt hJ
 clear g0 g1 g2 g3 g4 g5 g6 g7 hx ck ca sk sa
 obtain⟨c0,-,-,-,-,-,-,c7⟩:=hJ.cells
 simp only at c0 c7
 go_wp2_with fail
 refine(HN.out _).mono ?_
 rintro e x2 ⟨rfl,hx⟩
 replace hb:=hb.trans (hx.mono (V hlt))
 replace hJ:=hJ.below hx
 replace hlt:w.heap.size<x2.heap.size:=Bk.lt hJ
 clear hx c0 c7 cp sp
 obtain⟨c0,c1,c2,c3,c4,c5,c6,c7⟩:=hJ.cells
 obtain⟨g0,g1,g2,g3,g4,g5,g6,g7⟩:=hJ.wT
 simp only at c0 c1 c2 c3 c4 c5 c6 c7 g0 g1 g2 g3 g4 g5 g6 g7
 unfold bs
 have lWW:([32,110,101]:List UInt8).length<=40:=by decide
 obtain⟨Z1,hz1,cc1,ss1,ll1⟩:=bK RD AL 40 40 lRD lAL
 have HZ1:=N hz1
 clear hz1
 obtain⟨Z2,hz2,cc2,ss2,ll2⟩:=bK Z1 RS 80 40 ll1 lRS
 have HZ2:=N hz2
 clear hz2
 obtain⟨Z3,hz3,cc3,ss3,ll3⟩:=bK Z2 [32,110,101] 120 40 ll2 lWW
 simp only[List.length_cons,List.length_nil,Nat.zero_add,Nat.reduceAdd] at ss3
 have HZ3:=N hz3
 clear hz3
 obtain⟨Z4,hz4,cc4,ss4,ll4⟩:=bK Z3 RT 160 40 ll3 lRT
 have HZ4:=N hz4
 clear hz4
 obtain⟨Z5,hz5,cc5,ss5,ll5⟩:=bK nm Z4 40 200 lnm ll4
 have HZ5:=N hz5
 clear hz5
 clear lWW
 go_wp2
 refine ar (by kernel_rfl) (by kernel_rfl) ?_
 repeat (go_big_quiet_step (first | (go_at_call 166;with_reducible exact ag (HRd.out _)) | (go_at_call 166;with_reducible exact ag (HRs.out _)) | (go_at_call 166;with_reducible exact ag (HRt.out _)) | (go_at_call 166;with_reducible exact ag (HRu.out _))))
 refine wpQuiet_nil ?_
 rintro y ⟨⟨_,hy⟩,rfl⟩
 replace hb:=hb.trans (hy.mono (V hlt))
 replace hJ:=hJ.below hy
 clear c0 c1 c2 c3 c4 c5 c6 c7 g0 g1 g2 g3 g4 g5 g6 g7
 obtain⟨-,-,-,-,-,-,-,c7⟩:=hJ.cells
 simp only at c7
 go_wp2
 go_ret
 refine⟨bQ ?_,hb⟩
 rw[HZ5.out,HZ4.out,HZ3.out,HZ2.out,HZ1.out,HT.out,HNM.out,HRD.out,HAL.out,HDA.out,HRS.out,HRT.out]
 exact(uG dn sn tn un an pn).symm
theorem xA (i:aN)(h:au i 1073741824=true)(k0:0<=i.k)(k1:i.k<4294967296)(w:World):
 Calls Tryz.prog 145 #[iv i] w fun e w'=>e=.returned (bs (af i))/\Below w.heap.size w w':=by
 obtain⟨hd,hs,ht,hu,ha⟩:=eB i _ h
 obtain⟨op,d,s,t,u,a,k,pl⟩:=i
 simp only at hd hs ht hu ha k0 k1
 rcases cq op with rfl|rfl|rfl|rfl|rfl|rfl|rfl|rfl|rfl|rfl|rfl|rfl|rfl|rfl|rfl|rfl|rfl|rfl|rfl|rfl|rfl | hn
 ·skip
  have hr:=lX d s t u a k pl 1073741824 hd hs ht hu ha k0 k1
  rw[h] at hr
  simp[du] at hr
  obtain⟨dn,rfl⟩:∃ n:Nat,d=n:=⟨d.toNat,by omega⟩
  obtain⟨sn,rfl⟩:∃ n:Nat,s=n:=⟨s.toNat,by omega⟩
  obtain⟨tn,rfl⟩:∃ n:Nat,t=n:=⟨t.toNat,by omega⟩
  obtain⟨un,rfl⟩:∃ n:Nat,u=n:=⟨u.toNat,by omega⟩
  obtain⟨an,rfl⟩:∃ n:Nat,a=n:=⟨a.toNat,by omega⟩
  obtain⟨kn,rfl⟩:∃ n:Nat,k=n:=⟨k.toNat,by omega⟩
  obtain⟨pn,rfl⟩:∃ n:Nat,pl=n:=⟨pl.toNat,by omega⟩
  exact gK 1 dn sn tn un an kn pn (by decide) (by omega) (by omega) (by omega) (by omega) (by omega) (by omega) (by omega) w
 ·skip
  have hr:=lW d s t u a k pl 1073741824 hd hs ht hu ha k0 k1
  rw[h] at hr
  simp[du] at hr
  obtain⟨dn,rfl⟩:∃ n:Nat,d=n:=⟨d.toNat,by omega⟩
  obtain⟨sn,rfl⟩:∃ n:Nat,s=n:=⟨s.toNat,by omega⟩
  obtain⟨tn,rfl⟩:∃ n:Nat,t=n:=⟨t.toNat,by omega⟩
  obtain⟨un,rfl⟩:∃ n:Nat,u=n:=⟨u.toNat,by omega⟩
  obtain⟨an,rfl⟩:∃ n:Nat,a=n:=⟨a.toNat,by omega⟩
  obtain⟨kn,rfl⟩:∃ n:Nat,k=n:=⟨k.toNat,by omega⟩
  obtain⟨pn,rfl⟩:∃ n:Nat,pl=n:=⟨pl.toNat,by omega⟩
  exact gK 2 dn sn tn un an kn pn (by decide) (by omega) (by omega) (by omega) (by omega) (by omega) (by omega) (by omega) w
 ·skip
  have hr:=lV d s t u a k pl 1073741824 hd hs ht hu ha k0 k1
  rw[h] at hr
  simp[du] at hr
  obtain⟨dn,rfl⟩:∃ n:Nat,d=n:=⟨d.toNat,by omega⟩
  obtain⟨sn,rfl⟩:∃ n:Nat,s=n:=⟨s.toNat,by omega⟩
  obtain⟨tn,rfl⟩:∃ n:Nat,t=n:=⟨t.toNat,by omega⟩
  obtain⟨un,rfl⟩:∃ n:Nat,u=n:=⟨u.toNat,by omega⟩
  obtain⟨an,rfl⟩:∃ n:Nat,a=n:=⟨a.toNat,by omega⟩
  obtain⟨kn,rfl⟩:∃ n:Nat,k=n:=⟨k.toNat,by omega⟩
  obtain⟨pn,rfl⟩:∃ n:Nat,pl=n:=⟨pl.toNat,by omega⟩
  exact gK 3 dn sn tn un an kn pn (by decide) (by omega) (by omega) (by omega) (by omega) (by omega) (by omega) (by omega) w
 ·skip
  have hr:=lU d s t u a k pl 1073741824 hd hs ht hu ha k0 k1
  rw[h] at hr
  simp[du] at hr
  obtain⟨dn,rfl⟩:∃ n:Nat,d=n:=⟨d.toNat,by omega⟩
  obtain⟨sn,rfl⟩:∃ n:Nat,s=n:=⟨s.toNat,by omega⟩
  obtain⟨tn,rfl⟩:∃ n:Nat,t=n:=⟨t.toNat,by omega⟩
  obtain⟨un,rfl⟩:∃ n:Nat,u=n:=⟨u.toNat,by omega⟩
  obtain⟨an,rfl⟩:∃ n:Nat,a=n:=⟨a.toNat,by omega⟩
  obtain⟨kn,rfl⟩:∃ n:Nat,k=n:=⟨k.toNat,by omega⟩
  obtain⟨pn,rfl⟩:∃ n:Nat,pl=n:=⟨pl.toNat,by omega⟩
  exact gK 4 dn sn tn un an kn pn (by decide) (by omega) (by omega) (by omega) (by omega) (by omega) (by omega) (by omega) w
 ·skip
  have hr:=j6 d s t u a k pl 1073741824 hd hs ht hu ha k0 k1
  rw[h] at hr
  simp[du] at hr
  obtain⟨dn,rfl⟩:∃ n:Nat,d=n:=⟨d.toNat,by omega⟩
  obtain⟨sn,rfl⟩:∃ n:Nat,s=n:=⟨s.toNat,by omega⟩
  obtain⟨tn,rfl⟩:∃ n:Nat,t=n:=⟨t.toNat,by omega⟩
  obtain⟨un,rfl⟩:∃ n:Nat,u=n:=⟨u.toNat,by omega⟩
  obtain⟨an,rfl⟩:∃ n:Nat,a=n:=⟨a.toNat,by omega⟩
  obtain⟨kn,rfl⟩:∃ n:Nat,k=n:=⟨k.toNat,by omega⟩
  obtain⟨pn,rfl⟩:∃ n:Nat,pl=n:=⟨pl.toNat,by omega⟩
  exact gK 5 dn sn tn un an kn pn (by decide) (by omega) (by omega) (by omega) (by omega) (by omega) (by omega) (by omega) w
 ·skip
  have hr:=jZ d s t u a k pl 1073741824 hd hs ht hu ha k0 k1
  rw[h] at hr
  simp[du] at hr
  obtain⟨dn,rfl⟩:∃ n:Nat,d=n:=⟨d.toNat,by omega⟩
  obtain⟨sn,rfl⟩:∃ n:Nat,s=n:=⟨s.toNat,by omega⟩
  obtain⟨tn,rfl⟩:∃ n:Nat,t=n:=⟨t.toNat,by omega⟩
  obtain⟨un,rfl⟩:∃ n:Nat,u=n:=⟨u.toNat,by omega⟩
  obtain⟨an,rfl⟩:∃ n:Nat,a=n:=⟨a.toNat,by omega⟩
  obtain⟨kn,rfl⟩:∃ n:Nat,k=n:=⟨k.toNat,by omega⟩
  obtain⟨pn,rfl⟩:∃ n:Nat,pl=n:=⟨pl.toNat,by omega⟩
  exact gK 6 dn sn tn un an kn pn (by decide) (by omega) (by omega) (by omega) (by omega) (by omega) (by omega) (by omega) w
 ·skip
  have hr:=lT d s t u a k pl 1073741824 hd hs ht hu ha k0 k1
  rw[h] at hr
  simp[du] at hr
  obtain⟨dn,rfl⟩:∃ n:Nat,d=n:=⟨d.toNat,by omega⟩
  obtain⟨sn,rfl⟩:∃ n:Nat,s=n:=⟨s.toNat,by omega⟩
  obtain⟨tn,rfl⟩:∃ n:Nat,t=n:=⟨t.toNat,by omega⟩
  obtain⟨un,rfl⟩:∃ n:Nat,u=n:=⟨u.toNat,by omega⟩
  obtain⟨an,rfl⟩:∃ n:Nat,a=n:=⟨a.toNat,by omega⟩
  obtain⟨kn,rfl⟩:∃ n:Nat,k=n:=⟨k.toNat,by omega⟩
  obtain⟨pn,rfl⟩:∃ n:Nat,pl=n:=⟨pl.toNat,by omega⟩
  exact gK 7 dn sn tn un an kn pn (by decide) (by omega) (by omega) (by omega) (by omega) (by omega) (by omega) (by omega) w
 ·skip
  have hr:=lS d s t u a k pl 1073741824 hd hs ht hu ha k0 k1
  rw[h] at hr
  simp[du] at hr
  obtain⟨dn,rfl⟩:∃ n:Nat,d=n:=⟨d.toNat,by omega⟩
  obtain⟨sn,rfl⟩:∃ n:Nat,s=n:=⟨s.toNat,by omega⟩
  obtain⟨tn,rfl⟩:∃ n:Nat,t=n:=⟨t.toNat,by omega⟩
  obtain⟨un,rfl⟩:∃ n:Nat,u=n:=⟨u.toNat,by omega⟩
  obtain⟨an,rfl⟩:∃ n:Nat,a=n:=⟨a.toNat,by omega⟩
  obtain⟨kn,rfl⟩:∃ n:Nat,k=n:=⟨k.toNat,by omega⟩
  obtain⟨pn,rfl⟩:∃ n:Nat,pl=n:=⟨pl.toNat,by omega⟩
  exact gK 8 dn sn tn un an kn pn (by decide) (by omega) (by omega) (by omega) (by omega) (by omega) (by omega) (by omega) w
 ·skip
  have hr:=lR d s t u a k pl 1073741824 hd hs ht hu ha k0 k1
  rw[h] at hr
  simp[du] at hr
  obtain⟨dn,rfl⟩:∃ n:Nat,d=n:=⟨d.toNat,by omega⟩
  obtain⟨sn,rfl⟩:∃ n:Nat,s=n:=⟨s.toNat,by omega⟩
  obtain⟨tn,rfl⟩:∃ n:Nat,t=n:=⟨t.toNat,by omega⟩
  obtain⟨un,rfl⟩:∃ n:Nat,u=n:=⟨u.toNat,by omega⟩
  obtain⟨an,rfl⟩:∃ n:Nat,a=n:=⟨a.toNat,by omega⟩
  obtain⟨kn,rfl⟩:∃ n:Nat,k=n:=⟨k.toNat,by omega⟩
  obtain⟨pn,rfl⟩:∃ n:Nat,pl=n:=⟨pl.toNat,by omega⟩
  exact gK 9 dn sn tn un an kn pn (by decide) (by omega) (by omega) (by omega) (by omega) (by omega) (by omega) (by omega) w
 ·skip
  have hr:=jR d s t u a k pl 1073741824 hd hs ht hu ha k0 k1
  rw[h] at hr
  simp[du] at hr
  obtain⟨dn,rfl⟩:∃ n:Nat,d=n:=⟨d.toNat,by omega⟩
  obtain⟨sn,rfl⟩:∃ n:Nat,s=n:=⟨s.toNat,by omega⟩
  obtain⟨tn,rfl⟩:∃ n:Nat,t=n:=⟨t.toNat,by omega⟩
  obtain⟨un,rfl⟩:∃ n:Nat,u=n:=⟨u.toNat,by omega⟩
  obtain⟨an,rfl⟩:∃ n:Nat,a=n:=⟨a.toNat,by omega⟩
  obtain⟨kn,rfl⟩:∃ n:Nat,k=n:=⟨k.toNat,by omega⟩
  obtain⟨pn,rfl⟩:∃ n:Nat,pl=n:=⟨pl.toNat,by omega⟩
  exact gK 10 dn sn tn un an kn pn (by decide) (by omega) (by omega) (by omega) (by omega) (by omega) (by omega) (by omega) w
 ·skip
  have hr:=jQ d s t u a k pl 1073741824 hd hs ht hu ha k0 k1
  rw[h] at hr
  simp[du] at hr
  obtain⟨dn,rfl⟩:∃ n:Nat,d=n:=⟨d.toNat,by omega⟩
  obtain⟨sn,rfl⟩:∃ n:Nat,s=n:=⟨s.toNat,by omega⟩
  obtain⟨tn,rfl⟩:∃ n:Nat,t=n:=⟨t.toNat,by omega⟩
  obtain⟨un,rfl⟩:∃ n:Nat,u=n:=⟨u.toNat,by omega⟩
  obtain⟨an,rfl⟩:∃ n:Nat,a=n:=⟨a.toNat,by omega⟩
  obtain⟨kn,rfl⟩:∃ n:Nat,k=n:=⟨k.toNat,by omega⟩
  obtain⟨pn,rfl⟩:∃ n:Nat,pl=n:=⟨pl.toNat,by omega⟩
  exact gJ 11 dn sn tn un an kn pn (by decide) (by omega) (by omega) (by omega) (by omega) (by omega) (by omega) (by omega) w
 ·skip
  have hr:=iJ d s t u a k pl 1073741824 hd hs ht hu ha k0 k1
  rw[h] at hr
  simp[du] at hr
  obtain⟨dn,rfl⟩:∃ n:Nat,d=n:=⟨d.toNat,by omega⟩
  obtain⟨sn,rfl⟩:∃ n:Nat,s=n:=⟨s.toNat,by omega⟩
  obtain⟨tn,rfl⟩:∃ n:Nat,t=n:=⟨t.toNat,by omega⟩
  obtain⟨un,rfl⟩:∃ n:Nat,u=n:=⟨u.toNat,by omega⟩
  obtain⟨an,rfl⟩:∃ n:Nat,a=n:=⟨a.toNat,by omega⟩
  obtain⟨kn,rfl⟩:∃ n:Nat,k=n:=⟨k.toNat,by omega⟩
  obtain⟨pn,rfl⟩:∃ n:Nat,pl=n:=⟨pl.toNat,by omega⟩
  exact gJ 12 dn sn tn un an kn pn (by decide) (by omega) (by omega) (by omega) (by omega) (by omega) (by omega) (by omega) w
 ·skip
  have hr:=iI d s t u a k pl 1073741824 hd hs ht hu ha k0 k1
  rw[h] at hr
  simp[du] at hr
  obtain⟨dn,rfl⟩:∃ n:Nat,d=n:=⟨d.toNat,by omega⟩
  obtain⟨sn,rfl⟩:∃ n:Nat,s=n:=⟨s.toNat,by omega⟩
  obtain⟨tn,rfl⟩:∃ n:Nat,t=n:=⟨t.toNat,by omega⟩
  obtain⟨un,rfl⟩:∃ n:Nat,u=n:=⟨u.toNat,by omega⟩
  obtain⟨an,rfl⟩:∃ n:Nat,a=n:=⟨a.toNat,by omega⟩
  obtain⟨kn,rfl⟩:∃ n:Nat,k=n:=⟨k.toNat,by omega⟩
  obtain⟨pn,rfl⟩:∃ n:Nat,pl=n:=⟨pl.toNat,by omega⟩
  exact gJ 13 dn sn tn un an kn pn (by decide) (by omega) (by omega) (by omega) (by omega) (by omega) (by omega) (by omega) w
 ·skip
  have hr:=jP d s t u a k pl 1073741824 hd hs ht hu ha k0 k1
  rw[h] at hr
  simp[du] at hr
  obtain⟨dn,rfl⟩:∃ n:Nat,d=n:=⟨d.toNat,by omega⟩
  obtain⟨sn,rfl⟩:∃ n:Nat,s=n:=⟨s.toNat,by omega⟩
  obtain⟨tn,rfl⟩:∃ n:Nat,t=n:=⟨t.toNat,by omega⟩
  obtain⟨un,rfl⟩:∃ n:Nat,u=n:=⟨u.toNat,by omega⟩
  obtain⟨an,rfl⟩:∃ n:Nat,a=n:=⟨a.toNat,by omega⟩
  obtain⟨kn,rfl⟩:∃ n:Nat,k=n:=⟨k.toNat,by omega⟩
  obtain⟨pn,rfl⟩:∃ n:Nat,pl=n:=⟨pl.toNat,by omega⟩
  exact gJ 16 dn sn tn un an kn pn (by decide) (by omega) (by omega) (by omega) (by omega) (by omega) (by omega) (by omega) w
 ·skip
  have hr:=jO d s t u a k pl 1073741824 hd hs ht hu ha k0 k1
  rw[h] at hr
  simp[du] at hr
  obtain⟨dn,rfl⟩:∃ n:Nat,d=n:=⟨d.toNat,by omega⟩
  obtain⟨sn,rfl⟩:∃ n:Nat,s=n:=⟨s.toNat,by omega⟩
  obtain⟨tn,rfl⟩:∃ n:Nat,t=n:=⟨t.toNat,by omega⟩
  obtain⟨un,rfl⟩:∃ n:Nat,u=n:=⟨u.toNat,by omega⟩
  obtain⟨an,rfl⟩:∃ n:Nat,a=n:=⟨a.toNat,by omega⟩
  obtain⟨kn,rfl⟩:∃ n:Nat,k=n:=⟨k.toNat,by omega⟩
  obtain⟨pn,rfl⟩:∃ n:Nat,pl=n:=⟨pl.toNat,by omega⟩
  exact gJ 17 dn sn tn un an kn pn (by decide) (by omega) (by omega) (by omega) (by omega) (by omega) (by omega) (by omega) w
 ·skip
  have hr:=jN d s t u a k pl 1073741824 hd hs ht hu ha k0 k1
  rw[h] at hr
  simp[du] at hr
  obtain⟨dn,rfl⟩:∃ n:Nat,d=n:=⟨d.toNat,by omega⟩
  obtain⟨sn,rfl⟩:∃ n:Nat,s=n:=⟨s.toNat,by omega⟩
  obtain⟨tn,rfl⟩:∃ n:Nat,t=n:=⟨t.toNat,by omega⟩
  obtain⟨un,rfl⟩:∃ n:Nat,u=n:=⟨u.toNat,by omega⟩
  obtain⟨an,rfl⟩:∃ n:Nat,a=n:=⟨a.toNat,by omega⟩
  obtain⟨kn,rfl⟩:∃ n:Nat,k=n:=⟨k.toNat,by omega⟩
  obtain⟨pn,rfl⟩:∃ n:Nat,pl=n:=⟨pl.toNat,by omega⟩
  exact gJ 18 dn sn tn un an kn pn (by decide) (by omega) (by omega) (by omega) (by omega) (by omega) (by omega) (by omega) w
 ·skip
  have hr:=jM d s t u a k pl 1073741824 hd hs ht hu ha k0 k1
  rw[h] at hr
  simp[du] at hr
  obtain⟨dn,rfl⟩:∃ n:Nat,d=n:=⟨d.toNat,by omega⟩
  obtain⟨sn,rfl⟩:∃ n:Nat,s=n:=⟨s.toNat,by omega⟩
  obtain⟨tn,rfl⟩:∃ n:Nat,t=n:=⟨t.toNat,by omega⟩
  obtain⟨un,rfl⟩:∃ n:Nat,u=n:=⟨u.toNat,by omega⟩
  obtain⟨an,rfl⟩:∃ n:Nat,a=n:=⟨a.toNat,by omega⟩
  obtain⟨kn,rfl⟩:∃ n:Nat,k=n:=⟨k.toNat,by omega⟩
  obtain⟨pn,rfl⟩:∃ n:Nat,pl=n:=⟨pl.toNat,by omega⟩
  exact gJ 19 dn sn tn un an kn pn (by decide) (by omega) (by omega) (by omega) (by omega) (by omega) (by omega) (by omega) w
 ·skip
  have hr:=jL d s t u a k pl 1073741824 hd hs ht hu ha k0 k1
  rw[h] at hr
  simp[du] at hr
  obtain⟨dn,rfl⟩:∃ n:Nat,d=n:=⟨d.toNat,by omega⟩
  obtain⟨sn,rfl⟩:∃ n:Nat,s=n:=⟨s.toNat,by omega⟩
  obtain⟨tn,rfl⟩:∃ n:Nat,t=n:=⟨t.toNat,by omega⟩
  obtain⟨un,rfl⟩:∃ n:Nat,u=n:=⟨u.toNat,by omega⟩
  obtain⟨an,rfl⟩:∃ n:Nat,a=n:=⟨a.toNat,by omega⟩
  obtain⟨kn,rfl⟩:∃ n:Nat,k=n:=⟨k.toNat,by omega⟩
  obtain⟨pn,rfl⟩:∃ n:Nat,pl=n:=⟨pl.toNat,by omega⟩
  exact gJ 20 dn sn tn un an kn pn (by decide) (by omega) (by omega) (by omega) (by omega) (by omega) (by omega) (by omega) w
 ·skip
  have hr:=gR d s t u a k pl 1073741824 hd hs ht hu ha k0 k1
  rw[h] at hr
  simp[du] at hr
  obtain⟨dn,rfl⟩:∃ n:Nat,d=n:=⟨d.toNat,by omega⟩
  obtain⟨sn,rfl⟩:∃ n:Nat,s=n:=⟨s.toNat,by omega⟩
  obtain⟨tn,rfl⟩:∃ n:Nat,t=n:=⟨t.toNat,by omega⟩
  obtain⟨un,rfl⟩:∃ n:Nat,u=n:=⟨u.toNat,by omega⟩
  obtain⟨an,rfl⟩:∃ n:Nat,a=n:=⟨a.toNat,by omega⟩
  obtain⟨kn,rfl⟩:∃ n:Nat,k=n:=⟨k.toNat,by omega⟩
  by_cases hm:pl=-1
  ·subst hm
   by_cases hk:kn=0
   ·subst hk;exact sm dn sn tn un an 0 (by omega) (by omega) (by omega) (by omega) (by omega) (by omega) w
   ·obtain rfl:kn=1:=by omega
    exact sg dn sn tn un an 0 (by omega) (by omega) (by omega) (by omega) (by omega) (by omega) w
  ·obtain⟨pn,rfl⟩:∃ n:Nat,pl=n:=⟨pl.toNat,by omega⟩
   by_cases hk:kn=0
   ·subst hk;exact sj dn sn tn un an pn (by omega) (by omega) (by omega) (by omega) (by omega) (by omega) w
   ·obtain rfl:kn=1:=by omega
    exact sf dn sn tn un an pn (by omega) (by omega) (by omega) (by omega) (by omega) (by omega) w
 ·skip
  have hr:=jK d s t u a k pl 1073741824 hd hs ht hu ha k0 k1
  rw[h] at hr
  simp[du] at hr
  obtain⟨dn,rfl⟩:∃ n:Nat,d=n:=⟨d.toNat,by omega⟩
  obtain⟨sn,rfl⟩:∃ n:Nat,s=n:=⟨s.toNat,by omega⟩
  obtain⟨tn,rfl⟩:∃ n:Nat,t=n:=⟨t.toNat,by omega⟩
  obtain⟨un,rfl⟩:∃ n:Nat,u=n:=⟨u.toNat,by omega⟩
  obtain⟨an,rfl⟩:∃ n:Nat,a=n:=⟨a.toNat,by omega⟩
  obtain⟨kn,rfl⟩:∃ n:Nat,k=n:=⟨k.toNat,by omega⟩
  obtain⟨pn,rfl⟩:∃ n:Nat,pl=n:=⟨pl.toNat,by omega⟩
  exact gJ 22 dn sn tn un an kn pn (by decide) (by omega) (by omega) (by omega) (by omega) (by omega) (by omega) (by omega) w
 ·skip
  have hr:=jJ d s t u a k pl 1073741824 hd hs ht hu ha k0 k1
  rw[h] at hr
  simp[du] at hr
  obtain⟨dn,rfl⟩:∃ n:Nat,d=n:=⟨d.toNat,by omega⟩
  obtain⟨sn,rfl⟩:∃ n:Nat,s=n:=⟨s.toNat,by omega⟩
  obtain⟨tn,rfl⟩:∃ n:Nat,t=n:=⟨t.toNat,by omega⟩
  obtain⟨un,rfl⟩:∃ n:Nat,u=n:=⟨u.toNat,by omega⟩
  obtain⟨an,rfl⟩:∃ n:Nat,a=n:=⟨a.toNat,by omega⟩
  obtain⟨kn,rfl⟩:∃ n:Nat,k=n:=⟨k.toNat,by omega⟩
  obtain⟨pn,rfl⟩:∃ n:Nat,pl=n:=⟨pl.toNat,by omega⟩
  exact gJ 23 dn sn tn un an kn pn (by decide) (by omega) (by omega) (by omega) (by omega) (by omega) (by omega) (by omega) w
 ·exfalso
  unfold au at h
  simp only[(dA hn).1] at h
  cases h
