import Derived.Test.YtieiifdhdjhnoaaGreatDoorQInstV
import Derived.Test.YtieiifdhdjhnoaaGreatDoorQMem
import Derived.Deep.Cut
set_option linter.unusedVariables false
set_option maxHeartbeats 8000000
set_option maxRecDepth 100000
open Go.Value renaming int->I
open Go.IntKind renaming i64->Q
open Go.Lib renaming hid->N
open Go.RowKit.Below renaming refl->O
open Nat renaming le_refl->Z,le_of_lt->V
namespace Go.Proofs.YtieiifdhdjhnoaaGreatDoor
open Go.ChangeShapes Go.WideShapes Go.ChangeAt Go.RowKit
theorem gW (op:Int)(dn sn tn un an kn pn:Nat)(hop:op=1\/op=2\/op=3\/op=4\/op=5\/op=6\/op=7\/op=8\/op=9\/op=10)(hd:dn<5000000000)(hs:sn<5000000000)(ht:tn<5000000000)(hu:un<5000000000)(ha:an<5000000000)(hk:kn<4294967296)(hp:pn<5000000000)(w:World):
 Calls Tryz.prog 145 #[iv ⟨op,dn,sn,tn,un,an,kn,pn⟩] w fun e w'=>e=.returned (bs (ah ⟨op,dn,sn,tn,un,an,kn,pn⟩))/\Below w.heap.size w w':=by
 have HRd:=N (fun W=>rR dn W hd)
 have HRs:=N (fun W=>rR sn W hs)
 have HRt:=N (fun W=>rR tn W ht)
 have HRu:=N (fun W=>rR un W hu)
 have HDk:=N (fun W=>jQ kn W (by omega))
 have HDa:=N (fun W=>jQ an W ha)
 have HDp:=N (fun W=>jQ pn W hp)
 have HN:=N (fun W=>fq op W)
 have lnm:(bE op).length<=40:=Nat.le_trans (kc op) (by decide)
 have lRD:=cY dn hd
 have lRS:=cY sn hs
 have lRT:=cY tn ht
 have lRU:=cY un hu
 have lDK:=cH kn (by omega)
 have lDA:=cH an ha
 have lDP:=cH pn hp
 generalize hRD:rL dn=RD at *
 generalize hRS:rL sn=RS at *
 generalize hRT:rL tn=RT at *
 generalize hRU:rL un=RU at *
 generalize hDK:Lib.decDigits kn=DK at *
 generalize hDA:Lib.decDigits an=DA at *
 generalize hDP:Lib.decDigits pn=DP at *
 generalize hnm:bE op=nm at *
 generalize htx:ah ⟨op,dn,sn,tn,un,an,kn,pn⟩=tx
 have HRD:=N hRD.symm
 have HRS:=N hRS.symm
 have HRT:=N hRT.symm
 have HRU:=N hRU.symm
 have HDK:=N hDK.symm
 have HDA:=N hDA.symm
 have HDP:=N hDP.symm
 have HNM:=N hnm.symm
 have HT:=N htx.symm
 clear hRD hRS hRT hRU hDK hDA hDP hnm htx
 have lKL:(32 :: DK).length<=40:=by simp;omega
 have lAL:(32 :: DA).length<=40:=by simp;omega
 have lPL:(32 :: DP).length<=40:=by simp;omega
 generalize hKL:32 :: DK=KL at *
 generalize hAL:32 :: DA=AL at *
 generalize hPL:32 :: DP=PL at *
 have ck:(⟨#[32]⟩:ByteArray)++⟨DK.toArray⟩=⟨KL.toArray⟩:=by rw[<-hKL];exact cZ [32] DK
 have ca:(⟨#[32]⟩:ByteArray)++⟨DA.toArray⟩=⟨AL.toArray⟩:=by rw[<-hAL];exact cZ [32] DA
 have cp:(⟨#[32]⟩:ByteArray)++⟨DP.toArray⟩=⟨PL.toArray⟩:=by rw[<-hPL];exact cZ [32] DP
 have HKL:=N hKL.symm
 have HAL:=N hAL.symm
 have HPL:=N hPL.symm
 clear hKL hAL hPL
 have sk:¬ 9223372036854775807<1+DK.length:=by omega
 have sa:¬ 9223372036854775807<1+DA.length:=by omega
 have sp:¬ 9223372036854775807<1+DP.length:=by omega
 have hk0:(0:Int)<=(kn:Int):=by omega
 have hk1:(kn:Int)<4294967296:=by omega
 have hp0:(0:Int)<=(pn:Int):=by omega
 unfold iv
 go_enter Tryz.func145,Tryz.ntmps145
 go_wp2
 generalize hx0:w.alloc (.cells #[I Q op,I Q (dn:Int),I Q (sn:Int),I Q (tn:Int),I Q (un:Int),I Q (an:Int),I .u32 (kn:Int),I Q (pn:Int)] 123)=x0
 have hJ:Jb x0 w.heap.size ⟨op,dn,sn,tn,un,an,kn,pn⟩:=by rw[<-hx0];exact Jb.made w _ _ _ _ _ _ _ _
 have hb:Below w.heap.size w x0:=by rw[<-hx0];exact(O _ _).alloc (Z _) _
 have hlt:w.heap.size<x0.heap.size:=Bk.lt hJ
 clear hx0
 obtain⟨g0,g1,g2,g3,g4,g5,g6,g7⟩:=hJ.zG
 simp only at g0 g1 g2 g3 g4 g5 g6 g7
 refine ap (by kernel_rfl) (by kernel_rfl) ?_
 repeat (go_big_quiet_step (first | (go_at_call 165;with_reducible exact ao (HDk.out _)) | (go_at_call 165;with_reducible exact ao (HDa.out _))))
 refine wpQuiet_nil ?_
 rintro x ⟨⟨_,hx⟩,rfl⟩
 replace hb:=hb.trans (hx.mono (V hlt))
 replace hJ:=hJ.below hx
 replace hlt:w.heap.size<x.heap.size:=Bk.lt hJ
 clear g0 g1 g2 g3 g4 g5 g6 g7 hx ck ca sk sa
 obtain⟨c0,-,-,-,-,-,-,c7⟩:=hJ.cells
 simp only at c0 c7
 go_wp2_with fail
 refine(HDp.out _).mono ?_
 rintro e x1 ⟨rfl,hx⟩
 replace hb:=hb.trans (hx.mono (V hlt))
 replace hJ:=hJ.below hx
 replace hlt:w.heap.size<x1.heap.size:=Bk.lt hJ
 clear hx c0 c7
 obtain⟨c0,-⟩:=hJ.cells
 simp only at c0
 go_wp2_with fail
 refine(HN.out _).mono ?_
 rintro e x2 ⟨rfl,hx⟩
 replace hb:=hb.trans (hx.mono (V hlt))
 replace hJ:=hJ.below hx
 replace hlt:w.heap.size<x2.heap.size:=Bk.lt hJ
 clear hx c0 cp sp
 obtain⟨c0,c1,c2,c3,c4,c5,c6,c7⟩:=hJ.cells
 obtain⟨g0,g1,g2,g3,g4,g5,g6,g7⟩:=hJ.zG
 simp only at c0 c1 c2 c3 c4 c5 c6 c7 g0 g1 g2 g3 g4 g5 g6 g7
 unfold bs
 go_upto_region 6 with (fail)
 rcases hop with rfl|rfl|rfl|rfl|rfl|rfl|rfl|rfl|rfl|rfl
 ·skip
  obtain⟨Z1,hz1,cc1,ss1,ll1⟩:=bM RD KL 40 40 lRD lKL
  have HZ1:=N hz1
  clear hz1
  obtain⟨Z2,hz2,cc2,ss2,ll2⟩:=bM nm Z1 40 80 lnm ll1
  have HZ2:=N hz2
  clear hz2
  go_wp2_with (first | (go_at_call 166;(with_reducible refine(HRd.out _).mono ?_);rintro e y ⟨rfl,hy⟩) | (go_at_call 166;(with_reducible refine(HRs.out _).mono ?_);rintro e y ⟨rfl,hy⟩))
  go_ret
  refine⟨bW ?_,hb.trans (hy.mono (V hlt))⟩
  rw[HZ2.out,HZ1.out,HT.out,HNM.out,HRD.out,HKL.out,HDK.out]
  exact(FF dn sn tn un an kn pn).symm
 ·skip
  obtain⟨Z1,hz1,cc1,ss1,ll1⟩:=bM RD RS 40 40 lRD lRS
  have HZ1:=N hz1
  clear hz1
  obtain⟨Z2,hz2,cc2,ss2,ll2⟩:=bM nm Z1 40 80 lnm ll1
  have HZ2:=N hz2
  clear hz2
  go_wp2
  refine ap (by kernel_rfl) (by kernel_rfl) ?_
  repeat (go_big_quiet_step (first | (go_at_call 166;with_reducible exact ao (HRd.out _)) | (go_at_call 166;with_reducible exact ao (HRs.out _)) | (go_at_call 166;with_reducible exact ao (HRt.out _)) | (go_at_call 166;with_reducible exact ao (HRu.out _))))
  refine wpQuiet_nil ?_
  rintro y ⟨⟨_,hy⟩,rfl⟩
  go_wp2
  go_ret
  refine⟨bW ?_,hb.trans (hy.mono (V hlt))⟩
  rw[HZ2.out,HZ1.out,HT.out,HNM.out,HRD.out,HRS.out]
  exact(FE dn sn tn un an kn pn).symm
 ·skip
  obtain⟨Z1,hz1,cc1,ss1,ll1⟩:=bM RD RS 40 40 lRD lRS
  have HZ1:=N hz1
  clear hz1
  obtain⟨Z2,hz2,cc2,ss2,ll2⟩:=bM Z1 KL 80 40 ll1 lKL
  have HZ2:=N hz2
  clear hz2
  obtain⟨Z3,hz3,cc3,ss3,ll3⟩:=bM nm Z2 40 120 lnm ll2
  have HZ3:=N hz3
  clear hz3
  go_wp2
  refine ap (by kernel_rfl) (by kernel_rfl) ?_
  repeat (go_big_quiet_step (first | (go_at_call 166;with_reducible exact ao (HRd.out _)) | (go_at_call 166;with_reducible exact ao (HRs.out _)) | (go_at_call 166;with_reducible exact ao (HRt.out _)) | (go_at_call 166;with_reducible exact ao (HRu.out _))))
  refine wpQuiet_nil ?_
  rintro y ⟨⟨_,hy⟩,rfl⟩
  go_wp2
  go_ret
  refine⟨bW ?_,hb.trans (hy.mono (V hlt))⟩
  rw[HZ3.out,HZ2.out,HZ1.out,HT.out,HNM.out,HRD.out,HRS.out,HKL.out,HDK.out]
  exact(FD dn sn tn un an kn pn).symm
 ·skip
  obtain⟨Z1,hz1,cc1,ss1,ll1⟩:=bM RD RS 40 40 lRD lRS
  have HZ1:=N hz1
  clear hz1
  obtain⟨Z2,hz2,cc2,ss2,ll2⟩:=bM Z1 KL 80 40 ll1 lKL
  have HZ2:=N hz2
  clear hz2
  obtain⟨Z3,hz3,cc3,ss3,ll3⟩:=bM nm Z2 40 120 lnm ll2
  have HZ3:=N hz3
  clear hz3
  go_wp2
  refine ap (by kernel_rfl) (by kernel_rfl) ?_
  repeat (go_big_quiet_step (first | (go_at_call 166;with_reducible exact ao (HRd.out _)) | (go_at_call 166;with_reducible exact ao (HRs.out _)) | (go_at_call 166;with_reducible exact ao (HRt.out _)) | (go_at_call 166;with_reducible exact ao (HRu.out _))))
  refine wpQuiet_nil ?_
  rintro y ⟨⟨_,hy⟩,rfl⟩
  go_wp2
  go_ret
  refine⟨bW ?_,hb.trans (hy.mono (V hlt))⟩
  rw[HZ3.out,HZ2.out,HZ1.out,HT.out,HNM.out,HRD.out,HRS.out,HKL.out,HDK.out]
  exact(FC dn sn tn un an kn pn).symm
 ·skip
  obtain⟨Z1,hz1,cc1,ss1,ll1⟩:=bM RD RS 40 40 lRD lRS
  have HZ1:=N hz1
  clear hz1
  obtain⟨Z2,hz2,cc2,ss2,ll2⟩:=bM Z1 KL 80 40 ll1 lKL
  have HZ2:=N hz2
  clear hz2
  obtain⟨Z3,hz3,cc3,ss3,ll3⟩:=bM nm Z2 40 120 lnm ll2
  have HZ3:=N hz3
  clear hz3
  go_wp2
  refine ap (by kernel_rfl) (by kernel_rfl) ?_
  repeat (go_big_quiet_step (first | (go_at_call 166;with_reducible exact ao (HRd.out _)) | (go_at_call 166;with_reducible exact ao (HRs.out _)) | (go_at_call 166;with_reducible exact ao (HRt.out _)) | (go_at_call 166;with_reducible exact ao (HRu.out _))))
  refine wpQuiet_nil ?_
  rintro y ⟨⟨_,hy⟩,rfl⟩
  go_wp2
  go_ret
  refine⟨bW ?_,hb.trans (hy.mono (V hlt))⟩
  rw[HZ3.out,HZ2.out,HZ1.out,HT.out,HNM.out,HRD.out,HRS.out,HKL.out,HDK.out]
  exact(FB dn sn tn un an kn pn).symm
 ·skip
  obtain⟨Z1,hz1,cc1,ss1,ll1⟩:=bM RD RS 40 40 lRD lRS
  have HZ1:=N hz1
  clear hz1
  obtain⟨Z2,hz2,cc2,ss2,ll2⟩:=bM Z1 KL 80 40 ll1 lKL
  have HZ2:=N hz2
  clear hz2
  obtain⟨Z3,hz3,cc3,ss3,ll3⟩:=bM nm Z2 40 120 lnm ll2
  have HZ3:=N hz3
  clear hz3
  go_wp2
  refine ap (by kernel_rfl) (by kernel_rfl) ?_
  repeat (go_big_quiet_step (first | (go_at_call 166;with_reducible exact ao (HRd.out _)) | (go_at_call 166;with_reducible exact ao (HRs.out _)) | (go_at_call 166;with_reducible exact ao (HRt.out _)) | (go_at_call 166;with_reducible exact ao (HRu.out _))))
  refine wpQuiet_nil ?_
  rintro y ⟨⟨_,hy⟩,rfl⟩
  go_wp2
  go_ret
  refine⟨bW ?_,hb.trans (hy.mono (V hlt))⟩
  rw[HZ3.out,HZ2.out,HZ1.out,HT.out,HNM.out,HRD.out,HRS.out,HKL.out,HDK.out]
  exact(FA dn sn tn un an kn pn).symm
 ·skip
  obtain⟨Z1,hz1,cc1,ss1,ll1⟩:=bM RD RS 40 40 lRD lRS
  have HZ1:=N hz1
  clear hz1
  obtain⟨Z2,hz2,cc2,ss2,ll2⟩:=bM Z1 RT 80 40 ll1 lRT
  have HZ2:=N hz2
  clear hz2
  obtain⟨Z3,hz3,cc3,ss3,ll3⟩:=bM nm Z2 40 120 lnm ll2
  have HZ3:=N hz3
  clear hz3
  go_wp2
  refine ap (by kernel_rfl) (by kernel_rfl) ?_
  repeat (go_big_quiet_step (first | (go_at_call 166;with_reducible exact ao (HRd.out _)) | (go_at_call 166;with_reducible exact ao (HRs.out _)) | (go_at_call 166;with_reducible exact ao (HRt.out _)) | (go_at_call 166;with_reducible exact ao (HRu.out _))))
  refine wpQuiet_nil ?_
  rintro y ⟨⟨_,hy⟩,rfl⟩
  go_wp2
  go_ret
  refine⟨bW ?_,hb.trans (hy.mono (V hlt))⟩
  rw[HZ3.out,HZ2.out,HZ1.out,HT.out,HNM.out,HRD.out,HRS.out,HRT.out]
  exact(Fz dn sn tn un an kn pn).symm
 ·skip
  obtain⟨Z1,hz1,cc1,ss1,ll1⟩:=bM RS RT 40 40 lRS lRT
  have HZ1:=N hz1
  clear hz1
  obtain⟨Z2,hz2,cc2,ss2,ll2⟩:=bM Z1 PL 80 40 ll1 lPL
  have HZ2:=N hz2
  clear hz2
  obtain⟨Z3,hz3,cc3,ss3,ll3⟩:=bM nm Z2 40 120 lnm ll2
  have HZ3:=N hz3
  clear hz3
  go_wp2
  refine ap (by kernel_rfl) (by kernel_rfl) ?_
  repeat (go_big_quiet_step (first | (go_at_call 166;with_reducible exact ao (HRd.out _)) | (go_at_call 166;with_reducible exact ao (HRs.out _)) | (go_at_call 166;with_reducible exact ao (HRt.out _)) | (go_at_call 166;with_reducible exact ao (HRu.out _))))
  refine wpQuiet_nil ?_
  rintro y ⟨⟨_,hy⟩,rfl⟩
  go_wp2
  go_ret
  refine⟨bW ?_,hb.trans (hy.mono (V hlt))⟩
  rw[HZ3.out,HZ2.out,HZ1.out,HT.out,HNM.out,HRS.out,HRT.out,HPL.out,HDP.out]
  exact(Fy dn sn tn un an kn pn).symm
 ·skip
  obtain⟨Z1,hz1,cc1,ss1,ll1⟩:=bM RS RT 40 40 lRS lRT
  have HZ1:=N hz1
  clear hz1
  obtain⟨Z2,hz2,cc2,ss2,ll2⟩:=bM Z1 PL 80 40 ll1 lPL
  have HZ2:=N hz2
  clear hz2
  obtain⟨Z3,hz3,cc3,ss3,ll3⟩:=bM nm Z2 40 120 lnm ll2
  have HZ3:=N hz3
  clear hz3
  go_wp2
  refine ap (by kernel_rfl) (by kernel_rfl) ?_
  repeat (go_big_quiet_step (first | (go_at_call 166;with_reducible exact ao (HRd.out _)) | (go_at_call 166;with_reducible exact ao (HRs.out _)) | (go_at_call 166;with_reducible exact ao (HRt.out _)) | (go_at_call 166;with_reducible exact ao (HRu.out _))))
  refine wpQuiet_nil ?_
  rintro y ⟨⟨_,hy⟩,rfl⟩
  go_wp2
  go_ret
  refine⟨bW ?_,hb.trans (hy.mono (V hlt))⟩
  rw[HZ3.out,HZ2.out,HZ1.out,HT.out,HNM.out,HRS.out,HRT.out,HPL.out,HDP.out]
  exact(Fx dn sn tn un an kn pn).symm
 ·skip
  obtain⟨Z1,hz1,cc1,ss1,ll1⟩:=bM nm PL 40 40 lnm lPL
  have HZ1:=N hz1
  clear hz1
  go_wp2
  go_ret
  refine⟨bW ?_,hb⟩
  rw[HZ1.out,HT.out,HNM.out,HPL.out,HDP.out]
  exact(Eh dn sn tn un an kn pn).symm
theorem gV (op:Int)(dn sn tn un an kn pn:Nat)(hop:op=11\/op=22\/op=12\/op=13\/op=16\/op=17\/op=18\/op=19\/op=20\/op=23)(hd:dn<5000000000)(hs:sn<5000000000)(ht:tn<5000000000)(hu:un<5000000000)(ha:an<5000000000)(hk:kn<4294967296)(hp:pn<5000000000)(w:World):
 Calls Tryz.prog 145 #[iv ⟨op,dn,sn,tn,un,an,kn,pn⟩] w fun e w'=>e=.returned (bs (ah ⟨op,dn,sn,tn,un,an,kn,pn⟩))/\Below w.heap.size w w':=by
 have HRd:=N (fun W=>rR dn W hd)
 have HRs:=N (fun W=>rR sn W hs)
 have HRt:=N (fun W=>rR tn W ht)
 have HRu:=N (fun W=>rR un W hu)
 have HDk:=N (fun W=>jQ kn W (by omega))
 have HDa:=N (fun W=>jQ an W ha)
 have HDp:=N (fun W=>jQ pn W hp)
 have HN:=N (fun W=>fq op W)
 have lnm:(bE op).length<=40:=Nat.le_trans (kc op) (by decide)
 have lRD:=cY dn hd
 have lRS:=cY sn hs
 have lRT:=cY tn ht
 have lRU:=cY un hu
 have lDK:=cH kn (by omega)
 have lDA:=cH an ha
 have lDP:=cH pn hp
 generalize hRD:rL dn=RD at *
 generalize hRS:rL sn=RS at *
 generalize hRT:rL tn=RT at *
 generalize hRU:rL un=RU at *
 generalize hDK:Lib.decDigits kn=DK at *
 generalize hDA:Lib.decDigits an=DA at *
 generalize hDP:Lib.decDigits pn=DP at *
 generalize hnm:bE op=nm at *
 generalize htx:ah ⟨op,dn,sn,tn,un,an,kn,pn⟩=tx
 have HRD:=N hRD.symm
 have HRS:=N hRS.symm
 have HRT:=N hRT.symm
 have HRU:=N hRU.symm
 have HDK:=N hDK.symm
 have HDA:=N hDA.symm
 have HDP:=N hDP.symm
 have HNM:=N hnm.symm
 have HT:=N htx.symm
 clear hRD hRS hRT hRU hDK hDA hDP hnm htx
 have lKL:(32 :: DK).length<=40:=by simp;omega
 have lAL:(32 :: DA).length<=40:=by simp;omega
 have lPL:(32 :: DP).length<=40:=by simp;omega
 generalize hKL:32 :: DK=KL at *
 generalize hAL:32 :: DA=AL at *
 generalize hPL:32 :: DP=PL at *
 have ck:(⟨#[32]⟩:ByteArray)++⟨DK.toArray⟩=⟨KL.toArray⟩:=by rw[<-hKL];exact cZ [32] DK
 have ca:(⟨#[32]⟩:ByteArray)++⟨DA.toArray⟩=⟨AL.toArray⟩:=by rw[<-hAL];exact cZ [32] DA
 have cp:(⟨#[32]⟩:ByteArray)++⟨DP.toArray⟩=⟨PL.toArray⟩:=by rw[<-hPL];exact cZ [32] DP
 have HKL:=N hKL.symm
 have HAL:=N hAL.symm
 have HPL:=N hPL.symm
 clear hKL hAL hPL
 have sk:¬ 9223372036854775807<1+DK.length:=by omega
 have sa:¬ 9223372036854775807<1+DA.length:=by omega
 have sp:¬ 9223372036854775807<1+DP.length:=by omega
 have hk0:(0:Int)<=(kn:Int):=by omega
 have hk1:(kn:Int)<4294967296:=by omega
 have hp0:(0:Int)<=(pn:Int):=by omega
 unfold iv
 go_enter Tryz.func145,Tryz.ntmps145
 go_wp2
 generalize hx0:w.alloc (.cells #[I Q op,I Q (dn:Int),I Q (sn:Int),I Q (tn:Int),I Q (un:Int),I Q (an:Int),I .u32 (kn:Int),I Q (pn:Int)] 123)=x0
 have hJ:Jb x0 w.heap.size ⟨op,dn,sn,tn,un,an,kn,pn⟩:=by rw[<-hx0];exact Jb.made w _ _ _ _ _ _ _ _
 have hb:Below w.heap.size w x0:=by rw[<-hx0];exact(O _ _).alloc (Z _) _
 have hlt:w.heap.size<x0.heap.size:=Bk.lt hJ
 clear hx0
 obtain⟨g0,g1,g2,g3,g4,g5,g6,g7⟩:=hJ.zG
 simp only at g0 g1 g2 g3 g4 g5 g6 g7
 refine ap (by kernel_rfl) (by kernel_rfl) ?_
 repeat (go_big_quiet_step (first | (go_at_call 165;with_reducible exact ao (HDk.out _)) | (go_at_call 165;with_reducible exact ao (HDa.out _))))
 refine wpQuiet_nil ?_
 rintro x ⟨⟨_,hx⟩,rfl⟩
 replace hb:=hb.trans (hx.mono (V hlt))
 replace hJ:=hJ.below hx
 replace hlt:w.heap.size<x.heap.size:=Bk.lt hJ
 clear g0 g1 g2 g3 g4 g5 g6 g7 hx ck ca sk sa
 obtain⟨c0,-,-,-,-,-,-,c7⟩:=hJ.cells
 simp only at c0 c7
 go_wp2_with fail
 refine(HDp.out _).mono ?_
 rintro e x1 ⟨rfl,hx⟩
 replace hb:=hb.trans (hx.mono (V hlt))
 replace hJ:=hJ.below hx
 replace hlt:w.heap.size<x1.heap.size:=Bk.lt hJ
 clear hx c0 c7
 obtain⟨c0,-⟩:=hJ.cells
 simp only at c0
 go_wp2_with fail
 refine(HN.out _).mono ?_
 rintro e x2 ⟨rfl,hx⟩
 replace hb:=hb.trans (hx.mono (V hlt))
 replace hJ:=hJ.below hx
 replace hlt:w.heap.size<x2.heap.size:=Bk.lt hJ
 clear hx c0 cp sp
 obtain⟨c0,c1,c2,c3,c4,c5,c6,c7⟩:=hJ.cells
 obtain⟨g0,g1,g2,g3,g4,g5,g6,g7⟩:=hJ.zG
 simp only at c0 c1 c2 c3 c4 c5 c6 c7 g0 g1 g2 g3 g4 g5 g6 g7
 unfold bs
 go_upto_region 6 with (fail)
 rcases hop with rfl|rfl|rfl|rfl|rfl|rfl|rfl|rfl|rfl|rfl
 ·skip
  obtain⟨Z1,hz1,cc1,ss1,ll1⟩:=bM nm RD 40 40 lnm lRD
  have HZ1:=N hz1
  clear hz1
  go_wp2_with (first | (go_at_call 166;(with_reducible refine(HRd.out _).mono ?_);rintro e y ⟨rfl,hy⟩) | (go_at_call 166;(with_reducible refine(HRs.out _).mono ?_);rintro e y ⟨rfl,hy⟩))
  go_ret
  refine⟨bW ?_,hb.trans (hy.mono (V hlt))⟩
  rw[HZ1.out,HT.out,HNM.out,HRD.out]
  exact(Eg dn sn tn un an kn pn).symm
 ·skip
  obtain⟨Z1,hz1,cc1,ss1,ll1⟩:=bM nm RD 40 40 lnm lRD
  have HZ1:=N hz1
  clear hz1
  go_wp2_with (first | (go_at_call 166;(with_reducible refine(HRd.out _).mono ?_);rintro e y ⟨rfl,hy⟩) | (go_at_call 166;(with_reducible refine(HRs.out _).mono ?_);rintro e y ⟨rfl,hy⟩))
  go_ret
  refine⟨bW ?_,hb.trans (hy.mono (V hlt))⟩
  rw[HZ1.out,HT.out,HNM.out,HRD.out]
  exact(D8 dn sn tn un an kn pn).symm
 ·skip
  obtain⟨Z1,hz1,cc1,ss1,ll1⟩:=bM nm KL 40 40 lnm lKL
  have HZ1:=N hz1
  clear hz1
  go_wp2
  go_ret
  refine⟨bW ?_,hb⟩
  rw[HZ1.out,HT.out,HNM.out,HKL.out,HDK.out]
  exact(Ef dn sn tn un an kn pn).symm
 ·skip
  obtain⟨Z1,hz1,cc1,ss1,ll1⟩:=bM nm KL 40 40 lnm lKL
  have HZ1:=N hz1
  clear hz1
  go_wp2
  go_ret
  refine⟨bW ?_,hb⟩
  rw[HZ1.out,HT.out,HNM.out,HKL.out,HDK.out]
  exact(Ee dn sn tn un an kn pn).symm
 ·skip
  obtain⟨Z1,hz1,cc1,ss1,ll1⟩:=bM RD AL 40 40 lRD lAL
  have HZ1:=N hz1
  clear hz1
  obtain⟨Z2,hz2,cc2,ss2,ll2⟩:=bM Z1 RS 80 40 ll1 lRS
  have HZ2:=N hz2
  clear hz2
  obtain⟨Z3,hz3,cc3,ss3,ll3⟩:=bM nm Z2 40 120 lnm ll2
  have HZ3:=N hz3
  clear hz3
  go_wp2
  refine ap (by kernel_rfl) (by kernel_rfl) ?_
  repeat (go_big_quiet_step (first | (go_at_call 166;with_reducible exact ao (HRd.out _)) | (go_at_call 166;with_reducible exact ao (HRs.out _)) | (go_at_call 166;with_reducible exact ao (HRt.out _)) | (go_at_call 166;with_reducible exact ao (HRu.out _))))
  refine wpQuiet_nil ?_
  rintro y ⟨⟨_,hy⟩,rfl⟩
  go_wp2
  go_ret
  refine⟨bW ?_,hb.trans (hy.mono (V hlt))⟩
  rw[HZ3.out,HZ2.out,HZ1.out,HT.out,HNM.out,HRD.out,HAL.out,HDA.out,HRS.out]
  exact(Ed dn sn tn un an kn pn).symm
 ·skip
  obtain⟨Z1,hz1,cc1,ss1,ll1⟩:=bM AL RS 40 40 lAL lRS
  have HZ1:=N hz1
  clear hz1
  obtain⟨Z2,hz2,cc2,ss2,ll2⟩:=bM Z1 RT 80 40 ll1 lRT
  have HZ2:=N hz2
  clear hz2
  obtain⟨Z3,hz3,cc3,ss3,ll3⟩:=bM nm Z2 40 120 lnm ll2
  have HZ3:=N hz3
  clear hz3
  go_wp2
  refine ap (by kernel_rfl) (by kernel_rfl) ?_
  repeat (go_big_quiet_step (first | (go_at_call 166;with_reducible exact ao (HRd.out _)) | (go_at_call 166;with_reducible exact ao (HRs.out _)) | (go_at_call 166;with_reducible exact ao (HRt.out _)) | (go_at_call 166;with_reducible exact ao (HRu.out _))))
  refine wpQuiet_nil ?_
  rintro y ⟨⟨_,hy⟩,rfl⟩
  go_wp2
  go_ret
  refine⟨bW ?_,hb.trans (hy.mono (V hlt))⟩
  rw[HZ3.out,HZ2.out,HZ1.out,HT.out,HNM.out,HAL.out,HDA.out,HRS.out,HRT.out]
  exact(Ec dn sn tn un an kn pn).symm
 ·skip
  obtain⟨Z1,hz1,cc1,ss1,ll1⟩:=bM RD AL 40 40 lRD lAL
  have HZ1:=N hz1
  clear hz1
  obtain⟨Z2,hz2,cc2,ss2,ll2⟩:=bM Z1 RS 80 40 ll1 lRS
  have HZ2:=N hz2
  clear hz2
  obtain⟨Z3,hz3,cc3,ss3,ll3⟩:=bM Z2 RT 120 40 ll2 lRT
  have HZ3:=N hz3
  clear hz3
  obtain⟨Z4,hz4,cc4,ss4,ll4⟩:=bM nm Z3 40 160 lnm ll3
  have HZ4:=N hz4
  clear hz4
  go_wp2
  refine ap (by kernel_rfl) (by kernel_rfl) ?_
  repeat (go_big_quiet_step (first | (go_at_call 166;with_reducible exact ao (HRd.out _)) | (go_at_call 166;with_reducible exact ao (HRs.out _)) | (go_at_call 166;with_reducible exact ao (HRt.out _)) | (go_at_call 166;with_reducible exact ao (HRu.out _))))
  refine wpQuiet_nil ?_
  rintro y ⟨⟨_,hy⟩,rfl⟩
  go_wp2
  go_ret
  refine⟨bW ?_,hb.trans (hy.mono (V hlt))⟩
  rw[HZ4.out,HZ3.out,HZ2.out,HZ1.out,HT.out,HNM.out,HRD.out,HAL.out,HDA.out,HRS.out,HRT.out]
  exact(Eb dn sn tn un an kn pn).symm
 ·skip
  obtain⟨Z1,hz1,cc1,ss1,ll1⟩:=bM RD AL 40 40 lRD lAL
  have HZ1:=N hz1
  clear hz1
  obtain⟨Z2,hz2,cc2,ss2,ll2⟩:=bM Z1 RS 80 40 ll1 lRS
  have HZ2:=N hz2
  clear hz2
  obtain⟨Z3,hz3,cc3,ss3,ll3⟩:=bM Z2 RT 120 40 ll2 lRT
  have HZ3:=N hz3
  clear hz3
  obtain⟨Z4,hz4,cc4,ss4,ll4⟩:=bM Z3 RU 160 40 ll3 lRU
  have HZ4:=N hz4
  clear hz4
  obtain⟨Z5,hz5,cc5,ss5,ll5⟩:=bM nm Z4 40 200 lnm ll4
  have HZ5:=N hz5
  clear hz5
  go_wp2
  refine ap (by kernel_rfl) (by kernel_rfl) ?_
  repeat (go_big_quiet_step (first | (go_at_call 166;with_reducible exact ao (HRd.out _)) | (go_at_call 166;with_reducible exact ao (HRs.out _)) | (go_at_call 166;with_reducible exact ao (HRt.out _)) | (go_at_call 166;with_reducible exact ao (HRu.out _))))
  refine wpQuiet_nil ?_
  rintro y ⟨⟨_,hy⟩,rfl⟩
  go_wp2
  go_ret
  refine⟨bW ?_,hb.trans (hy.mono (V hlt))⟩
  rw[HZ5.out,HZ4.out,HZ3.out,HZ2.out,HZ1.out,HT.out,HNM.out,HRD.out,HAL.out,HDA.out,HRS.out,HRT.out,HRU.out]
  exact(Ea dn sn tn un an kn pn).symm
 ·skip
  obtain⟨Z1,hz1,cc1,ss1,ll1⟩:=bM RD AL 40 40 lRD lAL
  have HZ1:=N hz1
  clear hz1
  obtain⟨Z2,hz2,cc2,ss2,ll2⟩:=bM Z1 RS 80 40 ll1 lRS
  have HZ2:=N hz2
  clear hz2
  obtain⟨Z3,hz3,cc3,ss3,ll3⟩:=bM Z2 KL 120 40 ll2 lKL
  have HZ3:=N hz3
  clear hz3
  obtain⟨Z4,hz4,cc4,ss4,ll4⟩:=bM nm Z3 40 160 lnm ll3
  have HZ4:=N hz4
  clear hz4
  go_wp2
  refine ap (by kernel_rfl) (by kernel_rfl) ?_
  repeat (go_big_quiet_step (first | (go_at_call 166;with_reducible exact ao (HRd.out _)) | (go_at_call 166;with_reducible exact ao (HRs.out _)) | (go_at_call 166;with_reducible exact ao (HRt.out _)) | (go_at_call 166;with_reducible exact ao (HRu.out _))))
  refine wpQuiet_nil ?_
  rintro y ⟨⟨_,hy⟩,rfl⟩
  go_wp2
  go_ret
  refine⟨bW ?_,hb.trans (hy.mono (V hlt))⟩
  rw[HZ4.out,HZ3.out,HZ2.out,HZ1.out,HT.out,HNM.out,HRD.out,HAL.out,HDA.out,HRS.out,HKL.out,HDK.out]
  exact(D9 dn sn tn un an kn pn).symm
 ·skip
  obtain⟨Z1,hz1,cc1,ss1,ll1⟩:=bM nm RS 40 40 lnm lRS
  have HZ1:=N hz1
  clear hz1
  go_wp2_with (first | (go_at_call 166;(with_reducible refine(HRd.out _).mono ?_);rintro e y ⟨rfl,hy⟩) | (go_at_call 166;(with_reducible refine(HRs.out _).mono ?_);rintro e y ⟨rfl,hy⟩))
  go_ret
  refine⟨bW ?_,hb.trans (hy.mono (V hlt))⟩
  rw[HZ1.out,HT.out,HNM.out,HRS.out]
  exact(D7 dn sn tn un an kn pn).symm
theorem wU (dn sn tn un an pn:Nat):ah ⟨21,dn,sn,tn,un,an,0,pn⟩=bE 21++(rL dn++(32 :: Lib.decDigits an)++rL sn++[32,101,113]++rL tn)++([32,101,108,115,101]++(32 :: Lib.decDigits pn)):=by
 have e:¬ ((pn:Int)=-1):=by omega
 simp[ah,cP,az,aN,aW,rL,aB,e]
theorem wW (dn sn tn un an pn:Nat):ah ⟨21,dn,sn,tn,un,an,0,-1⟩=bE 21++(rL dn++(32 :: Lib.decDigits an)++rL sn++[32,101,113]++rL tn):=by
 simp[ah,cP,az,aN,aW,rL,aB]
theorem wS (dn sn tn un an pn:Nat):ah ⟨21,dn,sn,tn,un,an,1,pn⟩=bE 21++(rL dn++(32 :: Lib.decDigits an)++rL sn++[32,110,101]++rL tn)++([32,101,108,115,101]++(32 :: Lib.decDigits pn)):=by
 have e:¬ ((pn:Int)=-1):=by omega
 simp[ah,cP,az,aN,aW,rL,aB,e]
theorem wT (dn sn tn un an pn:Nat):ah ⟨21,dn,sn,tn,un,an,1,-1⟩=bE 21++(rL dn++(32 :: Lib.decDigits an)++rL sn++[32,110,101]++rL tn):=by
 simp[ah,cP,az,aN,aW,rL,aB]
theorem ur (dn sn tn un an pn:Nat)(hd:dn<5000000000)(hs:sn<5000000000)(ht:tn<5000000000)(hu:un<5000000000)(ha:an<5000000000)(hp:pn<5000000000)(w:World):
 Calls Tryz.prog 145 #[iv ⟨21,dn,sn,tn,un,an,0,pn⟩] w fun e w'=>e=.returned (bs (ah ⟨21,dn,sn,tn,un,an,0,pn⟩))/\Below w.heap.size w w':=by
 have HRd:=N (fun W=>rR dn W hd)
 have HRs:=N (fun W=>rR sn W hs)
 have HRt:=N (fun W=>rR tn W ht)
 have HRu:=N (fun W=>rR un W hu)
 have HDk:=N (fun W=>jQ 0 W (by decide))
 have HDa:=N (fun W=>jQ an W ha)
 have HDp:=N (fun W=>jQ pn W hp)
 have HN:=N (fun W=>fq 21 W)
 have lnm:(bE 21).length<=40:=Nat.le_trans (kc 21) (by decide)
 have lRD:=cY dn hd
 have lRS:=cY sn hs
 have lRT:=cY tn ht
 have lRU:=cY un hu
 have lDK:=cH 0 (by decide)
 have lDA:=cH an ha
 have lDP:=cH pn hp
 generalize hRD:rL dn=RD at *
 generalize hRS:rL sn=RS at *
 generalize hRT:rL tn=RT at *
 generalize hRU:rL un=RU at *
 generalize hDK:Lib.decDigits 0=DK at *
 generalize hDA:Lib.decDigits an=DA at *
 generalize hDP:Lib.decDigits pn=DP at *
 generalize hnm:bE 21=nm at *
 generalize htx:ah ⟨21,dn,sn,tn,un,an,0,pn⟩=tx
 have HRD:=N hRD.symm
 have HRS:=N hRS.symm
 have HRT:=N hRT.symm
 have HRU:=N hRU.symm
 have HDK:=N hDK.symm
 have HDA:=N hDA.symm
 have HDP:=N hDP.symm
 have HNM:=N hnm.symm
 have HT:=N htx.symm
 clear hRD hRS hRT hRU hDK hDA hDP hnm htx
 have lKL:(32 :: DK).length<=40:=by simp;omega
 have lAL:(32 :: DA).length<=40:=by simp;omega
 have lPL:(32 :: DP).length<=40:=by simp;omega
 generalize hKL:32 :: DK=KL at *
 generalize hAL:32 :: DA=AL at *
 generalize hPL:32 :: DP=PL at *
 have ck:(⟨#[32]⟩:ByteArray)++⟨DK.toArray⟩=⟨KL.toArray⟩:=by rw[<-hKL];exact cZ [32] DK
 have ca:(⟨#[32]⟩:ByteArray)++⟨DA.toArray⟩=⟨AL.toArray⟩:=by rw[<-hAL];exact cZ [32] DA
 have cp:(⟨#[32]⟩:ByteArray)++⟨DP.toArray⟩=⟨PL.toArray⟩:=by rw[<-hPL];exact cZ [32] DP
 have HKL:=N hKL.symm
 have HAL:=N hAL.symm
 have HPL:=N hPL.symm
 clear hKL hAL hPL
 have sk:¬ 9223372036854775807<1+DK.length:=by omega
 have sa:¬ 9223372036854775807<1+DA.length:=by omega
 have sp:¬ 9223372036854775807<1+DP.length:=by omega
 have hp0:(0:Int)<=(pn:Int):=by omega
 unfold iv
 go_enter Tryz.func145,Tryz.ntmps145
 go_wp2
 generalize hx0:w.alloc (.cells #[I Q 21,I Q (dn:Int),I Q (sn:Int),I Q (tn:Int),I Q (un:Int),I Q (an:Int),I .u32 0,I Q (pn:Int)] 123)=x0
 have hJ:Jb x0 w.heap.size ⟨21,dn,sn,tn,un,an,0,pn⟩:=by rw[<-hx0];exact Jb.made w _ _ _ _ _ _ _ _
 have hb:Below w.heap.size w x0:=by rw[<-hx0];exact(O _ _).alloc (Z _) _
 have hlt:w.heap.size<x0.heap.size:=Bk.lt hJ
 clear hx0
 obtain⟨g0,g1,g2,g3,g4,g5,g6,g7⟩:=hJ.zG
 simp only at g0 g1 g2 g3 g4 g5 g6 g7
 refine ap (by kernel_rfl) (by kernel_rfl) ?_
 repeat (go_big_quiet_step (first | (go_at_call 165;with_reducible exact ao (HDk.out _)) | (go_at_call 165;with_reducible exact ao (HDa.out _))))
 refine wpQuiet_nil ?_
 rintro x ⟨⟨_,hx⟩,rfl⟩
 replace hb:=hb.trans (hx.mono (V hlt))
 replace hJ:=hJ.below hx
 replace hlt:w.heap.size<x.heap.size:=Bk.lt hJ
 clear g0 g1 g2 g3 g4 g5 g6 g7 hx ck ca sk sa
 obtain⟨c0,-,-,-,-,-,-,c7⟩:=hJ.cells
 simp only at c0 c7
 go_wp2_with fail
 refine(HDp.out _).mono ?_
 rintro e x1 ⟨rfl,hx⟩
 replace hb:=hb.trans (hx.mono (V hlt))
 replace hJ:=hJ.below hx
 replace hlt:w.heap.size<x1.heap.size:=Bk.lt hJ
 clear hx c0 c7
 obtain⟨c0,-⟩:=hJ.cells
 simp only at c0
 go_wp2_with fail
 refine(HN.out _).mono ?_
 rintro e x2 ⟨rfl,hx⟩
 replace hb:=hb.trans (hx.mono (V hlt))
 replace hJ:=hJ.below hx
 replace hlt:w.heap.size<x2.heap.size:=Bk.lt hJ
 clear hx c0 cp sp
 obtain⟨c0,c1,c2,c3,c4,c5,c6,c7⟩:=hJ.cells
 obtain⟨g0,g1,g2,g3,g4,g5,g6,g7⟩:=hJ.zG
 simp only at c0 c1 c2 c3 c4 c5 c6 c7 g0 g1 g2 g3 g4 g5 g6 g7
 unfold bs
 have lWW:([32,101,113]:List UInt8).length<=40:=by decide
 obtain⟨Z1,hz1,cc1,ss1,ll1⟩:=bM RD AL 40 40 lRD lAL
 have HZ1:=N hz1
 clear hz1
 obtain⟨Z2,hz2,cc2,ss2,ll2⟩:=bM Z1 RS 80 40 ll1 lRS
 have HZ2:=N hz2
 clear hz2
 obtain⟨Z3,hz3,cc3,ss3,ll3⟩:=bM Z2 [32,101,113] 120 40 ll2 lWW
 simp only[List.length_cons,List.length_nil,Nat.zero_add,Nat.reduceAdd] at ss3
 have HZ3:=N hz3
 clear hz3
 obtain⟨Z4,hz4,cc4,ss4,ll4⟩:=bM Z3 RT 160 40 ll3 lRT
 have HZ4:=N hz4
 clear hz4
 obtain⟨Z5,hz5,cc5,ss5,ll5⟩:=bM nm Z4 40 200 lnm ll4
 have HZ5:=N hz5
 clear hz5
 have lEL:([32,101,108,115,101]:List UInt8).length<=40:=by decide
 obtain⟨Z6,hz6,cc6,ss6,ll6⟩:=bM [32,101,108,115,101] PL 40 40 lEL lPL
 simp only[List.length_cons,List.length_nil,Nat.zero_add,Nat.reduceAdd] at ss6
 have HZ6:=N hz6
 clear hz6
 obtain⟨Z7,hz7,cc7,ss7,ll7⟩:=bM Z5 Z6 240 80 ll5 ll6
 have HZ7:=N hz7
 clear hz7
 clear lWW
 go_wp2
 refine ap (by kernel_rfl) (by kernel_rfl) ?_
 repeat (go_big_quiet_step (first | (go_at_call 166;with_reducible exact ao (HRd.out _)) | (go_at_call 166;with_reducible exact ao (HRs.out _)) | (go_at_call 166;with_reducible exact ao (HRt.out _)) | (go_at_call 166;with_reducible exact ao (HRu.out _))))
 refine wpQuiet_nil ?_
 rintro y ⟨⟨_,hy⟩,rfl⟩
 replace hb:=hb.trans (hy.mono (V hlt))
 replace hJ:=hJ.below hy
 clear c0 c1 c2 c3 c4 c5 c6 c7 g0 g1 g2 g3 g4 g5 g6 g7
 obtain⟨-,-,-,-,-,-,-,c7⟩:=hJ.cells
 simp only at c7
 go_wp2
 go_ret
 refine⟨bW ?_,hb⟩
 rw[HZ7.out,HZ6.out,HZ5.out,HZ4.out,HZ3.out,HZ2.out,HZ1.out,HT.out,HNM.out,HRD.out,HAL.out,HDA.out,HRS.out,HRT.out,HPL.out,HDP.out]
 exact(wU dn sn tn un an pn).symm
theorem ut (dn sn tn un an pn:Nat)(hd:dn<5000000000)(hs:sn<5000000000)(ht:tn<5000000000)(hu:un<5000000000)(ha:an<5000000000)(hp:pn<5000000000)(w:World):
 Calls Tryz.prog 145 #[iv ⟨21,dn,sn,tn,un,an,0,-1⟩] w fun e w'=>e=.returned (bs (ah ⟨21,dn,sn,tn,un,an,0,-1⟩))/\Below w.heap.size w w':=by
 have HRd:=N (fun W=>rR dn W hd)
 have HRs:=N (fun W=>rR sn W hs)
 have HRt:=N (fun W=>rR tn W ht)
 have HRu:=N (fun W=>rR un W hu)
 have HDk:=N (fun W=>jQ 0 W (by decide))
 have HDa:=N (fun W=>jQ an W ha)
 have HDp:=N (fun W=>jQ pn W hp)
 have HN:=N (fun W=>fq 21 W)
 have lnm:(bE 21).length<=40:=Nat.le_trans (kc 21) (by decide)
 have lRD:=cY dn hd
 have lRS:=cY sn hs
 have lRT:=cY tn ht
 have lRU:=cY un hu
 have lDK:=cH 0 (by decide)
 have lDA:=cH an ha
 have lDP:=cH pn hp
 generalize hRD:rL dn=RD at *
 generalize hRS:rL sn=RS at *
 generalize hRT:rL tn=RT at *
 generalize hRU:rL un=RU at *
 generalize hDK:Lib.decDigits 0=DK at *
 generalize hDA:Lib.decDigits an=DA at *
 generalize hDP:Lib.decDigits pn=DP at *
 generalize hnm:bE 21=nm at *
 generalize htx:ah ⟨21,dn,sn,tn,un,an,0,-1⟩=tx
 have HRD:=N hRD.symm
 have HRS:=N hRS.symm
 have HRT:=N hRT.symm
 have HRU:=N hRU.symm
 have HDK:=N hDK.symm
 have HDA:=N hDA.symm
 have HDP:=N hDP.symm
 have HNM:=N hnm.symm
 have HT:=N htx.symm
 clear hRD hRS hRT hRU hDK hDA hDP hnm htx
 have lKL:(32 :: DK).length<=40:=by simp;omega
 have lAL:(32 :: DA).length<=40:=by simp;omega
 have lPL:(32 :: DP).length<=40:=by simp;omega
 generalize hKL:32 :: DK=KL at *
 generalize hAL:32 :: DA=AL at *
 generalize hPL:32 :: DP=PL at *
 have ck:(⟨#[32]⟩:ByteArray)++⟨DK.toArray⟩=⟨KL.toArray⟩:=by rw[<-hKL];exact cZ [32] DK
 have ca:(⟨#[32]⟩:ByteArray)++⟨DA.toArray⟩=⟨AL.toArray⟩:=by rw[<-hAL];exact cZ [32] DA
 have cp:(⟨#[32]⟩:ByteArray)++⟨DP.toArray⟩=⟨PL.toArray⟩:=by rw[<-hPL];exact cZ [32] DP
 have HKL:=N hKL.symm
 have HAL:=N hAL.symm
 have HPL:=N hPL.symm
 clear hKL hAL hPL
 have sk:¬ 9223372036854775807<1+DK.length:=by omega
 have sa:¬ 9223372036854775807<1+DA.length:=by omega
 have sp:¬ 9223372036854775807<1+DP.length:=by omega
 unfold iv
 go_enter Tryz.func145,Tryz.ntmps145
 go_wp2
 generalize hx0:w.alloc (.cells #[I Q 21,I Q (dn:Int),I Q (sn:Int),I Q (tn:Int),I Q (un:Int),I Q (an:Int),I .u32 0,I Q (-1)] 123)=x0
 have hJ:Jb x0 w.heap.size ⟨21,dn,sn,tn,un,an,0,-1⟩:=by rw[<-hx0];exact Jb.made w _ _ _ _ _ _ _ _
 have hb:Below w.heap.size w x0:=by rw[<-hx0];exact(O _ _).alloc (Z _) _
 have hlt:w.heap.size<x0.heap.size:=Bk.lt hJ
 clear hx0
 obtain⟨g0,g1,g2,g3,g4,g5,g6,g7⟩:=hJ.zG
 simp only at g0 g1 g2 g3 g4 g5 g6 g7
 refine ap (by kernel_rfl) (by kernel_rfl) ?_
 repeat (go_big_quiet_step (first | (go_at_call 165;with_reducible exact ao (HDk.out _)) | (go_at_call 165;with_reducible exact ao (HDa.out _))))
 refine wpQuiet_nil ?_
 rintro x ⟨⟨_,hx⟩,rfl⟩
 replace hb:=hb.trans (hx.mono (V hlt))
 replace hJ:=hJ.below hx
 replace hlt:w.heap.size<x.heap.size:=Bk.lt hJ
 clear g0 g1 g2 g3 g4 g5 g6 g7 hx ck ca sk sa
 obtain⟨c0,-,-,-,-,-,-,c7⟩:=hJ.cells
 simp only at c0 c7
 go_wp2_with fail
 refine(HN.out _).mono ?_
 rintro e x2 ⟨rfl,hx⟩
 replace hb:=hb.trans (hx.mono (V hlt))
 replace hJ:=hJ.below hx
 replace hlt:w.heap.size<x2.heap.size:=Bk.lt hJ
 clear hx c0 c7 cp sp
 obtain⟨c0,c1,c2,c3,c4,c5,c6,c7⟩:=hJ.cells
 obtain⟨g0,g1,g2,g3,g4,g5,g6,g7⟩:=hJ.zG
 simp only at c0 c1 c2 c3 c4 c5 c6 c7 g0 g1 g2 g3 g4 g5 g6 g7
 unfold bs
 have lWW:([32,101,113]:List UInt8).length<=40:=by decide
 obtain⟨Z1,hz1,cc1,ss1,ll1⟩:=bM RD AL 40 40 lRD lAL
 have HZ1:=N hz1
 clear hz1
 obtain⟨Z2,hz2,cc2,ss2,ll2⟩:=bM Z1 RS 80 40 ll1 lRS
 have HZ2:=N hz2
 clear hz2
 obtain⟨Z3,hz3,cc3,ss3,ll3⟩:=bM Z2 [32,101,113] 120 40 ll2 lWW
 simp only[List.length_cons,List.length_nil,Nat.zero_add,Nat.reduceAdd] at ss3
 have HZ3:=N hz3
 clear hz3
 obtain⟨Z4,hz4,cc4,ss4,ll4⟩:=bM Z3 RT 160 40 ll3 lRT
 have HZ4:=N hz4
 clear hz4
 obtain⟨Z5,hz5,cc5,ss5,ll5⟩:=bM nm Z4 40 200 lnm ll4
 have HZ5:=N hz5
 clear hz5
 clear lWW
 go_wp2
 refine ap (by kernel_rfl) (by kernel_rfl) ?_
 repeat (go_big_quiet_step (first | (go_at_call 166;with_reducible exact ao (HRd.out _)) | (go_at_call 166;with_reducible exact ao (HRs.out _)) | (go_at_call 166;with_reducible exact ao (HRt.out _)) | (go_at_call 166;with_reducible exact ao (HRu.out _))))
 refine wpQuiet_nil ?_
 rintro y ⟨⟨_,hy⟩,rfl⟩
 replace hb:=hb.trans (hy.mono (V hlt))
 replace hJ:=hJ.below hy
 clear c0 c1 c2 c3 c4 c5 c6 c7 g0 g1 g2 g3 g4 g5 g6 g7
 obtain⟨-,-,-,-,-,-,-,c7⟩:=hJ.cells
 simp only at c7
 go_wp2
 go_ret
 refine⟨bW ?_,hb⟩
 rw[HZ5.out,HZ4.out,HZ3.out,HZ2.out,HZ1.out,HT.out,HNM.out,HRD.out,HAL.out,HDA.out,HRS.out,HRT.out]
 exact(wW dn sn tn un an pn).symm
theorem up (dn sn tn un an pn:Nat)(hd:dn<5000000000)(hs:sn<5000000000)(ht:tn<5000000000)(hu:un<5000000000)(ha:an<5000000000)(hp:pn<5000000000)(w:World):
 Calls Tryz.prog 145 #[iv ⟨21,dn,sn,tn,un,an,1,pn⟩] w fun e w'=>e=.returned (bs (ah ⟨21,dn,sn,tn,un,an,1,pn⟩))/\Below w.heap.size w w':=by
 have HRd:=N (fun W=>rR dn W hd)
 have HRs:=N (fun W=>rR sn W hs)
 have HRt:=N (fun W=>rR tn W ht)
 have HRu:=N (fun W=>rR un W hu)
 have HDk:=N (fun W=>jQ 1 W (by decide))
 have HDa:=N (fun W=>jQ an W ha)
 have HDp:=N (fun W=>jQ pn W hp)
 have HN:=N (fun W=>fq 21 W)
 have lnm:(bE 21).length<=40:=Nat.le_trans (kc 21) (by decide)
 have lRD:=cY dn hd
 have lRS:=cY sn hs
 have lRT:=cY tn ht
 have lRU:=cY un hu
 have lDK:=cH 1 (by decide)
 have lDA:=cH an ha
 have lDP:=cH pn hp
 generalize hRD:rL dn=RD at *
 generalize hRS:rL sn=RS at *
 generalize hRT:rL tn=RT at *
 generalize hRU:rL un=RU at *
 generalize hDK:Lib.decDigits 1=DK at *
 generalize hDA:Lib.decDigits an=DA at *
 generalize hDP:Lib.decDigits pn=DP at *
 generalize hnm:bE 21=nm at *
 generalize htx:ah ⟨21,dn,sn,tn,un,an,1,pn⟩=tx
 have HRD:=N hRD.symm
 have HRS:=N hRS.symm
 have HRT:=N hRT.symm
 have HRU:=N hRU.symm
 have HDK:=N hDK.symm
 have HDA:=N hDA.symm
 have HDP:=N hDP.symm
 have HNM:=N hnm.symm
 have HT:=N htx.symm
 clear hRD hRS hRT hRU hDK hDA hDP hnm htx
 have lKL:(32 :: DK).length<=40:=by simp;omega
 have lAL:(32 :: DA).length<=40:=by simp;omega
 have lPL:(32 :: DP).length<=40:=by simp;omega
 generalize hKL:32 :: DK=KL at *
 generalize hAL:32 :: DA=AL at *
 generalize hPL:32 :: DP=PL at *
 have ck:(⟨#[32]⟩:ByteArray)++⟨DK.toArray⟩=⟨KL.toArray⟩:=by rw[<-hKL];exact cZ [32] DK
 have ca:(⟨#[32]⟩:ByteArray)++⟨DA.toArray⟩=⟨AL.toArray⟩:=by rw[<-hAL];exact cZ [32] DA
 have cp:(⟨#[32]⟩:ByteArray)++⟨DP.toArray⟩=⟨PL.toArray⟩:=by rw[<-hPL];exact cZ [32] DP
 have HKL:=N hKL.symm
 have HAL:=N hAL.symm
 have HPL:=N hPL.symm
 clear hKL hAL hPL
 have sk:¬ 9223372036854775807<1+DK.length:=by omega
 have sa:¬ 9223372036854775807<1+DA.length:=by omega
 have sp:¬ 9223372036854775807<1+DP.length:=by omega
 have hp0:(0:Int)<=(pn:Int):=by omega
 unfold iv
 go_enter Tryz.func145,Tryz.ntmps145
 go_wp2
 generalize hx0:w.alloc (.cells #[I Q 21,I Q (dn:Int),I Q (sn:Int),I Q (tn:Int),I Q (un:Int),I Q (an:Int),I .u32 1,I Q (pn:Int)] 123)=x0
 have hJ:Jb x0 w.heap.size ⟨21,dn,sn,tn,un,an,1,pn⟩:=by rw[<-hx0];exact Jb.made w _ _ _ _ _ _ _ _
 have hb:Below w.heap.size w x0:=by rw[<-hx0];exact(O _ _).alloc (Z _) _
 have hlt:w.heap.size<x0.heap.size:=Bk.lt hJ
 clear hx0
 obtain⟨g0,g1,g2,g3,g4,g5,g6,g7⟩:=hJ.zG
 simp only at g0 g1 g2 g3 g4 g5 g6 g7
 refine ap (by kernel_rfl) (by kernel_rfl) ?_
 repeat (go_big_quiet_step (first | (go_at_call 165;with_reducible exact ao (HDk.out _)) | (go_at_call 165;with_reducible exact ao (HDa.out _))))
 refine wpQuiet_nil ?_
 rintro x ⟨⟨_,hx⟩,rfl⟩
 replace hb:=hb.trans (hx.mono (V hlt))
 replace hJ:=hJ.below hx
 replace hlt:w.heap.size<x.heap.size:=Bk.lt hJ
 clear g0 g1 g2 g3 g4 g5 g6 g7 hx ck ca sk sa
 obtain⟨c0,-,-,-,-,-,-,c7⟩:=hJ.cells
 simp only at c0 c7
 go_wp2_with fail
 refine(HDp.out _).mono ?_
 rintro e x1 ⟨rfl,hx⟩
 replace hb:=hb.trans (hx.mono (V hlt))
 replace hJ:=hJ.below hx
 replace hlt:w.heap.size<x1.heap.size:=Bk.lt hJ
 clear hx c0 c7
 obtain⟨c0,-⟩:=hJ.cells
 simp only at c0
 go_wp2_with fail
 refine(HN.out _).mono ?_
 rintro e x2 ⟨rfl,hx⟩
 replace hb:=hb.trans (hx.mono (V hlt))
 replace hJ:=hJ.below hx
 replace hlt:w.heap.size<x2.heap.size:=Bk.lt hJ
 clear hx c0 cp sp
 obtain⟨c0,c1,c2,c3,c4,c5,c6,c7⟩:=hJ.cells
 obtain⟨g0,g1,g2,g3,g4,g5,g6,g7⟩:=hJ.zG
 simp only at c0 c1 c2 c3 c4 c5 c6 c7 g0 g1 g2 g3 g4 g5 g6 g7
 unfold bs
 have lWW:([32,110,101]:List UInt8).length<=40:=by decide
 obtain⟨Z1,hz1,cc1,ss1,ll1⟩:=bM RD AL 40 40 lRD lAL
 have HZ1:=N hz1
 clear hz1
 obtain⟨Z2,hz2,cc2,ss2,ll2⟩:=bM Z1 RS 80 40 ll1 lRS
 have HZ2:=N hz2
 clear hz2
 obtain⟨Z3,hz3,cc3,ss3,ll3⟩:=bM Z2 [32,110,101] 120 40 ll2 lWW
 simp only[List.length_cons,List.length_nil,Nat.zero_add,Nat.reduceAdd] at ss3
 have HZ3:=N hz3
 clear hz3
 obtain⟨Z4,hz4,cc4,ss4,ll4⟩:=bM Z3 RT 160 40 ll3 lRT
 have HZ4:=N hz4
 clear hz4
 obtain⟨Z5,hz5,cc5,ss5,ll5⟩:=bM nm Z4 40 200 lnm ll4
 have HZ5:=N hz5
 clear hz5
 have lEL:([32,101,108,115,101]:List UInt8).length<=40:=by decide
 obtain⟨Z6,hz6,cc6,ss6,ll6⟩:=bM [32,101,108,115,101] PL 40 40 lEL lPL
 simp only[List.length_cons,List.length_nil,Nat.zero_add,Nat.reduceAdd] at ss6
 have HZ6:=N hz6
 clear hz6
 obtain⟨Z7,hz7,cc7,ss7,ll7⟩:=bM Z5 Z6 240 80 ll5 ll6
 have HZ7:=N hz7
 clear hz7
 clear lWW
 go_wp2
 refine ap (by kernel_rfl) (by kernel_rfl) ?_
 repeat (go_big_quiet_step (first | (go_at_call 166;with_reducible exact ao (HRd.out _)) | (go_at_call 166;with_reducible exact ao (HRs.out _)) | (go_at_call 166;with_reducible exact ao (HRt.out _)) | (go_at_call 166;with_reducible exact ao (HRu.out _))))
 refine wpQuiet_nil ?_
 rintro y ⟨⟨_,hy⟩,rfl⟩
 replace hb:=hb.trans (hy.mono (V hlt))
 replace hJ:=hJ.below hy
 clear c0 c1 c2 c3 c4 c5 c6 c7 g0 g1 g2 g3 g4 g5 g6 g7
 obtain⟨-,-,-,-,-,-,-,c7⟩:=hJ.cells
 simp only at c7
 go_wp2
 go_ret
 refine⟨bW ?_,hb⟩
 rw[HZ7.out,HZ6.out,HZ5.out,HZ4.out,HZ3.out,HZ2.out,HZ1.out,HT.out,HNM.out,HRD.out,HAL.out,HDA.out,HRS.out,HRT.out,HPL.out,HDP.out]
 exact(wS dn sn tn un an pn).symm
theorem uq (dn sn tn un an pn:Nat)(hd:dn<5000000000)(hs:sn<5000000000)(ht:tn<5000000000)(hu:un<5000000000)(ha:an<5000000000)(hp:pn<5000000000)(w:World):
 Calls Tryz.prog 145 #[iv ⟨21,dn,sn,tn,un,an,1,-1⟩] w fun e w'=>e=.returned (bs (ah ⟨21,dn,sn,tn,un,an,1,-1⟩))/\Below w.heap.size w w':=by
 have HRd:=N (fun W=>rR dn W hd)
 have HRs:=N (fun W=>rR sn W hs)
 have HRt:=N (fun W=>rR tn W ht)
 have HRu:=N (fun W=>rR un W hu)
 have HDk:=N (fun W=>jQ 1 W (by decide))
 have HDa:=N (fun W=>jQ an W ha)
 have HDp:=N (fun W=>jQ pn W hp)
 have HN:=N (fun W=>fq 21 W)
 have lnm:(bE 21).length<=40:=Nat.le_trans (kc 21) (by decide)
 have lRD:=cY dn hd
 have lRS:=cY sn hs
 have lRT:=cY tn ht
 have lRU:=cY un hu
 have lDK:=cH 1 (by decide)
 have lDA:=cH an ha
 have lDP:=cH pn hp
 generalize hRD:rL dn=RD at *
 generalize hRS:rL sn=RS at *
 generalize hRT:rL tn=RT at *
 generalize hRU:rL un=RU at *
 generalize hDK:Lib.decDigits 1=DK at *
 generalize hDA:Lib.decDigits an=DA at *
 generalize hDP:Lib.decDigits pn=DP at *
 generalize hnm:bE 21=nm at *
 generalize htx:ah ⟨21,dn,sn,tn,un,an,1,-1⟩=tx
 have HRD:=N hRD.symm
 have HRS:=N hRS.symm
 have HRT:=N hRT.symm
 have HRU:=N hRU.symm
 have HDK:=N hDK.symm
 have HDA:=N hDA.symm
 have HDP:=N hDP.symm
 have HNM:=N hnm.symm
 have HT:=N htx.symm
 clear hRD hRS hRT hRU hDK hDA hDP hnm htx
 have lKL:(32 :: DK).length<=40:=by simp;omega
 have lAL:(32 :: DA).length<=40:=by simp;omega
 have lPL:(32 :: DP).length<=40:=by simp;omega
 generalize hKL:32 :: DK=KL at *
 generalize hAL:32 :: DA=AL at *
 generalize hPL:32 :: DP=PL at *
 have ck:(⟨#[32]⟩:ByteArray)++⟨DK.toArray⟩=⟨KL.toArray⟩:=by rw[<-hKL];exact cZ [32] DK
 have ca:(⟨#[32]⟩:ByteArray)++⟨DA.toArray⟩=⟨AL.toArray⟩:=by rw[<-hAL];exact cZ [32] DA
 have cp:(⟨#[32]⟩:ByteArray)++⟨DP.toArray⟩=⟨PL.toArray⟩:=by rw[<-hPL];exact cZ [32] DP
 have HKL:=N hKL.symm
 have HAL:=N hAL.symm
 have HPL:=N hPL.symm
 clear hKL hAL hPL
 have sk:¬ 9223372036854775807<1+DK.length:=by omega
 have sa:¬ 9223372036854775807<1+DA.length:=by omega
 have sp:¬ 9223372036854775807<1+DP.length:=by omega
 unfold iv
 go_enter Tryz.func145,Tryz.ntmps145
 go_wp2
 generalize hx0:w.alloc (.cells #[I Q 21,I Q (dn:Int),I Q (sn:Int),I Q (tn:Int),I Q (un:Int),I Q (an:Int),I .u32 1,I Q (-1)] 123)=x0
 have hJ:Jb x0 w.heap.size ⟨21,dn,sn,tn,un,an,1,-1⟩:=by rw[<-hx0];exact Jb.made w _ _ _ _ _ _ _ _
 have hb:Below w.heap.size w x0:=by rw[<-hx0];exact(O _ _).alloc (Z _) _
 have hlt:w.heap.size<x0.heap.size:=Bk.lt hJ
 clear hx0
 obtain⟨g0,g1,g2,g3,g4,g5,g6,g7⟩:=hJ.zG
 simp only at g0 g1 g2 g3 g4 g5 g6 g7
 refine ap (by kernel_rfl) (by kernel_rfl) ?_
 repeat (go_big_quiet_step (first | (go_at_call 165;with_reducible exact ao (HDk.out _)) | (go_at_call 165;with_reducible exact ao (HDa.out _))))
 refine wpQuiet_nil ?_
 rintro x ⟨⟨_,hx⟩,rfl⟩
 replace hb:=hb.trans (hx.mono (V hlt))
 replace hJ:=hJ.below hx
 replace hlt:w.heap.size<x.heap.size:=Bk.lt hJ
 clear g0 g1 g2 g3 g4 g5 g6 g7 hx ck ca sk sa
 obtain⟨c0,-,-,-,-,-,-,c7⟩:=hJ.cells
 simp only at c0 c7
 go_wp2_with fail
 refine(HN.out _).mono ?_
 rintro e x2 ⟨rfl,hx⟩
 replace hb:=hb.trans (hx.mono (V hlt))
 replace hJ:=hJ.below hx
 replace hlt:w.heap.size<x2.heap.size:=Bk.lt hJ
 clear hx c0 c7 cp sp
 obtain⟨c0,c1,c2,c3,c4,c5,c6,c7⟩:=hJ.cells
 obtain⟨g0,g1,g2,g3,g4,g5,g6,g7⟩:=hJ.zG
 simp only at c0 c1 c2 c3 c4 c5 c6 c7 g0 g1 g2 g3 g4 g5 g6 g7
 unfold bs
 have lWW:([32,110,101]:List UInt8).length<=40:=by decide
 obtain⟨Z1,hz1,cc1,ss1,ll1⟩:=bM RD AL 40 40 lRD lAL
 have HZ1:=N hz1
 clear hz1
 obtain⟨Z2,hz2,cc2,ss2,ll2⟩:=bM Z1 RS 80 40 ll1 lRS
 have HZ2:=N hz2
 clear hz2
 obtain⟨Z3,hz3,cc3,ss3,ll3⟩:=bM Z2 [32,110,101] 120 40 ll2 lWW
 simp only[List.length_cons,List.length_nil,Nat.zero_add,Nat.reduceAdd] at ss3
 have HZ3:=N hz3
 clear hz3
 obtain⟨Z4,hz4,cc4,ss4,ll4⟩:=bM Z3 RT 160 40 ll3 lRT
 have HZ4:=N hz4
 clear hz4
 obtain⟨Z5,hz5,cc5,ss5,ll5⟩:=bM nm Z4 40 200 lnm ll4
 have HZ5:=N hz5
 clear hz5
 clear lWW
 go_wp2
 refine ap (by kernel_rfl) (by kernel_rfl) ?_
 repeat (go_big_quiet_step (first | (go_at_call 166;with_reducible exact ao (HRd.out _)) | (go_at_call 166;with_reducible exact ao (HRs.out _)) | (go_at_call 166;with_reducible exact ao (HRt.out _)) | (go_at_call 166;with_reducible exact ao (HRu.out _))))
 refine wpQuiet_nil ?_
 rintro y ⟨⟨_,hy⟩,rfl⟩
 replace hb:=hb.trans (hy.mono (V hlt))
 replace hJ:=hJ.below hy
 clear c0 c1 c2 c3 c4 c5 c6 c7 g0 g1 g2 g3 g4 g5 g6 g7
 obtain⟨-,-,-,-,-,-,-,c7⟩:=hJ.cells
 simp only at c7
 go_wp2
 go_ret
 refine⟨bW ?_,hb⟩
 rw[HZ5.out,HZ4.out,HZ3.out,HZ2.out,HZ1.out,HT.out,HNM.out,HRD.out,HAL.out,HDA.out,HRS.out,HRT.out]
 exact(wT dn sn tn un an pn).symm
theorem Ag (i:aU)(h:au i 1073741824=true)(k0:0<=i.k)(k1:i.k<4294967296)(w:World):
 Calls Tryz.prog 145 #[iv i] w fun e w'=>e=.returned (bs (ah i))/\Below w.heap.size w w':=by
 obtain⟨hd,hs,ht,hu,ha⟩:=eJ i _ h
 obtain⟨op,d,s,t,u,a,k,pl⟩:=i
 simp only at hd hs ht hu ha k0 k1
 rcases cw op with rfl|rfl|rfl|rfl|rfl|rfl|rfl|rfl|rfl|rfl|rfl|rfl|rfl|rfl|rfl|rfl|rfl|rfl|rfl|rfl|rfl | hn
 ·skip
  have hr:=mW d s t u a k pl 1073741824 hd hs ht hu ha k0 k1
  rw[h] at hr
  simp[dg] at hr
  obtain⟨dn,rfl⟩:∃ n:Nat,d=n:=⟨d.toNat,by omega⟩
  obtain⟨sn,rfl⟩:∃ n:Nat,s=n:=⟨s.toNat,by omega⟩
  obtain⟨tn,rfl⟩:∃ n:Nat,t=n:=⟨t.toNat,by omega⟩
  obtain⟨un,rfl⟩:∃ n:Nat,u=n:=⟨u.toNat,by omega⟩
  obtain⟨an,rfl⟩:∃ n:Nat,a=n:=⟨a.toNat,by omega⟩
  obtain⟨kn,rfl⟩:∃ n:Nat,k=n:=⟨k.toNat,by omega⟩
  obtain⟨pn,rfl⟩:∃ n:Nat,pl=n:=⟨pl.toNat,by omega⟩
  exact gW 1 dn sn tn un an kn pn (by decide) (by omega) (by omega) (by omega) (by omega) (by omega) (by omega) (by omega) w
 ·skip
  have hr:=mV d s t u a k pl 1073741824 hd hs ht hu ha k0 k1
  rw[h] at hr
  simp[dg] at hr
  obtain⟨dn,rfl⟩:∃ n:Nat,d=n:=⟨d.toNat,by omega⟩
  obtain⟨sn,rfl⟩:∃ n:Nat,s=n:=⟨s.toNat,by omega⟩
  obtain⟨tn,rfl⟩:∃ n:Nat,t=n:=⟨t.toNat,by omega⟩
  obtain⟨un,rfl⟩:∃ n:Nat,u=n:=⟨u.toNat,by omega⟩
  obtain⟨an,rfl⟩:∃ n:Nat,a=n:=⟨a.toNat,by omega⟩
  obtain⟨kn,rfl⟩:∃ n:Nat,k=n:=⟨k.toNat,by omega⟩
  obtain⟨pn,rfl⟩:∃ n:Nat,pl=n:=⟨pl.toNat,by omega⟩
  exact gW 2 dn sn tn un an kn pn (by decide) (by omega) (by omega) (by omega) (by omega) (by omega) (by omega) (by omega) w
 ·skip
  have hr:=mU d s t u a k pl 1073741824 hd hs ht hu ha k0 k1
  rw[h] at hr
  simp[dg] at hr
  obtain⟨dn,rfl⟩:∃ n:Nat,d=n:=⟨d.toNat,by omega⟩
  obtain⟨sn,rfl⟩:∃ n:Nat,s=n:=⟨s.toNat,by omega⟩
  obtain⟨tn,rfl⟩:∃ n:Nat,t=n:=⟨t.toNat,by omega⟩
  obtain⟨un,rfl⟩:∃ n:Nat,u=n:=⟨u.toNat,by omega⟩
  obtain⟨an,rfl⟩:∃ n:Nat,a=n:=⟨a.toNat,by omega⟩
  obtain⟨kn,rfl⟩:∃ n:Nat,k=n:=⟨k.toNat,by omega⟩
  obtain⟨pn,rfl⟩:∃ n:Nat,pl=n:=⟨pl.toNat,by omega⟩
  exact gW 3 dn sn tn un an kn pn (by decide) (by omega) (by omega) (by omega) (by omega) (by omega) (by omega) (by omega) w
 ·skip
  have hr:=mT d s t u a k pl 1073741824 hd hs ht hu ha k0 k1
  rw[h] at hr
  simp[dg] at hr
  obtain⟨dn,rfl⟩:∃ n:Nat,d=n:=⟨d.toNat,by omega⟩
  obtain⟨sn,rfl⟩:∃ n:Nat,s=n:=⟨s.toNat,by omega⟩
  obtain⟨tn,rfl⟩:∃ n:Nat,t=n:=⟨t.toNat,by omega⟩
  obtain⟨un,rfl⟩:∃ n:Nat,u=n:=⟨u.toNat,by omega⟩
  obtain⟨an,rfl⟩:∃ n:Nat,a=n:=⟨a.toNat,by omega⟩
  obtain⟨kn,rfl⟩:∃ n:Nat,k=n:=⟨k.toNat,by omega⟩
  obtain⟨pn,rfl⟩:∃ n:Nat,pl=n:=⟨pl.toNat,by omega⟩
  exact gW 4 dn sn tn un an kn pn (by decide) (by omega) (by omega) (by omega) (by omega) (by omega) (by omega) (by omega) w
 ·skip
  have hr:=kV d s t u a k pl 1073741824 hd hs ht hu ha k0 k1
  rw[h] at hr
  simp[dg] at hr
  obtain⟨dn,rfl⟩:∃ n:Nat,d=n:=⟨d.toNat,by omega⟩
  obtain⟨sn,rfl⟩:∃ n:Nat,s=n:=⟨s.toNat,by omega⟩
  obtain⟨tn,rfl⟩:∃ n:Nat,t=n:=⟨t.toNat,by omega⟩
  obtain⟨un,rfl⟩:∃ n:Nat,u=n:=⟨u.toNat,by omega⟩
  obtain⟨an,rfl⟩:∃ n:Nat,a=n:=⟨a.toNat,by omega⟩
  obtain⟨kn,rfl⟩:∃ n:Nat,k=n:=⟨k.toNat,by omega⟩
  obtain⟨pn,rfl⟩:∃ n:Nat,pl=n:=⟨pl.toNat,by omega⟩
  exact gW 5 dn sn tn un an kn pn (by decide) (by omega) (by omega) (by omega) (by omega) (by omega) (by omega) (by omega) w
 ·skip
  have hr:=kU d s t u a k pl 1073741824 hd hs ht hu ha k0 k1
  rw[h] at hr
  simp[dg] at hr
  obtain⟨dn,rfl⟩:∃ n:Nat,d=n:=⟨d.toNat,by omega⟩
  obtain⟨sn,rfl⟩:∃ n:Nat,s=n:=⟨s.toNat,by omega⟩
  obtain⟨tn,rfl⟩:∃ n:Nat,t=n:=⟨t.toNat,by omega⟩
  obtain⟨un,rfl⟩:∃ n:Nat,u=n:=⟨u.toNat,by omega⟩
  obtain⟨an,rfl⟩:∃ n:Nat,a=n:=⟨a.toNat,by omega⟩
  obtain⟨kn,rfl⟩:∃ n:Nat,k=n:=⟨k.toNat,by omega⟩
  obtain⟨pn,rfl⟩:∃ n:Nat,pl=n:=⟨pl.toNat,by omega⟩
  exact gW 6 dn sn tn un an kn pn (by decide) (by omega) (by omega) (by omega) (by omega) (by omega) (by omega) (by omega) w
 ·skip
  have hr:=mS d s t u a k pl 1073741824 hd hs ht hu ha k0 k1
  rw[h] at hr
  simp[dg] at hr
  obtain⟨dn,rfl⟩:∃ n:Nat,d=n:=⟨d.toNat,by omega⟩
  obtain⟨sn,rfl⟩:∃ n:Nat,s=n:=⟨s.toNat,by omega⟩
  obtain⟨tn,rfl⟩:∃ n:Nat,t=n:=⟨t.toNat,by omega⟩
  obtain⟨un,rfl⟩:∃ n:Nat,u=n:=⟨u.toNat,by omega⟩
  obtain⟨an,rfl⟩:∃ n:Nat,a=n:=⟨a.toNat,by omega⟩
  obtain⟨kn,rfl⟩:∃ n:Nat,k=n:=⟨k.toNat,by omega⟩
  obtain⟨pn,rfl⟩:∃ n:Nat,pl=n:=⟨pl.toNat,by omega⟩
  exact gW 7 dn sn tn un an kn pn (by decide) (by omega) (by omega) (by omega) (by omega) (by omega) (by omega) (by omega) w
 ·skip
  have hr:=mR d s t u a k pl 1073741824 hd hs ht hu ha k0 k1
  rw[h] at hr
  simp[dg] at hr
  obtain⟨dn,rfl⟩:∃ n:Nat,d=n:=⟨d.toNat,by omega⟩
  obtain⟨sn,rfl⟩:∃ n:Nat,s=n:=⟨s.toNat,by omega⟩
  obtain⟨tn,rfl⟩:∃ n:Nat,t=n:=⟨t.toNat,by omega⟩
  obtain⟨un,rfl⟩:∃ n:Nat,u=n:=⟨u.toNat,by omega⟩
  obtain⟨an,rfl⟩:∃ n:Nat,a=n:=⟨a.toNat,by omega⟩
  obtain⟨kn,rfl⟩:∃ n:Nat,k=n:=⟨k.toNat,by omega⟩
  obtain⟨pn,rfl⟩:∃ n:Nat,pl=n:=⟨pl.toNat,by omega⟩
  exact gW 8 dn sn tn un an kn pn (by decide) (by omega) (by omega) (by omega) (by omega) (by omega) (by omega) (by omega) w
 ·skip
  have hr:=mQ d s t u a k pl 1073741824 hd hs ht hu ha k0 k1
  rw[h] at hr
  simp[dg] at hr
  obtain⟨dn,rfl⟩:∃ n:Nat,d=n:=⟨d.toNat,by omega⟩
  obtain⟨sn,rfl⟩:∃ n:Nat,s=n:=⟨s.toNat,by omega⟩
  obtain⟨tn,rfl⟩:∃ n:Nat,t=n:=⟨t.toNat,by omega⟩
  obtain⟨un,rfl⟩:∃ n:Nat,u=n:=⟨u.toNat,by omega⟩
  obtain⟨an,rfl⟩:∃ n:Nat,a=n:=⟨a.toNat,by omega⟩
  obtain⟨kn,rfl⟩:∃ n:Nat,k=n:=⟨k.toNat,by omega⟩
  obtain⟨pn,rfl⟩:∃ n:Nat,pl=n:=⟨pl.toNat,by omega⟩
  exact gW 9 dn sn tn un an kn pn (by decide) (by omega) (by omega) (by omega) (by omega) (by omega) (by omega) (by omega) w
 ·skip
  have hr:=kI d s t u a k pl 1073741824 hd hs ht hu ha k0 k1
  rw[h] at hr
  simp[dg] at hr
  obtain⟨dn,rfl⟩:∃ n:Nat,d=n:=⟨d.toNat,by omega⟩
  obtain⟨sn,rfl⟩:∃ n:Nat,s=n:=⟨s.toNat,by omega⟩
  obtain⟨tn,rfl⟩:∃ n:Nat,t=n:=⟨t.toNat,by omega⟩
  obtain⟨un,rfl⟩:∃ n:Nat,u=n:=⟨u.toNat,by omega⟩
  obtain⟨an,rfl⟩:∃ n:Nat,a=n:=⟨a.toNat,by omega⟩
  obtain⟨kn,rfl⟩:∃ n:Nat,k=n:=⟨k.toNat,by omega⟩
  obtain⟨pn,rfl⟩:∃ n:Nat,pl=n:=⟨pl.toNat,by omega⟩
  exact gW 10 dn sn tn un an kn pn (by decide) (by omega) (by omega) (by omega) (by omega) (by omega) (by omega) (by omega) w
 ·skip
  have hr:=kH d s t u a k pl 1073741824 hd hs ht hu ha k0 k1
  rw[h] at hr
  simp[dg] at hr
  obtain⟨dn,rfl⟩:∃ n:Nat,d=n:=⟨d.toNat,by omega⟩
  obtain⟨sn,rfl⟩:∃ n:Nat,s=n:=⟨s.toNat,by omega⟩
  obtain⟨tn,rfl⟩:∃ n:Nat,t=n:=⟨t.toNat,by omega⟩
  obtain⟨un,rfl⟩:∃ n:Nat,u=n:=⟨u.toNat,by omega⟩
  obtain⟨an,rfl⟩:∃ n:Nat,a=n:=⟨a.toNat,by omega⟩
  obtain⟨kn,rfl⟩:∃ n:Nat,k=n:=⟨k.toNat,by omega⟩
  obtain⟨pn,rfl⟩:∃ n:Nat,pl=n:=⟨pl.toNat,by omega⟩
  exact gV 11 dn sn tn un an kn pn (by decide) (by omega) (by omega) (by omega) (by omega) (by omega) (by omega) (by omega) w
 ·skip
  have hr:=jd d s t u a k pl 1073741824 hd hs ht hu ha k0 k1
  rw[h] at hr
  simp[dg] at hr
  obtain⟨dn,rfl⟩:∃ n:Nat,d=n:=⟨d.toNat,by omega⟩
  obtain⟨sn,rfl⟩:∃ n:Nat,s=n:=⟨s.toNat,by omega⟩
  obtain⟨tn,rfl⟩:∃ n:Nat,t=n:=⟨t.toNat,by omega⟩
  obtain⟨un,rfl⟩:∃ n:Nat,u=n:=⟨u.toNat,by omega⟩
  obtain⟨an,rfl⟩:∃ n:Nat,a=n:=⟨a.toNat,by omega⟩
  obtain⟨kn,rfl⟩:∃ n:Nat,k=n:=⟨k.toNat,by omega⟩
  obtain⟨pn,rfl⟩:∃ n:Nat,pl=n:=⟨pl.toNat,by omega⟩
  exact gV 12 dn sn tn un an kn pn (by decide) (by omega) (by omega) (by omega) (by omega) (by omega) (by omega) (by omega) w
 ·skip
  have hr:=jc d s t u a k pl 1073741824 hd hs ht hu ha k0 k1
  rw[h] at hr
  simp[dg] at hr
  obtain⟨dn,rfl⟩:∃ n:Nat,d=n:=⟨d.toNat,by omega⟩
  obtain⟨sn,rfl⟩:∃ n:Nat,s=n:=⟨s.toNat,by omega⟩
  obtain⟨tn,rfl⟩:∃ n:Nat,t=n:=⟨t.toNat,by omega⟩
  obtain⟨un,rfl⟩:∃ n:Nat,u=n:=⟨u.toNat,by omega⟩
  obtain⟨an,rfl⟩:∃ n:Nat,a=n:=⟨a.toNat,by omega⟩
  obtain⟨kn,rfl⟩:∃ n:Nat,k=n:=⟨k.toNat,by omega⟩
  obtain⟨pn,rfl⟩:∃ n:Nat,pl=n:=⟨pl.toNat,by omega⟩
  exact gV 13 dn sn tn un an kn pn (by decide) (by omega) (by omega) (by omega) (by omega) (by omega) (by omega) (by omega) w
 ·skip
  have hr:=kG d s t u a k pl 1073741824 hd hs ht hu ha k0 k1
  rw[h] at hr
  simp[dg] at hr
  obtain⟨dn,rfl⟩:∃ n:Nat,d=n:=⟨d.toNat,by omega⟩
  obtain⟨sn,rfl⟩:∃ n:Nat,s=n:=⟨s.toNat,by omega⟩
  obtain⟨tn,rfl⟩:∃ n:Nat,t=n:=⟨t.toNat,by omega⟩
  obtain⟨un,rfl⟩:∃ n:Nat,u=n:=⟨u.toNat,by omega⟩
  obtain⟨an,rfl⟩:∃ n:Nat,a=n:=⟨a.toNat,by omega⟩
  obtain⟨kn,rfl⟩:∃ n:Nat,k=n:=⟨k.toNat,by omega⟩
  obtain⟨pn,rfl⟩:∃ n:Nat,pl=n:=⟨pl.toNat,by omega⟩
  exact gV 16 dn sn tn un an kn pn (by decide) (by omega) (by omega) (by omega) (by omega) (by omega) (by omega) (by omega) w
 ·skip
  have hr:=kF d s t u a k pl 1073741824 hd hs ht hu ha k0 k1
  rw[h] at hr
  simp[dg] at hr
  obtain⟨dn,rfl⟩:∃ n:Nat,d=n:=⟨d.toNat,by omega⟩
  obtain⟨sn,rfl⟩:∃ n:Nat,s=n:=⟨s.toNat,by omega⟩
  obtain⟨tn,rfl⟩:∃ n:Nat,t=n:=⟨t.toNat,by omega⟩
  obtain⟨un,rfl⟩:∃ n:Nat,u=n:=⟨u.toNat,by omega⟩
  obtain⟨an,rfl⟩:∃ n:Nat,a=n:=⟨a.toNat,by omega⟩
  obtain⟨kn,rfl⟩:∃ n:Nat,k=n:=⟨k.toNat,by omega⟩
  obtain⟨pn,rfl⟩:∃ n:Nat,pl=n:=⟨pl.toNat,by omega⟩
  exact gV 17 dn sn tn un an kn pn (by decide) (by omega) (by omega) (by omega) (by omega) (by omega) (by omega) (by omega) w
 ·skip
  have hr:=kE d s t u a k pl 1073741824 hd hs ht hu ha k0 k1
  rw[h] at hr
  simp[dg] at hr
  obtain⟨dn,rfl⟩:∃ n:Nat,d=n:=⟨d.toNat,by omega⟩
  obtain⟨sn,rfl⟩:∃ n:Nat,s=n:=⟨s.toNat,by omega⟩
  obtain⟨tn,rfl⟩:∃ n:Nat,t=n:=⟨t.toNat,by omega⟩
  obtain⟨un,rfl⟩:∃ n:Nat,u=n:=⟨u.toNat,by omega⟩
  obtain⟨an,rfl⟩:∃ n:Nat,a=n:=⟨a.toNat,by omega⟩
  obtain⟨kn,rfl⟩:∃ n:Nat,k=n:=⟨k.toNat,by omega⟩
  obtain⟨pn,rfl⟩:∃ n:Nat,pl=n:=⟨pl.toNat,by omega⟩
  exact gV 18 dn sn tn un an kn pn (by decide) (by omega) (by omega) (by omega) (by omega) (by omega) (by omega) (by omega) w
 ·skip
  have hr:=kD d s t u a k pl 1073741824 hd hs ht hu ha k0 k1
  rw[h] at hr
  simp[dg] at hr
  obtain⟨dn,rfl⟩:∃ n:Nat,d=n:=⟨d.toNat,by omega⟩
  obtain⟨sn,rfl⟩:∃ n:Nat,s=n:=⟨s.toNat,by omega⟩
  obtain⟨tn,rfl⟩:∃ n:Nat,t=n:=⟨t.toNat,by omega⟩
  obtain⟨un,rfl⟩:∃ n:Nat,u=n:=⟨u.toNat,by omega⟩
  obtain⟨an,rfl⟩:∃ n:Nat,a=n:=⟨a.toNat,by omega⟩
  obtain⟨kn,rfl⟩:∃ n:Nat,k=n:=⟨k.toNat,by omega⟩
  obtain⟨pn,rfl⟩:∃ n:Nat,pl=n:=⟨pl.toNat,by omega⟩
  exact gV 19 dn sn tn un an kn pn (by decide) (by omega) (by omega) (by omega) (by omega) (by omega) (by omega) (by omega) w
 ·skip
  have hr:=kC d s t u a k pl 1073741824 hd hs ht hu ha k0 k1
  rw[h] at hr
  simp[dg] at hr
  obtain⟨dn,rfl⟩:∃ n:Nat,d=n:=⟨d.toNat,by omega⟩
  obtain⟨sn,rfl⟩:∃ n:Nat,s=n:=⟨s.toNat,by omega⟩
  obtain⟨tn,rfl⟩:∃ n:Nat,t=n:=⟨t.toNat,by omega⟩
  obtain⟨un,rfl⟩:∃ n:Nat,u=n:=⟨u.toNat,by omega⟩
  obtain⟨an,rfl⟩:∃ n:Nat,a=n:=⟨a.toNat,by omega⟩
  obtain⟨kn,rfl⟩:∃ n:Nat,k=n:=⟨k.toNat,by omega⟩
  obtain⟨pn,rfl⟩:∃ n:Nat,pl=n:=⟨pl.toNat,by omega⟩
  exact gV 20 dn sn tn un an kn pn (by decide) (by omega) (by omega) (by omega) (by omega) (by omega) (by omega) (by omega) w
 ·skip
  have hr:=ic d s t u a k pl 1073741824 hd hs ht hu ha k0 k1
  rw[h] at hr
  simp[dg] at hr
  obtain⟨dn,rfl⟩:∃ n:Nat,d=n:=⟨d.toNat,by omega⟩
  obtain⟨sn,rfl⟩:∃ n:Nat,s=n:=⟨s.toNat,by omega⟩
  obtain⟨tn,rfl⟩:∃ n:Nat,t=n:=⟨t.toNat,by omega⟩
  obtain⟨un,rfl⟩:∃ n:Nat,u=n:=⟨u.toNat,by omega⟩
  obtain⟨an,rfl⟩:∃ n:Nat,a=n:=⟨a.toNat,by omega⟩
  obtain⟨kn,rfl⟩:∃ n:Nat,k=n:=⟨k.toNat,by omega⟩
  by_cases hm:pl=-1
  ·subst hm
   by_cases hk:kn=0
   ·subst hk;exact ut dn sn tn un an 0 (by omega) (by omega) (by omega) (by omega) (by omega) (by omega) w
   ·obtain rfl:kn=1:=by omega
    exact uq dn sn tn un an 0 (by omega) (by omega) (by omega) (by omega) (by omega) (by omega) w
  ·obtain⟨pn,rfl⟩:∃ n:Nat,pl=n:=⟨pl.toNat,by omega⟩
   by_cases hk:kn=0
   ·subst hk;exact ur dn sn tn un an pn (by omega) (by omega) (by omega) (by omega) (by omega) (by omega) w
   ·obtain rfl:kn=1:=by omega
    exact up dn sn tn un an pn (by omega) (by omega) (by omega) (by omega) (by omega) (by omega) w
 ·skip
  have hr:=kB d s t u a k pl 1073741824 hd hs ht hu ha k0 k1
  rw[h] at hr
  simp[dg] at hr
  obtain⟨dn,rfl⟩:∃ n:Nat,d=n:=⟨d.toNat,by omega⟩
  obtain⟨sn,rfl⟩:∃ n:Nat,s=n:=⟨s.toNat,by omega⟩
  obtain⟨tn,rfl⟩:∃ n:Nat,t=n:=⟨t.toNat,by omega⟩
  obtain⟨un,rfl⟩:∃ n:Nat,u=n:=⟨u.toNat,by omega⟩
  obtain⟨an,rfl⟩:∃ n:Nat,a=n:=⟨a.toNat,by omega⟩
  obtain⟨kn,rfl⟩:∃ n:Nat,k=n:=⟨k.toNat,by omega⟩
  obtain⟨pn,rfl⟩:∃ n:Nat,pl=n:=⟨pl.toNat,by omega⟩
  exact gV 22 dn sn tn un an kn pn (by decide) (by omega) (by omega) (by omega) (by omega) (by omega) (by omega) (by omega) w
 ·skip
  have hr:=kA d s t u a k pl 1073741824 hd hs ht hu ha k0 k1
  rw[h] at hr
  simp[dg] at hr
  obtain⟨dn,rfl⟩:∃ n:Nat,d=n:=⟨d.toNat,by omega⟩
  obtain⟨sn,rfl⟩:∃ n:Nat,s=n:=⟨s.toNat,by omega⟩
  obtain⟨tn,rfl⟩:∃ n:Nat,t=n:=⟨t.toNat,by omega⟩
  obtain⟨un,rfl⟩:∃ n:Nat,u=n:=⟨u.toNat,by omega⟩
  obtain⟨an,rfl⟩:∃ n:Nat,a=n:=⟨a.toNat,by omega⟩
  obtain⟨kn,rfl⟩:∃ n:Nat,k=n:=⟨k.toNat,by omega⟩
  obtain⟨pn,rfl⟩:∃ n:Nat,pl=n:=⟨pl.toNat,by omega⟩
  exact gV 23 dn sn tn un an kn pn (by decide) (by omega) (by omega) (by omega) (by omega) (by omega) (by omega) (by omega) w
 ·exfalso
  unfold au at h
  simp only[(dB hn).1] at h
  cases h
