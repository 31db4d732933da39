import Derived.Test.YthdgehcghklflaaGreatDoorTTkD
import Derived.Test.YthdgehcghklflaaGreatDoorTMem
import Derived.Deep.Cut
set_option linter.unusedVariables false
namespace Go.Proofs.YthdgehcghklflaaGreatDoor
open Go.ChangeShapes Go.WideShapes Go.ChangeAt Go.RowKit
set_option maxHeartbeats 8000000 in
set_option maxRecDepth 100000 in
theorem rTextA (op:Int)(dn sn tn un an kn pn:Nat)(hop:op=1∨op=2∨op=3∨op=4∨op=5∨op=6∨op=7∨op=8∨op=9∨op=10)(hd:dn < 5000000000)(hs:sn < 5000000000)(ht:tn < 5000000000)(hu:un < 5000000000)(ha:an < 5000000000)(hk:kn < 4294967296)(hp:pn < 5000000000)(w:World):
 Calls Tryz.prog 144 #[iv ⟨op,dn,sn,tn,un,an,kn,pn⟩] w fun e w'=>e=.returned (bs (textL ⟨op,dn,sn,tn,un,an,kn,pn⟩))∧Below w.heap.size w w':=by
 have HRd:=Lib.hid (fun W=>rR dn W hd)
 have HRs:=Lib.hid (fun W=>rR sn W hs)
 have HRt:=Lib.hid (fun W=>rR tn W ht)
 have HRu:=Lib.hid (fun W=>rR un W hu)
 have HDk:=Lib.hid (fun W=>rDig kn W (by omega))
 have HDa:=Lib.hid (fun W=>rDig an W ha)
 have HDp:=Lib.hid (fun W=>rDig pn W hp)
 have HN:=Lib.hid (fun W=>rName op W)
 have lnm:(nmL op).length≤40:=Nat.le_trans (nm_len op) (by decide)
 have lRD:=rL_len dn hd
 have lRS:=rL_len sn hs
 have lRT:=rL_len tn ht
 have lRU:=rL_len un hu
 have lDK:=dec_len kn (by omega)
 have lDA:=dec_len an ha
 have lDP:=dec_len pn hp
 generalize hRD:rL dn=RD at *
 generalize hRS:rL sn=RS at *
 generalize hRT:rL tn=RT at *
 generalize hRU:rL un=RU at *
 generalize hDK:Lib.decDigits kn=DK at *
 generalize hDA:Lib.decDigits an=DA at *
 generalize hDP:Lib.decDigits pn=DP at *
 generalize hnm:nmL op=nm at *
 generalize htx:textL ⟨op,dn,sn,tn,un,an,kn,pn⟩=tx
 have HRD:=Lib.hid hRD.symm
 have HRS:=Lib.hid hRS.symm
 have HRT:=Lib.hid hRT.symm
 have HRU:=Lib.hid hRU.symm
 have HDK:=Lib.hid hDK.symm
 have HDA:=Lib.hid hDA.symm
 have HDP:=Lib.hid hDP.symm
 have HNM:=Lib.hid hnm.symm
 have HT:=Lib.hid htx.symm
 clear hRD hRS hRT hRU hDK hDA hDP hnm htx
 have lKL:(32 :: DK).length≤40:=by simp;omega
 have lAL:(32 :: DA).length≤40:=by simp;omega
 have lPL:(32 :: DP).length≤40:=by simp;omega
 generalize hKL:32 :: DK=KL at *
 generalize hAL:32 :: DA=AL at *
 generalize hPL:32 :: DP=PL at *
 have ck:(⟨#[32]⟩:ByteArray)++⟨DK.toArray⟩=⟨KL.toArray⟩:=by rw[←hKL];exact cat_bs [32] DK
 have ca:(⟨#[32]⟩:ByteArray)++⟨DA.toArray⟩=⟨AL.toArray⟩:=by rw[←hAL];exact cat_bs [32] DA
 have cp:(⟨#[32]⟩:ByteArray)++⟨DP.toArray⟩=⟨PL.toArray⟩:=by rw[←hPL];exact cat_bs [32] DP
 have HKL:=Lib.hid hKL.symm
 have HAL:=Lib.hid hAL.symm
 have HPL:=Lib.hid hPL.symm
 clear hKL hAL hPL
 have sk:¬ 9223372036854775807 < 1+DK.length:=by omega
 have sa:¬ 9223372036854775807 < 1+DA.length:=by omega
 have sp:¬ 9223372036854775807 < 1+DP.length:=by omega
 have hk0:(0:Int)≤(kn:Int):=by omega
 have hk1:(kn:Int) < 4294967296:=by omega
 have hp0:(0:Int)≤(pn:Int):=by omega
 unfold iv
 go_enter Tryz.func144,Tryz.ntmps144
 go_wp2
 generalize hx0:w.alloc (.cells #[.int .i64 op,.int .i64 (dn:Int),.int .i64 (sn:Int),.int .i64 (tn:Int),.int .i64 (un:Int),.int .i64 (an:Int),.int .u32 (kn:Int),.int .i64 (pn:Int)] 125)=x0
 have hJ:Jb x0 w.heap.size ⟨op,dn,sn,tn,un,an,kn,pn⟩:=by rw[←hx0];exact Jb.made w _ _ _ _ _ _ _ _
 have hb:Below w.heap.size w x0:=by rw[←hx0];exact(Below.refl _ _).alloc (Nat.le_refl _) _
 have hlt:w.heap.size < x0.heap.size:=Bk.lt hJ
 clear hx0
 obtain⟨g0,g1,g2,g3,g4,g5,g6,g7⟩:=hJ.grw
 simp only at g0 g1 g2 g3 g4 g5 g6 g7
 refine wp_region_grow (by kernel_rfl) (by kernel_rfl) ?_
 repeat (go_big_quiet_step (first | (go_at_call 164;with_reducible exact grw_call (HDk.out _)) | (go_at_call 164;with_reducible exact grw_call (HDa.out _))))
 refine wpQuiet_nil ?_
 rintro x ⟨⟨_,hx⟩,rfl⟩
 replace hb:=hb.trans (hx.mono (Nat.le_of_lt hlt))
 replace hJ:=hJ.below hx
 replace hlt:w.heap.size < x.heap.size:=Bk.lt hJ
 clear g0 g1 g2 g3 g4 g5 g6 g7 hx ck ca sk sa
 obtain⟨c0,-,-,-,-,-,-,c7⟩:=hJ.cells
 simp only at c0 c7
 go_wp2_with fail
 refine(HDp.out _).mono ?_
 rintro e x1 ⟨rfl,hx⟩
 replace hb:=hb.trans (hx.mono (Nat.le_of_lt hlt))
 replace hJ:=hJ.below hx
 replace hlt:w.heap.size < x1.heap.size:=Bk.lt hJ
 clear hx c0 c7
 obtain⟨c0,-⟩:=hJ.cells
 simp only at c0
 go_wp2_with fail
 refine(HN.out _).mono ?_
 rintro e x2 ⟨rfl,hx⟩
 replace hb:=hb.trans (hx.mono (Nat.le_of_lt hlt))
 replace hJ:=hJ.below hx
 replace hlt:w.heap.size < x2.heap.size:=Bk.lt hJ
 clear hx c0 cp sp
 obtain⟨c0,c1,c2,c3,c4,c5,c6,c7⟩:=hJ.cells
 obtain⟨g0,g1,g2,g3,g4,g5,g6,g7⟩:=hJ.grw
 simp only at c0 c1 c2 c3 c4 c5 c6 c7 g0 g1 g2 g3 g4 g5 g6 g7
 unfold bs
 go_upto_region 6 with (fail)
 rcases hop with rfl | rfl | rfl | rfl | rfl | rfl | rfl | rfl | rfl | rfl
 ·skip
  obtain⟨Z1,hz1,cc1,ss1,ll1⟩:=cat2 RD KL 40 40 lRD lKL
  have HZ1:=Lib.hid hz1
  clear hz1
  obtain⟨Z2,hz2,cc2,ss2,ll2⟩:=cat2 nm Z1 40 80 lnm ll1
  have HZ2:=Lib.hid hz2
  clear hz2
  go_wp2_with (first | (go_at_call 165;(with_reducible refine(HRd.out _).mono ?_);rintro e y ⟨rfl,hy⟩) | (go_at_call 165;(with_reducible refine(HRs.out _).mono ?_);rintro e y ⟨rfl,hy⟩))
  go_ret
  refine⟨ret_bs ?_,hb.trans (hy.mono (Nat.le_of_lt hlt))⟩
  rw[HZ2.out,HZ1.out,HT.out,HNM.out,HRD.out,HKL.out,HDK.out]
  exact(txt_1 dn sn tn un an kn pn).symm
 ·skip
  obtain⟨Z1,hz1,cc1,ss1,ll1⟩:=cat2 RD RS 40 40 lRD lRS
  have HZ1:=Lib.hid hz1
  clear hz1
  obtain⟨Z2,hz2,cc2,ss2,ll2⟩:=cat2 nm Z1 40 80 lnm ll1
  have HZ2:=Lib.hid hz2
  clear hz2
  go_wp2
  refine wp_region_grow (by kernel_rfl) (by kernel_rfl) ?_
  repeat (go_big_quiet_step (first | (go_at_call 165;with_reducible exact grw_call (HRd.out _)) | (go_at_call 165;with_reducible exact grw_call (HRs.out _)) | (go_at_call 165;with_reducible exact grw_call (HRt.out _)) | (go_at_call 165;with_reducible exact grw_call (HRu.out _))))
  refine wpQuiet_nil ?_
  rintro y ⟨⟨_,hy⟩,rfl⟩
  go_wp2
  go_ret
  refine⟨ret_bs ?_,hb.trans (hy.mono (Nat.le_of_lt hlt))⟩
  rw[HZ2.out,HZ1.out,HT.out,HNM.out,HRD.out,HRS.out]
  exact(txt_2 dn sn tn un an kn pn).symm
 ·skip
  obtain⟨Z1,hz1,cc1,ss1,ll1⟩:=cat2 RD RS 40 40 lRD lRS
  have HZ1:=Lib.hid hz1
  clear hz1
  obtain⟨Z2,hz2,cc2,ss2,ll2⟩:=cat2 Z1 KL 80 40 ll1 lKL
  have HZ2:=Lib.hid hz2
  clear hz2
  obtain⟨Z3,hz3,cc3,ss3,ll3⟩:=cat2 nm Z2 40 120 lnm ll2
  have HZ3:=Lib.hid hz3
  clear hz3
  go_wp2
  refine wp_region_grow (by kernel_rfl) (by kernel_rfl) ?_
  repeat (go_big_quiet_step (first | (go_at_call 165;with_reducible exact grw_call (HRd.out _)) | (go_at_call 165;with_reducible exact grw_call (HRs.out _)) | (go_at_call 165;with_reducible exact grw_call (HRt.out _)) | (go_at_call 165;with_reducible exact grw_call (HRu.out _))))
  refine wpQuiet_nil ?_
  rintro y ⟨⟨_,hy⟩,rfl⟩
  go_wp2
  go_ret
  refine⟨ret_bs ?_,hb.trans (hy.mono (Nat.le_of_lt hlt))⟩
  rw[HZ3.out,HZ2.out,HZ1.out,HT.out,HNM.out,HRD.out,HRS.out,HKL.out,HDK.out]
  exact(txt_3 dn sn tn un an kn pn).symm
 ·skip
  obtain⟨Z1,hz1,cc1,ss1,ll1⟩:=cat2 RD RS 40 40 lRD lRS
  have HZ1:=Lib.hid hz1
  clear hz1
  obtain⟨Z2,hz2,cc2,ss2,ll2⟩:=cat2 Z1 KL 80 40 ll1 lKL
  have HZ2:=Lib.hid hz2
  clear hz2
  obtain⟨Z3,hz3,cc3,ss3,ll3⟩:=cat2 nm Z2 40 120 lnm ll2
  have HZ3:=Lib.hid hz3
  clear hz3
  go_wp2
  refine wp_region_grow (by kernel_rfl) (by kernel_rfl) ?_
  repeat (go_big_quiet_step (first | (go_at_call 165;with_reducible exact grw_call (HRd.out _)) | (go_at_call 165;with_reducible exact grw_call (HRs.out _)) | (go_at_call 165;with_reducible exact grw_call (HRt.out _)) | (go_at_call 165;with_reducible exact grw_call (HRu.out _))))
  refine wpQuiet_nil ?_
  rintro y ⟨⟨_,hy⟩,rfl⟩
  go_wp2
  go_ret
  refine⟨ret_bs ?_,hb.trans (hy.mono (Nat.le_of_lt hlt))⟩
  rw[HZ3.out,HZ2.out,HZ1.out,HT.out,HNM.out,HRD.out,HRS.out,HKL.out,HDK.out]
  exact(txt_4 dn sn tn un an kn pn).symm
 ·skip
  obtain⟨Z1,hz1,cc1,ss1,ll1⟩:=cat2 RD RS 40 40 lRD lRS
  have HZ1:=Lib.hid hz1
  clear hz1
  obtain⟨Z2,hz2,cc2,ss2,ll2⟩:=cat2 Z1 KL 80 40 ll1 lKL
  have HZ2:=Lib.hid hz2
  clear hz2
  obtain⟨Z3,hz3,cc3,ss3,ll3⟩:=cat2 nm Z2 40 120 lnm ll2
  have HZ3:=Lib.hid hz3
  clear hz3
  go_wp2
  refine wp_region_grow (by kernel_rfl) (by kernel_rfl) ?_
  repeat (go_big_quiet_step (first | (go_at_call 165;with_reducible exact grw_call (HRd.out _)) | (go_at_call 165;with_reducible exact grw_call (HRs.out _)) | (go_at_call 165;with_reducible exact grw_call (HRt.out _)) | (go_at_call 165;with_reducible exact grw_call (HRu.out _))))
  refine wpQuiet_nil ?_
  rintro y ⟨⟨_,hy⟩,rfl⟩
  go_wp2
  go_ret
  refine⟨ret_bs ?_,hb.trans (hy.mono (Nat.le_of_lt hlt))⟩
  rw[HZ3.out,HZ2.out,HZ1.out,HT.out,HNM.out,HRD.out,HRS.out,HKL.out,HDK.out]
  exact(txt_5 dn sn tn un an kn pn).symm
 ·skip
  obtain⟨Z1,hz1,cc1,ss1,ll1⟩:=cat2 RD RS 40 40 lRD lRS
  have HZ1:=Lib.hid hz1
  clear hz1
  obtain⟨Z2,hz2,cc2,ss2,ll2⟩:=cat2 Z1 KL 80 40 ll1 lKL
  have HZ2:=Lib.hid hz2
  clear hz2
  obtain⟨Z3,hz3,cc3,ss3,ll3⟩:=cat2 nm Z2 40 120 lnm ll2
  have HZ3:=Lib.hid hz3
  clear hz3
  go_wp2
  refine wp_region_grow (by kernel_rfl) (by kernel_rfl) ?_
  repeat (go_big_quiet_step (first | (go_at_call 165;with_reducible exact grw_call (HRd.out _)) | (go_at_call 165;with_reducible exact grw_call (HRs.out _)) | (go_at_call 165;with_reducible exact grw_call (HRt.out _)) | (go_at_call 165;with_reducible exact grw_call (HRu.out _))))
  refine wpQuiet_nil ?_
  rintro y ⟨⟨_,hy⟩,rfl⟩
  go_wp2
  go_ret
  refine⟨ret_bs ?_,hb.trans (hy.mono (Nat.le_of_lt hlt))⟩
  rw[HZ3.out,HZ2.out,HZ1.out,HT.out,HNM.out,HRD.out,HRS.out,HKL.out,HDK.out]
  exact(txt_6 dn sn tn un an kn pn).symm
 ·skip
  obtain⟨Z1,hz1,cc1,ss1,ll1⟩:=cat2 RD RS 40 40 lRD lRS
  have HZ1:=Lib.hid hz1
  clear hz1
  obtain⟨Z2,hz2,cc2,ss2,ll2⟩:=cat2 Z1 RT 80 40 ll1 lRT
  have HZ2:=Lib.hid hz2
  clear hz2
  obtain⟨Z3,hz3,cc3,ss3,ll3⟩:=cat2 nm Z2 40 120 lnm ll2
  have HZ3:=Lib.hid hz3
  clear hz3
  go_wp2
  refine wp_region_grow (by kernel_rfl) (by kernel_rfl) ?_
  repeat (go_big_quiet_step (first | (go_at_call 165;with_reducible exact grw_call (HRd.out _)) | (go_at_call 165;with_reducible exact grw_call (HRs.out _)) | (go_at_call 165;with_reducible exact grw_call (HRt.out _)) | (go_at_call 165;with_reducible exact grw_call (HRu.out _))))
  refine wpQuiet_nil ?_
  rintro y ⟨⟨_,hy⟩,rfl⟩
  go_wp2
  go_ret
  refine⟨ret_bs ?_,hb.trans (hy.mono (Nat.le_of_lt hlt))⟩
  rw[HZ3.out,HZ2.out,HZ1.out,HT.out,HNM.out,HRD.out,HRS.out,HRT.out]
  exact(txt_7 dn sn tn un an kn pn).symm
 ·skip
  obtain⟨Z1,hz1,cc1,ss1,ll1⟩:=cat2 RS RT 40 40 lRS lRT
  have HZ1:=Lib.hid hz1
  clear hz1
  obtain⟨Z2,hz2,cc2,ss2,ll2⟩:=cat2 Z1 PL 80 40 ll1 lPL
  have HZ2:=Lib.hid hz2
  clear hz2
  obtain⟨Z3,hz3,cc3,ss3,ll3⟩:=cat2 nm Z2 40 120 lnm ll2
  have HZ3:=Lib.hid hz3
  clear hz3
  go_wp2
  refine wp_region_grow (by kernel_rfl) (by kernel_rfl) ?_
  repeat (go_big_quiet_step (first | (go_at_call 165;with_reducible exact grw_call (HRd.out _)) | (go_at_call 165;with_reducible exact grw_call (HRs.out _)) | (go_at_call 165;with_reducible exact grw_call (HRt.out _)) | (go_at_call 165;with_reducible exact grw_call (HRu.out _))))
  refine wpQuiet_nil ?_
  rintro y ⟨⟨_,hy⟩,rfl⟩
  go_wp2
  go_ret
  refine⟨ret_bs ?_,hb.trans (hy.mono (Nat.le_of_lt hlt))⟩
  rw[HZ3.out,HZ2.out,HZ1.out,HT.out,HNM.out,HRS.out,HRT.out,HPL.out,HDP.out]
  exact(txt_8 dn sn tn un an kn pn).symm
 ·skip
  obtain⟨Z1,hz1,cc1,ss1,ll1⟩:=cat2 RS RT 40 40 lRS lRT
  have HZ1:=Lib.hid hz1
  clear hz1
  obtain⟨Z2,hz2,cc2,ss2,ll2⟩:=cat2 Z1 PL 80 40 ll1 lPL
  have HZ2:=Lib.hid hz2
  clear hz2
  obtain⟨Z3,hz3,cc3,ss3,ll3⟩:=cat2 nm Z2 40 120 lnm ll2
  have HZ3:=Lib.hid hz3
  clear hz3
  go_wp2
  refine wp_region_grow (by kernel_rfl) (by kernel_rfl) ?_
  repeat (go_big_quiet_step (first | (go_at_call 165;with_reducible exact grw_call (HRd.out _)) | (go_at_call 165;with_reducible exact grw_call (HRs.out _)) | (go_at_call 165;with_reducible exact grw_call (HRt.out _)) | (go_at_call 165;with_reducible exact grw_call (HRu.out _))))
  refine wpQuiet_nil ?_
  rintro y ⟨⟨_,hy⟩,rfl⟩
  go_wp2
  go_ret
  refine⟨ret_bs ?_,hb.trans (hy.mono (Nat.le_of_lt hlt))⟩
  rw[HZ3.out,HZ2.out,HZ1.out,HT.out,HNM.out,HRS.out,HRT.out,HPL.out,HDP.out]
  exact(txt_9 dn sn tn un an kn pn).symm
 ·skip
  obtain⟨Z1,hz1,cc1,ss1,ll1⟩:=cat2 nm PL 40 40 lnm lPL
  have HZ1:=Lib.hid hz1
  clear hz1
  go_wp2
  go_ret
  refine⟨ret_bs ?_,hb⟩
  rw[HZ1.out,HT.out,HNM.out,HPL.out,HDP.out]
  exact(txt_10 dn sn tn un an kn pn).symm
set_option maxHeartbeats 8000000 in
set_option maxRecDepth 100000 in
theorem rTextB (op:Int)(dn sn tn un an kn pn:Nat)(hop:op=11∨op=22∨op=12∨op=13∨op=16∨op=17∨op=18∨op=19∨op=20∨op=23)(hd:dn < 5000000000)(hs:sn < 5000000000)(ht:tn < 5000000000)(hu:un < 5000000000)(ha:an < 5000000000)(hk:kn < 4294967296)(hp:pn < 5000000000)(w:World):
 Calls Tryz.prog 144 #[iv ⟨op,dn,sn,tn,un,an,kn,pn⟩] w fun e w'=>e=.returned (bs (textL ⟨op,dn,sn,tn,un,an,kn,pn⟩))∧Below w.heap.size w w':=by
 have HRd:=Lib.hid (fun W=>rR dn W hd)
 have HRs:=Lib.hid (fun W=>rR sn W hs)
 have HRt:=Lib.hid (fun W=>rR tn W ht)
 have HRu:=Lib.hid (fun W=>rR un W hu)
 have HDk:=Lib.hid (fun W=>rDig kn W (by omega))
 have HDa:=Lib.hid (fun W=>rDig an W ha)
 have HDp:=Lib.hid (fun W=>rDig pn W hp)
 have HN:=Lib.hid (fun W=>rName op W)
 have lnm:(nmL op).length≤40:=Nat.le_trans (nm_len op) (by decide)
 have lRD:=rL_len dn hd
 have lRS:=rL_len sn hs
 have lRT:=rL_len tn ht
 have lRU:=rL_len un hu
 have lDK:=dec_len kn (by omega)
 have lDA:=dec_len an ha
 have lDP:=dec_len pn hp
 generalize hRD:rL dn=RD at *
 generalize hRS:rL sn=RS at *
 generalize hRT:rL tn=RT at *
 generalize hRU:rL un=RU at *
 generalize hDK:Lib.decDigits kn=DK at *
 generalize hDA:Lib.decDigits an=DA at *
 generalize hDP:Lib.decDigits pn=DP at *
 generalize hnm:nmL op=nm at *
 generalize htx:textL ⟨op,dn,sn,tn,un,an,kn,pn⟩=tx
 have HRD:=Lib.hid hRD.symm
 have HRS:=Lib.hid hRS.symm
 have HRT:=Lib.hid hRT.symm
 have HRU:=Lib.hid hRU.symm
 have HDK:=Lib.hid hDK.symm
 have HDA:=Lib.hid hDA.symm
 have HDP:=Lib.hid hDP.symm
 have HNM:=Lib.hid hnm.symm
 have HT:=Lib.hid htx.symm
 clear hRD hRS hRT hRU hDK hDA hDP hnm htx
 have lKL:(32 :: DK).length≤40:=by simp;omega
 have lAL:(32 :: DA).length≤40:=by simp;omega
 have lPL:(32 :: DP).length≤40:=by simp;omega
 generalize hKL:32 :: DK=KL at *
 generalize hAL:32 :: DA=AL at *
 generalize hPL:32 :: DP=PL at *
 have ck:(⟨#[32]⟩:ByteArray)++⟨DK.toArray⟩=⟨KL.toArray⟩:=by rw[←hKL];exact cat_bs [32] DK
 have ca:(⟨#[32]⟩:ByteArray)++⟨DA.toArray⟩=⟨AL.toArray⟩:=by rw[←hAL];exact cat_bs [32] DA
 have cp:(⟨#[32]⟩:ByteArray)++⟨DP.toArray⟩=⟨PL.toArray⟩:=by rw[←hPL];exact cat_bs [32] DP
 have HKL:=Lib.hid hKL.symm
 have HAL:=Lib.hid hAL.symm
 have HPL:=Lib.hid hPL.symm
 clear hKL hAL hPL
 have sk:¬ 9223372036854775807 < 1+DK.length:=by omega
 have sa:¬ 9223372036854775807 < 1+DA.length:=by omega
 have sp:¬ 9223372036854775807 < 1+DP.length:=by omega
 have hk0:(0:Int)≤(kn:Int):=by omega
 have hk1:(kn:Int) < 4294967296:=by omega
 have hp0:(0:Int)≤(pn:Int):=by omega
 unfold iv
 go_enter Tryz.func144,Tryz.ntmps144
 go_wp2
 generalize hx0:w.alloc (.cells #[.int .i64 op,.int .i64 (dn:Int),.int .i64 (sn:Int),.int .i64 (tn:Int),.int .i64 (un:Int),.int .i64 (an:Int),.int .u32 (kn:Int),.int .i64 (pn:Int)] 125)=x0
 have hJ:Jb x0 w.heap.size ⟨op,dn,sn,tn,un,an,kn,pn⟩:=by rw[←hx0];exact Jb.made w _ _ _ _ _ _ _ _
 have hb:Below w.heap.size w x0:=by rw[←hx0];exact(Below.refl _ _).alloc (Nat.le_refl _) _
 have hlt:w.heap.size < x0.heap.size:=Bk.lt hJ
 clear hx0
 obtain⟨g0,g1,g2,g3,g4,g5,g6,g7⟩:=hJ.grw
 simp only at g0 g1 g2 g3 g4 g5 g6 g7
 refine wp_region_grow (by kernel_rfl) (by kernel_rfl) ?_
 repeat (go_big_quiet_step (first | (go_at_call 164;with_reducible exact grw_call (HDk.out _)) | (go_at_call 164;with_reducible exact grw_call (HDa.out _))))
 refine wpQuiet_nil ?_
 rintro x ⟨⟨_,hx⟩,rfl⟩
 replace hb:=hb.trans (hx.mono (Nat.le_of_lt hlt))
 replace hJ:=hJ.below hx
 replace hlt:w.heap.size < x.heap.size:=Bk.lt hJ
 clear g0 g1 g2 g3 g4 g5 g6 g7 hx ck ca sk sa
 obtain⟨c0,-,-,-,-,-,-,c7⟩:=hJ.cells
 simp only at c0 c7
 go_wp2_with fail
 refine(HDp.out _).mono ?_
 rintro e x1 ⟨rfl,hx⟩
 replace hb:=hb.trans (hx.mono (Nat.le_of_lt hlt))
 replace hJ:=hJ.below hx
 replace hlt:w.heap.size < x1.heap.size:=Bk.lt hJ
 clear hx c0 c7
 obtain⟨c0,-⟩:=hJ.cells
 simp only at c0
 go_wp2_with fail
 refine(HN.out _).mono ?_
 rintro e x2 ⟨rfl,hx⟩
 replace hb:=hb.trans (hx.mono (Nat.le_of_lt hlt))
 replace hJ:=hJ.below hx
 replace hlt:w.heap.size < x2.heap.size:=Bk.lt hJ
 clear hx c0 cp sp
 obtain⟨c0,c1,c2,c3,c4,c5,c6,c7⟩:=hJ.cells
 obtain⟨g0,g1,g2,g3,g4,g5,g6,g7⟩:=hJ.grw
 simp only at c0 c1 c2 c3 c4 c5 c6 c7 g0 g1 g2 g3 g4 g5 g6 g7
 unfold bs
 go_upto_region 6 with (fail)
 rcases hop with rfl | rfl | rfl | rfl | rfl | rfl | rfl | rfl | rfl | rfl
 ·skip
  obtain⟨Z1,hz1,cc1,ss1,ll1⟩:=cat2 nm RD 40 40 lnm lRD
  have HZ1:=Lib.hid hz1
  clear hz1
  go_wp2_with (first | (go_at_call 165;(with_reducible refine(HRd.out _).mono ?_);rintro e y ⟨rfl,hy⟩) | (go_at_call 165;(with_reducible refine(HRs.out _).mono ?_);rintro e y ⟨rfl,hy⟩))
  go_ret
  refine⟨ret_bs ?_,hb.trans (hy.mono (Nat.le_of_lt hlt))⟩
  rw[HZ1.out,HT.out,HNM.out,HRD.out]
  exact(txt_11 dn sn tn un an kn pn).symm
 ·skip
  obtain⟨Z1,hz1,cc1,ss1,ll1⟩:=cat2 nm RD 40 40 lnm lRD
  have HZ1:=Lib.hid hz1
  clear hz1
  go_wp2_with (first | (go_at_call 165;(with_reducible refine(HRd.out _).mono ?_);rintro e y ⟨rfl,hy⟩) | (go_at_call 165;(with_reducible refine(HRs.out _).mono ?_);rintro e y ⟨rfl,hy⟩))
  go_ret
  refine⟨ret_bs ?_,hb.trans (hy.mono (Nat.le_of_lt hlt))⟩
  rw[HZ1.out,HT.out,HNM.out,HRD.out]
  exact(txt_22 dn sn tn un an kn pn).symm
 ·skip
  obtain⟨Z1,hz1,cc1,ss1,ll1⟩:=cat2 nm KL 40 40 lnm lKL
  have HZ1:=Lib.hid hz1
  clear hz1
  go_wp2
  go_ret
  refine⟨ret_bs ?_,hb⟩
  rw[HZ1.out,HT.out,HNM.out,HKL.out,HDK.out]
  exact(txt_12 dn sn tn un an kn pn).symm
 ·skip
  obtain⟨Z1,hz1,cc1,ss1,ll1⟩:=cat2 nm KL 40 40 lnm lKL
  have HZ1:=Lib.hid hz1
  clear hz1
  go_wp2
  go_ret
  refine⟨ret_bs ?_,hb⟩
  rw[HZ1.out,HT.out,HNM.out,HKL.out,HDK.out]
  exact(txt_13 dn sn tn un an kn pn).symm
 ·skip
  obtain⟨Z1,hz1,cc1,ss1,ll1⟩:=cat2 RD AL 40 40 lRD lAL
  have HZ1:=Lib.hid hz1
  clear hz1
  obtain⟨Z2,hz2,cc2,ss2,ll2⟩:=cat2 Z1 RS 80 40 ll1 lRS
  have HZ2:=Lib.hid hz2
  clear hz2
  obtain⟨Z3,hz3,cc3,ss3,ll3⟩:=cat2 nm Z2 40 120 lnm ll2
  have HZ3:=Lib.hid hz3
  clear hz3
  go_wp2
  refine wp_region_grow (by kernel_rfl) (by kernel_rfl) ?_
  repeat (go_big_quiet_step (first | (go_at_call 165;with_reducible exact grw_call (HRd.out _)) | (go_at_call 165;with_reducible exact grw_call (HRs.out _)) | (go_at_call 165;with_reducible exact grw_call (HRt.out _)) | (go_at_call 165;with_reducible exact grw_call (HRu.out _))))
  refine wpQuiet_nil ?_
  rintro y ⟨⟨_,hy⟩,rfl⟩
  go_wp2
  go_ret
  refine⟨ret_bs ?_,hb.trans (hy.mono (Nat.le_of_lt hlt))⟩
  rw[HZ3.out,HZ2.out,HZ1.out,HT.out,HNM.out,HRD.out,HAL.out,HDA.out,HRS.out]
  exact(txt_16 dn sn tn un an kn pn).symm
 ·skip
  obtain⟨Z1,hz1,cc1,ss1,ll1⟩:=cat2 AL RS 40 40 lAL lRS
  have HZ1:=Lib.hid hz1
  clear hz1
  obtain⟨Z2,hz2,cc2,ss2,ll2⟩:=cat2 Z1 RT 80 40 ll1 lRT
  have HZ2:=Lib.hid hz2
  clear hz2
  obtain⟨Z3,hz3,cc3,ss3,ll3⟩:=cat2 nm Z2 40 120 lnm ll2
  have HZ3:=Lib.hid hz3
  clear hz3
  go_wp2
  refine wp_region_grow (by kernel_rfl) (by kernel_rfl) ?_
  repeat (go_big_quiet_step (first | (go_at_call 165;with_reducible exact grw_call (HRd.out _)) | (go_at_call 165;with_reducible exact grw_call (HRs.out _)) | (go_at_call 165;with_reducible exact grw_call (HRt.out _)) | (go_at_call 165;with_reducible exact grw_call (HRu.out _))))
  refine wpQuiet_nil ?_
  rintro y ⟨⟨_,hy⟩,rfl⟩
  go_wp2
  go_ret
  refine⟨ret_bs ?_,hb.trans (hy.mono (Nat.le_of_lt hlt))⟩
  rw[HZ3.out,HZ2.out,HZ1.out,HT.out,HNM.out,HAL.out,HDA.out,HRS.out,HRT.out]
  exact(txt_17 dn sn tn un an kn pn).symm
 ·skip
  obtain⟨Z1,hz1,cc1,ss1,ll1⟩:=cat2 RD AL 40 40 lRD lAL
  have HZ1:=Lib.hid hz1
  clear hz1
  obtain⟨Z2,hz2,cc2,ss2,ll2⟩:=cat2 Z1 RS 80 40 ll1 lRS
  have HZ2:=Lib.hid hz2
  clear hz2
  obtain⟨Z3,hz3,cc3,ss3,ll3⟩:=cat2 Z2 RT 120 40 ll2 lRT
  have HZ3:=Lib.hid hz3
  clear hz3
  obtain⟨Z4,hz4,cc4,ss4,ll4⟩:=cat2 nm Z3 40 160 lnm ll3
  have HZ4:=Lib.hid hz4
  clear hz4
  go_wp2
  refine wp_region_grow (by kernel_rfl) (by kernel_rfl) ?_
  repeat (go_big_quiet_step (first | (go_at_call 165;with_reducible exact grw_call (HRd.out _)) | (go_at_call 165;with_reducible exact grw_call (HRs.out _)) | (go_at_call 165;with_reducible exact grw_call (HRt.out _)) | (go_at_call 165;with_reducible exact grw_call (HRu.out _))))
  refine wpQuiet_nil ?_
  rintro y ⟨⟨_,hy⟩,rfl⟩
  go_wp2
  go_ret
  refine⟨ret_bs ?_,hb.trans (hy.mono (Nat.le_of_lt hlt))⟩
  rw[HZ4.out,HZ3.out,HZ2.out,HZ1.out,HT.out,HNM.out,HRD.out,HAL.out,HDA.out,HRS.out,HRT.out]
  exact(txt_18 dn sn tn un an kn pn).symm
 ·skip
  obtain⟨Z1,hz1,cc1,ss1,ll1⟩:=cat2 RD AL 40 40 lRD lAL
  have HZ1:=Lib.hid hz1
  clear hz1
  obtain⟨Z2,hz2,cc2,ss2,ll2⟩:=cat2 Z1 RS 80 40 ll1 lRS
  have HZ2:=Lib.hid hz2
  clear hz2
  obtain⟨Z3,hz3,cc3,ss3,ll3⟩:=cat2 Z2 RT 120 40 ll2 lRT
  have HZ3:=Lib.hid hz3
  clear hz3
  obtain⟨Z4,hz4,cc4,ss4,ll4⟩:=cat2 Z3 RU 160 40 ll3 lRU
  have HZ4:=Lib.hid hz4
  clear hz4
  obtain⟨Z5,hz5,cc5,ss5,ll5⟩:=cat2 nm Z4 40 200 lnm ll4
  have HZ5:=Lib.hid hz5
  clear hz5
  go_wp2
  refine wp_region_grow (by kernel_rfl) (by kernel_rfl) ?_
  repeat (go_big_quiet_step (first | (go_at_call 165;with_reducible exact grw_call (HRd.out _)) | (go_at_call 165;with_reducible exact grw_call (HRs.out _)) | (go_at_call 165;with_reducible exact grw_call (HRt.out _)) | (go_at_call 165;with_reducible exact grw_call (HRu.out _))))
  refine wpQuiet_nil ?_
  rintro y ⟨⟨_,hy⟩,rfl⟩
  go_wp2
  go_ret
  refine⟨ret_bs ?_,hb.trans (hy.mono (Nat.le_of_lt hlt))⟩
  rw[HZ5.out,HZ4.out,HZ3.out,HZ2.out,HZ1.out,HT.out,HNM.out,HRD.out,HAL.out,HDA.out,HRS.out,HRT.out,HRU.out]
  exact(txt_19 dn sn tn un an kn pn).symm
 ·skip
  obtain⟨Z1,hz1,cc1,ss1,ll1⟩:=cat2 RD AL 40 40 lRD lAL
  have HZ1:=Lib.hid hz1
  clear hz1
  obtain⟨Z2,hz2,cc2,ss2,ll2⟩:=cat2 Z1 RS 80 40 ll1 lRS
  have HZ2:=Lib.hid hz2
  clear hz2
  obtain⟨Z3,hz3,cc3,ss3,ll3⟩:=cat2 Z2 KL 120 40 ll2 lKL
  have HZ3:=Lib.hid hz3
  clear hz3
  obtain⟨Z4,hz4,cc4,ss4,ll4⟩:=cat2 nm Z3 40 160 lnm ll3
  have HZ4:=Lib.hid hz4
  clear hz4
  go_wp2
  refine wp_region_grow (by kernel_rfl) (by kernel_rfl) ?_
  repeat (go_big_quiet_step (first | (go_at_call 165;with_reducible exact grw_call (HRd.out _)) | (go_at_call 165;with_reducible exact grw_call (HRs.out _)) | (go_at_call 165;with_reducible exact grw_call (HRt.out _)) | (go_at_call 165;with_reducible exact grw_call (HRu.out _))))
  refine wpQuiet_nil ?_
  rintro y ⟨⟨_,hy⟩,rfl⟩
  go_wp2
  go_ret
  refine⟨ret_bs ?_,hb.trans (hy.mono (Nat.le_of_lt hlt))⟩
  rw[HZ4.out,HZ3.out,HZ2.out,HZ1.out,HT.out,HNM.out,HRD.out,HAL.out,HDA.out,HRS.out,HKL.out,HDK.out]
  exact(txt_20 dn sn tn un an kn pn).symm
 ·skip
  obtain⟨Z1,hz1,cc1,ss1,ll1⟩:=cat2 nm RS 40 40 lnm lRS
  have HZ1:=Lib.hid hz1
  clear hz1
  go_wp2_with (first | (go_at_call 165;(with_reducible refine(HRd.out _).mono ?_);rintro e y ⟨rfl,hy⟩) | (go_at_call 165;(with_reducible refine(HRs.out _).mono ?_);rintro e y ⟨rfl,hy⟩))
  go_ret
  refine⟨ret_bs ?_,hb.trans (hy.mono (Nat.le_of_lt hlt))⟩
  rw[HZ1.out,HT.out,HNM.out,HRS.out]
  exact(txt_23 dn sn tn un an kn pn).symm
theorem txt_21_0p (dn sn tn un an pn:Nat):textL ⟨21,dn,sn,tn,un,an,0,pn⟩=nmL 21++(rL dn++(32 :: Lib.decDigits an)++rL sn++[32,101,113]++rL tn)++([32,101,108,115,101]++(32 :: Lib.decDigits pn)):=by
 have e:¬ ((pn:Int)=-1):=by omega
 simp[textL,hsL,partsL,partL,getI,rL,itoa_nat,e]
theorem txt_21_0m (dn sn tn un an pn:Nat):textL ⟨21,dn,sn,tn,un,an,0,-1⟩=nmL 21++(rL dn++(32 :: Lib.decDigits an)++rL sn++[32,101,113]++rL tn):=by
 simp[textL,hsL,partsL,partL,getI,rL,itoa_nat]
theorem txt_21_1p (dn sn tn un an pn:Nat):textL ⟨21,dn,sn,tn,un,an,1,pn⟩=nmL 21++(rL dn++(32 :: Lib.decDigits an)++rL sn++[32,110,101]++rL tn)++([32,101,108,115,101]++(32 :: Lib.decDigits pn)):=by
 have e:¬ ((pn:Int)=-1):=by omega
 simp[textL,hsL,partsL,partL,getI,rL,itoa_nat,e]
theorem txt_21_1m (dn sn tn un an pn:Nat):textL ⟨21,dn,sn,tn,un,an,1,-1⟩=nmL 21++(rL dn++(32 :: Lib.decDigits an)++rL sn++[32,110,101]++rL tn):=by
 simp[textL,hsL,partsL,partL,getI,rL,itoa_nat]
set_option maxHeartbeats 8000000 in
set_option maxRecDepth 100000 in
theorem rText21_0p (dn sn tn un an pn:Nat)(hd:dn < 5000000000)(hs:sn < 5000000000)(ht:tn < 5000000000)(hu:un < 5000000000)(ha:an < 5000000000)(hp:pn < 5000000000)(w:World):
 Calls Tryz.prog 144 #[iv ⟨21,dn,sn,tn,un,an,0,pn⟩] w fun e w'=>e=.returned (bs (textL ⟨21,dn,sn,tn,un,an,0,pn⟩))∧Below w.heap.size w w':=by
 have HRd:=Lib.hid (fun W=>rR dn W hd)
 have HRs:=Lib.hid (fun W=>rR sn W hs)
 have HRt:=Lib.hid (fun W=>rR tn W ht)
 have HRu:=Lib.hid (fun W=>rR un W hu)
 have HDk:=Lib.hid (fun W=>rDig 0 W (by decide))
 have HDa:=Lib.hid (fun W=>rDig an W ha)
 have HDp:=Lib.hid (fun W=>rDig pn W hp)
 have HN:=Lib.hid (fun W=>rName 21 W)
 have lnm:(nmL 21).length≤40:=Nat.le_trans (nm_len 21) (by decide)
 have lRD:=rL_len dn hd
 have lRS:=rL_len sn hs
 have lRT:=rL_len tn ht
 have lRU:=rL_len un hu
 have lDK:=dec_len 0 (by decide)
 have lDA:=dec_len an ha
 have lDP:=dec_len pn hp
 generalize hRD:rL dn=RD at *
 generalize hRS:rL sn=RS at *
 generalize hRT:rL tn=RT at *
 generalize hRU:rL un=RU at *
 generalize hDK:Lib.decDigits 0=DK at *
 generalize hDA:Lib.decDigits an=DA at *
 generalize hDP:Lib.decDigits pn=DP at *
 generalize hnm:nmL 21=nm at *
 generalize htx:textL ⟨21,dn,sn,tn,un,an,0,pn⟩=tx
 have HRD:=Lib.hid hRD.symm
 have HRS:=Lib.hid hRS.symm
 have HRT:=Lib.hid hRT.symm
 have HRU:=Lib.hid hRU.symm
 have HDK:=Lib.hid hDK.symm
 have HDA:=Lib.hid hDA.symm
 have HDP:=Lib.hid hDP.symm
 have HNM:=Lib.hid hnm.symm
 have HT:=Lib.hid htx.symm
 clear hRD hRS hRT hRU hDK hDA hDP hnm htx
 have lKL:(32 :: DK).length≤40:=by simp;omega
 have lAL:(32 :: DA).length≤40:=by simp;omega
 have lPL:(32 :: DP).length≤40:=by simp;omega
 generalize hKL:32 :: DK=KL at *
 generalize hAL:32 :: DA=AL at *
 generalize hPL:32 :: DP=PL at *
 have ck:(⟨#[32]⟩:ByteArray)++⟨DK.toArray⟩=⟨KL.toArray⟩:=by rw[←hKL];exact cat_bs [32] DK
 have ca:(⟨#[32]⟩:ByteArray)++⟨DA.toArray⟩=⟨AL.toArray⟩:=by rw[←hAL];exact cat_bs [32] DA
 have cp:(⟨#[32]⟩:ByteArray)++⟨DP.toArray⟩=⟨PL.toArray⟩:=by rw[←hPL];exact cat_bs [32] DP
 have HKL:=Lib.hid hKL.symm
 have HAL:=Lib.hid hAL.symm
 have HPL:=Lib.hid hPL.symm
 clear hKL hAL hPL
 have sk:¬ 9223372036854775807 < 1+DK.length:=by omega
 have sa:¬ 9223372036854775807 < 1+DA.length:=by omega
 have sp:¬ 9223372036854775807 < 1+DP.length:=by omega
 have hp0:(0:Int)≤(pn:Int):=by omega
 unfold iv
 go_enter Tryz.func144,Tryz.ntmps144
 go_wp2
 generalize hx0:w.alloc (.cells #[.int .i64 21,.int .i64 (dn:Int),.int .i64 (sn:Int),.int .i64 (tn:Int),.int .i64 (un:Int),.int .i64 (an:Int),.int .u32 0,.int .i64 (pn:Int)] 125)=x0
 have hJ:Jb x0 w.heap.size ⟨21,dn,sn,tn,un,an,0,pn⟩:=by rw[←hx0];exact Jb.made w _ _ _ _ _ _ _ _
 have hb:Below w.heap.size w x0:=by rw[←hx0];exact(Below.refl _ _).alloc (Nat.le_refl _) _
 have hlt:w.heap.size < x0.heap.size:=Bk.lt hJ
 clear hx0
 obtain⟨g0,g1,g2,g3,g4,g5,g6,g7⟩:=hJ.grw
 simp only at g0 g1 g2 g3 g4 g5 g6 g7
 refine wp_region_grow (by kernel_rfl) (by kernel_rfl) ?_
 repeat (go_big_quiet_step (first | (go_at_call 164;with_reducible exact grw_call (HDk.out _)) | (go_at_call 164;with_reducible exact grw_call (HDa.out _))))
 refine wpQuiet_nil ?_
 rintro x ⟨⟨_,hx⟩,rfl⟩
 replace hb:=hb.trans (hx.mono (Nat.le_of_lt hlt))
 replace hJ:=hJ.below hx
 replace hlt:w.heap.size < x.heap.size:=Bk.lt hJ
 clear g0 g1 g2 g3 g4 g5 g6 g7 hx ck ca sk sa
 obtain⟨c0,-,-,-,-,-,-,c7⟩:=hJ.cells
 simp only at c0 c7
 go_wp2_with fail
 refine(HDp.out _).mono ?_
 rintro e x1 ⟨rfl,hx⟩
 replace hb:=hb.trans (hx.mono (Nat.le_of_lt hlt))
 replace hJ:=hJ.below hx
 replace hlt:w.heap.size < x1.heap.size:=Bk.lt hJ
 clear hx c0 c7
 obtain⟨c0,-⟩:=hJ.cells
 simp only at c0
 go_wp2_with fail
 refine(HN.out _).mono ?_
 rintro e x2 ⟨rfl,hx⟩
 replace hb:=hb.trans (hx.mono (Nat.le_of_lt hlt))
 replace hJ:=hJ.below hx
 replace hlt:w.heap.size < x2.heap.size:=Bk.lt hJ
 clear hx c0 cp sp
 obtain⟨c0,c1,c2,c3,c4,c5,c6,c7⟩:=hJ.cells
 obtain⟨g0,g1,g2,g3,g4,g5,g6,g7⟩:=hJ.grw
 simp only at c0 c1 c2 c3 c4 c5 c6 c7 g0 g1 g2 g3 g4 g5 g6 g7
 unfold bs
 have lWW:([32,101,113]:List UInt8).length≤40:=by decide
 obtain⟨Z1,hz1,cc1,ss1,ll1⟩:=cat2 RD AL 40 40 lRD lAL
 have HZ1:=Lib.hid hz1
 clear hz1
 obtain⟨Z2,hz2,cc2,ss2,ll2⟩:=cat2 Z1 RS 80 40 ll1 lRS
 have HZ2:=Lib.hid hz2
 clear hz2
 obtain⟨Z3,hz3,cc3,ss3,ll3⟩:=cat2 Z2 [32,101,113] 120 40 ll2 lWW
 simp only[List.length_cons,List.length_nil,Nat.zero_add,Nat.reduceAdd] at ss3
 have HZ3:=Lib.hid hz3
 clear hz3
 obtain⟨Z4,hz4,cc4,ss4,ll4⟩:=cat2 Z3 RT 160 40 ll3 lRT
 have HZ4:=Lib.hid hz4
 clear hz4
 obtain⟨Z5,hz5,cc5,ss5,ll5⟩:=cat2 nm Z4 40 200 lnm ll4
 have HZ5:=Lib.hid hz5
 clear hz5
 have lEL:([32,101,108,115,101]:List UInt8).length≤40:=by decide
 obtain⟨Z6,hz6,cc6,ss6,ll6⟩:=cat2 [32,101,108,115,101] PL 40 40 lEL lPL
 simp only[List.length_cons,List.length_nil,Nat.zero_add,Nat.reduceAdd] at ss6
 have HZ6:=Lib.hid hz6
 clear hz6
 obtain⟨Z7,hz7,cc7,ss7,ll7⟩:=cat2 Z5 Z6 240 80 ll5 ll6
 have HZ7:=Lib.hid hz7
 clear hz7
 clear lWW
 go_wp2
 refine wp_region_grow (by kernel_rfl) (by kernel_rfl) ?_
 repeat (go_big_quiet_step (first | (go_at_call 165;with_reducible exact grw_call (HRd.out _)) | (go_at_call 165;with_reducible exact grw_call (HRs.out _)) | (go_at_call 165;with_reducible exact grw_call (HRt.out _)) | (go_at_call 165;with_reducible exact grw_call (HRu.out _))))
 refine wpQuiet_nil ?_
 rintro y ⟨⟨_,hy⟩,rfl⟩
 replace hb:=hb.trans (hy.mono (Nat.le_of_lt hlt))
 replace hJ:=hJ.below hy
 clear c0 c1 c2 c3 c4 c5 c6 c7 g0 g1 g2 g3 g4 g5 g6 g7
 obtain⟨-,-,-,-,-,-,-,c7⟩:=hJ.cells
 simp only at c7
 go_wp2
 go_ret
 refine⟨ret_bs ?_,hb⟩
 rw[HZ7.out,HZ6.out,HZ5.out,HZ4.out,HZ3.out,HZ2.out,HZ1.out,HT.out,HNM.out,HRD.out,HAL.out,HDA.out,HRS.out,HRT.out,HPL.out,HDP.out]
 exact(txt_21_0p dn sn tn un an pn).symm
set_option maxHeartbeats 8000000 in
set_option maxRecDepth 100000 in
theorem rText21_0m (dn sn tn un an pn:Nat)(hd:dn < 5000000000)(hs:sn < 5000000000)(ht:tn < 5000000000)(hu:un < 5000000000)(ha:an < 5000000000)(hp:pn < 5000000000)(w:World):
 Calls Tryz.prog 144 #[iv ⟨21,dn,sn,tn,un,an,0,-1⟩] w fun e w'=>e=.returned (bs (textL ⟨21,dn,sn,tn,un,an,0,-1⟩))∧Below w.heap.size w w':=by
 have HRd:=Lib.hid (fun W=>rR dn W hd)
 have HRs:=Lib.hid (fun W=>rR sn W hs)
 have HRt:=Lib.hid (fun W=>rR tn W ht)
 have HRu:=Lib.hid (fun W=>rR un W hu)
 have HDk:=Lib.hid (fun W=>rDig 0 W (by decide))
 have HDa:=Lib.hid (fun W=>rDig an W ha)
 have HDp:=Lib.hid (fun W=>rDig pn W hp)
 have HN:=Lib.hid (fun W=>rName 21 W)
 have lnm:(nmL 21).length≤40:=Nat.le_trans (nm_len 21) (by decide)
 have lRD:=rL_len dn hd
 have lRS:=rL_len sn hs
 have lRT:=rL_len tn ht
 have lRU:=rL_len un hu
 have lDK:=dec_len 0 (by decide)
 have lDA:=dec_len an ha
 have lDP:=dec_len pn hp
 generalize hRD:rL dn=RD at *
 generalize hRS:rL sn=RS at *
 generalize hRT:rL tn=RT at *
 generalize hRU:rL un=RU at *
 generalize hDK:Lib.decDigits 0=DK at *
 generalize hDA:Lib.decDigits an=DA at *
 generalize hDP:Lib.decDigits pn=DP at *
 generalize hnm:nmL 21=nm at *
 generalize htx:textL ⟨21,dn,sn,tn,un,an,0,-1⟩=tx
 have HRD:=Lib.hid hRD.symm
 have HRS:=Lib.hid hRS.symm
 have HRT:=Lib.hid hRT.symm
 have HRU:=Lib.hid hRU.symm
 have HDK:=Lib.hid hDK.symm
 have HDA:=Lib.hid hDA.symm
 have HDP:=Lib.hid hDP.symm
 have HNM:=Lib.hid hnm.symm
 have HT:=Lib.hid htx.symm
 clear hRD hRS hRT hRU hDK hDA hDP hnm htx
 have lKL:(32 :: DK).length≤40:=by simp;omega
 have lAL:(32 :: DA).length≤40:=by simp;omega
 have lPL:(32 :: DP).length≤40:=by simp;omega
 generalize hKL:32 :: DK=KL at *
 generalize hAL:32 :: DA=AL at *
 generalize hPL:32 :: DP=PL at *
 have ck:(⟨#[32]⟩:ByteArray)++⟨DK.toArray⟩=⟨KL.toArray⟩:=by rw[←hKL];exact cat_bs [32] DK
 have ca:(⟨#[32]⟩:ByteArray)++⟨DA.toArray⟩=⟨AL.toArray⟩:=by rw[←hAL];exact cat_bs [32] DA
 have cp:(⟨#[32]⟩:ByteArray)++⟨DP.toArray⟩=⟨PL.toArray⟩:=by rw[←hPL];exact cat_bs [32] DP
 have HKL:=Lib.hid hKL.symm
 have HAL:=Lib.hid hAL.symm
 have HPL:=Lib.hid hPL.symm
 clear hKL hAL hPL
 have sk:¬ 9223372036854775807 < 1+DK.length:=by omega
 have sa:¬ 9223372036854775807 < 1+DA.length:=by omega
 have sp:¬ 9223372036854775807 < 1+DP.length:=by omega
 unfold iv
 go_enter Tryz.func144,Tryz.ntmps144
 go_wp2
 generalize hx0:w.alloc (.cells #[.int .i64 21,.int .i64 (dn:Int),.int .i64 (sn:Int),.int .i64 (tn:Int),.int .i64 (un:Int),.int .i64 (an:Int),.int .u32 0,.int .i64 (-1)] 125)=x0
 have hJ:Jb x0 w.heap.size ⟨21,dn,sn,tn,un,an,0,-1⟩:=by rw[←hx0];exact Jb.made w _ _ _ _ _ _ _ _
 have hb:Below w.heap.size w x0:=by rw[←hx0];exact(Below.refl _ _).alloc (Nat.le_refl _) _
 have hlt:w.heap.size < x0.heap.size:=Bk.lt hJ
 clear hx0
 obtain⟨g0,g1,g2,g3,g4,g5,g6,g7⟩:=hJ.grw
 simp only at g0 g1 g2 g3 g4 g5 g6 g7
 refine wp_region_grow (by kernel_rfl) (by kernel_rfl) ?_
 repeat (go_big_quiet_step (first | (go_at_call 164;with_reducible exact grw_call (HDk.out _)) | (go_at_call 164;with_reducible exact grw_call (HDa.out _))))
 refine wpQuiet_nil ?_
 rintro x ⟨⟨_,hx⟩,rfl⟩
 replace hb:=hb.trans (hx.mono (Nat.le_of_lt hlt))
 replace hJ:=hJ.below hx
 replace hlt:w.heap.size < x.heap.size:=Bk.lt hJ
 clear g0 g1 g2 g3 g4 g5 g6 g7 hx ck ca sk sa
 obtain⟨c0,-,-,-,-,-,-,c7⟩:=hJ.cells
 simp only at c0 c7
 go_wp2_with fail
 refine(HN.out _).mono ?_
 rintro e x2 ⟨rfl,hx⟩
 replace hb:=hb.trans (hx.mono (Nat.le_of_lt hlt))
 replace hJ:=hJ.below hx
 replace hlt:w.heap.size < x2.heap.size:=Bk.lt hJ
 clear hx c0 c7 cp sp
 obtain⟨c0,c1,c2,c3,c4,c5,c6,c7⟩:=hJ.cells
 obtain⟨g0,g1,g2,g3,g4,g5,g6,g7⟩:=hJ.grw
 simp only at c0 c1 c2 c3 c4 c5 c6 c7 g0 g1 g2 g3 g4 g5 g6 g7
 unfold bs
 have lWW:([32,101,113]:List UInt8).length≤40:=by decide
 obtain⟨Z1,hz1,cc1,ss1,ll1⟩:=cat2 RD AL 40 40 lRD lAL
 have HZ1:=Lib.hid hz1
 clear hz1
 obtain⟨Z2,hz2,cc2,ss2,ll2⟩:=cat2 Z1 RS 80 40 ll1 lRS
 have HZ2:=Lib.hid hz2
 clear hz2
 obtain⟨Z3,hz3,cc3,ss3,ll3⟩:=cat2 Z2 [32,101,113] 120 40 ll2 lWW
 simp only[List.length_cons,List.length_nil,Nat.zero_add,Nat.reduceAdd] at ss3
 have HZ3:=Lib.hid hz3
 clear hz3
 obtain⟨Z4,hz4,cc4,ss4,ll4⟩:=cat2 Z3 RT 160 40 ll3 lRT
 have HZ4:=Lib.hid hz4
 clear hz4
 obtain⟨Z5,hz5,cc5,ss5,ll5⟩:=cat2 nm Z4 40 200 lnm ll4
 have HZ5:=Lib.hid hz5
 clear hz5
 clear lWW
 go_wp2
 refine wp_region_grow (by kernel_rfl) (by kernel_rfl) ?_
 repeat (go_big_quiet_step (first | (go_at_call 165;with_reducible exact grw_call (HRd.out _)) | (go_at_call 165;with_reducible exact grw_call (HRs.out _)) | (go_at_call 165;with_reducible exact grw_call (HRt.out _)) | (go_at_call 165;with_reducible exact grw_call (HRu.out _))))
 refine wpQuiet_nil ?_
 rintro y ⟨⟨_,hy⟩,rfl⟩
 replace hb:=hb.trans (hy.mono (Nat.le_of_lt hlt))
 replace hJ:=hJ.below hy
 clear c0 c1 c2 c3 c4 c5 c6 c7 g0 g1 g2 g3 g4 g5 g6 g7
 obtain⟨-,-,-,-,-,-,-,c7⟩:=hJ.cells
 simp only at c7
 go_wp2
 go_ret
 refine⟨ret_bs ?_,hb⟩
 rw[HZ5.out,HZ4.out,HZ3.out,HZ2.out,HZ1.out,HT.out,HNM.out,HRD.out,HAL.out,HDA.out,HRS.out,HRT.out]
 exact(txt_21_0m dn sn tn un an pn).symm
set_option maxHeartbeats 8000000 in
set_option maxRecDepth 100000 in
theorem rText21_1p (dn sn tn un an pn:Nat)(hd:dn < 5000000000)(hs:sn < 5000000000)(ht:tn < 5000000000)(hu:un < 5000000000)(ha:an < 5000000000)(hp:pn < 5000000000)(w:World):
 Calls Tryz.prog 144 #[iv ⟨21,dn,sn,tn,un,an,1,pn⟩] w fun e w'=>e=.returned (bs (textL ⟨21,dn,sn,tn,un,an,1,pn⟩))∧Below w.heap.size w w':=by
 have HRd:=Lib.hid (fun W=>rR dn W hd)
 have HRs:=Lib.hid (fun W=>rR sn W hs)
 have HRt:=Lib.hid (fun W=>rR tn W ht)
 have HRu:=Lib.hid (fun W=>rR un W hu)
 have HDk:=Lib.hid (fun W=>rDig 1 W (by decide))
 have HDa:=Lib.hid (fun W=>rDig an W ha)
 have HDp:=Lib.hid (fun W=>rDig pn W hp)
 have HN:=Lib.hid (fun W=>rName 21 W)
 have lnm:(nmL 21).length≤40:=Nat.le_trans (nm_len 21) (by decide)
 have lRD:=rL_len dn hd
 have lRS:=rL_len sn hs
 have lRT:=rL_len tn ht
 have lRU:=rL_len un hu
 have lDK:=dec_len 1 (by decide)
 have lDA:=dec_len an ha
 have lDP:=dec_len pn hp
 generalize hRD:rL dn=RD at *
 generalize hRS:rL sn=RS at *
 generalize hRT:rL tn=RT at *
 generalize hRU:rL un=RU at *
 generalize hDK:Lib.decDigits 1=DK at *
 generalize hDA:Lib.decDigits an=DA at *
 generalize hDP:Lib.decDigits pn=DP at *
 generalize hnm:nmL 21=nm at *
 generalize htx:textL ⟨21,dn,sn,tn,un,an,1,pn⟩=tx
 have HRD:=Lib.hid hRD.symm
 have HRS:=Lib.hid hRS.symm
 have HRT:=Lib.hid hRT.symm
 have HRU:=Lib.hid hRU.symm
 have HDK:=Lib.hid hDK.symm
 have HDA:=Lib.hid hDA.symm
 have HDP:=Lib.hid hDP.symm
 have HNM:=Lib.hid hnm.symm
 have HT:=Lib.hid htx.symm
 clear hRD hRS hRT hRU hDK hDA hDP hnm htx
 have lKL:(32 :: DK).length≤40:=by simp;omega
 have lAL:(32 :: DA).length≤40:=by simp;omega
 have lPL:(32 :: DP).length≤40:=by simp;omega
 generalize hKL:32 :: DK=KL at *
 generalize hAL:32 :: DA=AL at *
 generalize hPL:32 :: DP=PL at *
 have ck:(⟨#[32]⟩:ByteArray)++⟨DK.toArray⟩=⟨KL.toArray⟩:=by rw[←hKL];exact cat_bs [32] DK
 have ca:(⟨#[32]⟩:ByteArray)++⟨DA.toArray⟩=⟨AL.toArray⟩:=by rw[←hAL];exact cat_bs [32] DA
 have cp:(⟨#[32]⟩:ByteArray)++⟨DP.toArray⟩=⟨PL.toArray⟩:=by rw[←hPL];exact cat_bs [32] DP
 have HKL:=Lib.hid hKL.symm
 have HAL:=Lib.hid hAL.symm
 have HPL:=Lib.hid hPL.symm
 clear hKL hAL hPL
 have sk:¬ 9223372036854775807 < 1+DK.length:=by omega
 have sa:¬ 9223372036854775807 < 1+DA.length:=by omega
 have sp:¬ 9223372036854775807 < 1+DP.length:=by omega
 have hp0:(0:Int)≤(pn:Int):=by omega
 unfold iv
 go_enter Tryz.func144,Tryz.ntmps144
 go_wp2
 generalize hx0:w.alloc (.cells #[.int .i64 21,.int .i64 (dn:Int),.int .i64 (sn:Int),.int .i64 (tn:Int),.int .i64 (un:Int),.int .i64 (an:Int),.int .u32 1,.int .i64 (pn:Int)] 125)=x0
 have hJ:Jb x0 w.heap.size ⟨21,dn,sn,tn,un,an,1,pn⟩:=by rw[←hx0];exact Jb.made w _ _ _ _ _ _ _ _
 have hb:Below w.heap.size w x0:=by rw[←hx0];exact(Below.refl _ _).alloc (Nat.le_refl _) _
 have hlt:w.heap.size < x0.heap.size:=Bk.lt hJ
 clear hx0
 obtain⟨g0,g1,g2,g3,g4,g5,g6,g7⟩:=hJ.grw
 simp only at g0 g1 g2 g3 g4 g5 g6 g7
 refine wp_region_grow (by kernel_rfl) (by kernel_rfl) ?_
 repeat (go_big_quiet_step (first | (go_at_call 164;with_reducible exact grw_call (HDk.out _)) | (go_at_call 164;with_reducible exact grw_call (HDa.out _))))
 refine wpQuiet_nil ?_
 rintro x ⟨⟨_,hx⟩,rfl⟩
 replace hb:=hb.trans (hx.mono (Nat.le_of_lt hlt))
 replace hJ:=hJ.below hx
 replace hlt:w.heap.size < x.heap.size:=Bk.lt hJ
 clear g0 g1 g2 g3 g4 g5 g6 g7 hx ck ca sk sa
 obtain⟨c0,-,-,-,-,-,-,c7⟩:=hJ.cells
 simp only at c0 c7
 go_wp2_with fail
 refine(HDp.out _).mono ?_
 rintro e x1 ⟨rfl,hx⟩
 replace hb:=hb.trans (hx.mono (Nat.le_of_lt hlt))
 replace hJ:=hJ.below hx
 replace hlt:w.heap.size < x1.heap.size:=Bk.lt hJ
 clear hx c0 c7
 obtain⟨c0,-⟩:=hJ.cells
 simp only at c0
 go_wp2_with fail
 refine(HN.out _).mono ?_
 rintro e x2 ⟨rfl,hx⟩
 replace hb:=hb.trans (hx.mono (Nat.le_of_lt hlt))
 replace hJ:=hJ.below hx
 replace hlt:w.heap.size < x2.heap.size:=Bk.lt hJ
 clear hx c0 cp sp
 obtain⟨c0,c1,c2,c3,c4,c5,c6,c7⟩:=hJ.cells
 obtain⟨g0,g1,g2,g3,g4,g5,g6,g7⟩:=hJ.grw
 simp only at c0 c1 c2 c3 c4 c5 c6 c7 g0 g1 g2 g3 g4 g5 g6 g7
 unfold bs
 have lWW:([32,110,101]:List UInt8).length≤40:=by decide
 obtain⟨Z1,hz1,cc1,ss1,ll1⟩:=cat2 RD AL 40 40 lRD lAL
 have HZ1:=Lib.hid hz1
 clear hz1
 obtain⟨Z2,hz2,cc2,ss2,ll2⟩:=cat2 Z1 RS 80 40 ll1 lRS
 have HZ2:=Lib.hid hz2
 clear hz2
 obtain⟨Z3,hz3,cc3,ss3,ll3⟩:=cat2 Z2 [32,110,101] 120 40 ll2 lWW
 simp only[List.length_cons,List.length_nil,Nat.zero_add,Nat.reduceAdd] at ss3
 have HZ3:=Lib.hid hz3
 clear hz3
 obtain⟨Z4,hz4,cc4,ss4,ll4⟩:=cat2 Z3 RT 160 40 ll3 lRT
 have HZ4:=Lib.hid hz4
 clear hz4
 obtain⟨Z5,hz5,cc5,ss5,ll5⟩:=cat2 nm Z4 40 200 lnm ll4
 have HZ5:=Lib.hid hz5
 clear hz5
 have lEL:([32,101,108,115,101]:List UInt8).length≤40:=by decide
 obtain⟨Z6,hz6,cc6,ss6,ll6⟩:=cat2 [32,101,108,115,101] PL 40 40 lEL lPL
 simp only[List.length_cons,List.length_nil,Nat.zero_add,Nat.reduceAdd] at ss6
 have HZ6:=Lib.hid hz6
 clear hz6
 obtain⟨Z7,hz7,cc7,ss7,ll7⟩:=cat2 Z5 Z6 240 80 ll5 ll6
 have HZ7:=Lib.hid hz7
 clear hz7
 clear lWW
 go_wp2
 refine wp_region_grow (by kernel_rfl) (by kernel_rfl) ?_
 repeat (go_big_quiet_step (first | (go_at_call 165;with_reducible exact grw_call (HRd.out _)) | (go_at_call 165;with_reducible exact grw_call (HRs.out _)) | (go_at_call 165;with_reducible exact grw_call (HRt.out _)) | (go_at_call 165;with_reducible exact grw_call (HRu.out _))))
 refine wpQuiet_nil ?_
 rintro y ⟨⟨_,hy⟩,rfl⟩
 replace hb:=hb.trans (hy.mono (Nat.le_of_lt hlt))
 replace hJ:=hJ.below hy
 clear c0 c1 c2 c3 c4 c5 c6 c7 g0 g1 g2 g3 g4 g5 g6 g7
 obtain⟨-,-,-,-,-,-,-,c7⟩:=hJ.cells
 simp only at c7
 go_wp2
 go_ret
 refine⟨ret_bs ?_,hb⟩
 rw[HZ7.out,HZ6.out,HZ5.out,HZ4.out,HZ3.out,HZ2.out,HZ1.out,HT.out,HNM.out,HRD.out,HAL.out,HDA.out,HRS.out,HRT.out,HPL.out,HDP.out]
 exact(txt_21_1p dn sn tn un an pn).symm
set_option maxHeartbeats 8000000 in
set_option maxRecDepth 100000 in
theorem rText21_1m (dn sn tn un an pn:Nat)(hd:dn < 5000000000)(hs:sn < 5000000000)(ht:tn < 5000000000)(hu:un < 5000000000)(ha:an < 5000000000)(hp:pn < 5000000000)(w:World):
 Calls Tryz.prog 144 #[iv ⟨21,dn,sn,tn,un,an,1,-1⟩] w fun e w'=>e=.returned (bs (textL ⟨21,dn,sn,tn,un,an,1,-1⟩))∧Below w.heap.size w w':=by
 have HRd:=Lib.hid (fun W=>rR dn W hd)
 have HRs:=Lib.hid (fun W=>rR sn W hs)
 have HRt:=Lib.hid (fun W=>rR tn W ht)
 have HRu:=Lib.hid (fun W=>rR un W hu)
 have HDk:=Lib.hid (fun W=>rDig 1 W (by decide))
 have HDa:=Lib.hid (fun W=>rDig an W ha)
 have HDp:=Lib.hid (fun W=>rDig pn W hp)
 have HN:=Lib.hid (fun W=>rName 21 W)
 have lnm:(nmL 21).length≤40:=Nat.le_trans (nm_len 21) (by decide)
 have lRD:=rL_len dn hd
 have lRS:=rL_len sn hs
 have lRT:=rL_len tn ht
 have lRU:=rL_len un hu
 have lDK:=dec_len 1 (by decide)
 have lDA:=dec_len an ha
 have lDP:=dec_len pn hp
 generalize hRD:rL dn=RD at *
 generalize hRS:rL sn=RS at *
 generalize hRT:rL tn=RT at *
 generalize hRU:rL un=RU at *
 generalize hDK:Lib.decDigits 1=DK at *
 generalize hDA:Lib.decDigits an=DA at *
 generalize hDP:Lib.decDigits pn=DP at *
 generalize hnm:nmL 21=nm at *
 generalize htx:textL ⟨21,dn,sn,tn,un,an,1,-1⟩=tx
 have HRD:=Lib.hid hRD.symm
 have HRS:=Lib.hid hRS.symm
 have HRT:=Lib.hid hRT.symm
 have HRU:=Lib.hid hRU.symm
 have HDK:=Lib.hid hDK.symm
 have HDA:=Lib.hid hDA.symm
 have HDP:=Lib.hid hDP.symm
 have HNM:=Lib.hid hnm.symm
 have HT:=Lib.hid htx.symm
 clear hRD hRS hRT hRU hDK hDA hDP hnm htx
 have lKL:(32 :: DK).length≤40:=by simp;omega
 have lAL:(32 :: DA).length≤40:=by simp;omega
 have lPL:(32 :: DP).length≤40:=by simp;omega
 generalize hKL:32 :: DK=KL at *
 generalize hAL:32 :: DA=AL at *
 generalize hPL:32 :: DP=PL at *
 have ck:(⟨#[32]⟩:ByteArray)++⟨DK.toArray⟩=⟨KL.toArray⟩:=by rw[←hKL];exact cat_bs [32] DK
 have ca:(⟨#[32]⟩:ByteArray)++⟨DA.toArray⟩=⟨AL.toArray⟩:=by rw[←hAL];exact cat_bs [32] DA
 have cp:(⟨#[32]⟩:ByteArray)++⟨DP.toArray⟩=⟨PL.toArray⟩:=by rw[←hPL];exact cat_bs [32] DP
 have HKL:=Lib.hid hKL.symm
 have HAL:=Lib.hid hAL.symm
 have HPL:=Lib.hid hPL.symm
 clear hKL hAL hPL
 have sk:¬ 9223372036854775807 < 1+DK.length:=by omega
 have sa:¬ 9223372036854775807 < 1+DA.length:=by omega
 have sp:¬ 9223372036854775807 < 1+DP.length:=by omega
 unfold iv
 go_enter Tryz.func144,Tryz.ntmps144
 go_wp2
 generalize hx0:w.alloc (.cells #[.int .i64 21,.int .i64 (dn:Int),.int .i64 (sn:Int),.int .i64 (tn:Int),.int .i64 (un:Int),.int .i64 (an:Int),.int .u32 1,.int .i64 (-1)] 125)=x0
 have hJ:Jb x0 w.heap.size ⟨21,dn,sn,tn,un,an,1,-1⟩:=by rw[←hx0];exact Jb.made w _ _ _ _ _ _ _ _
 have hb:Below w.heap.size w x0:=by rw[←hx0];exact(Below.refl _ _).alloc (Nat.le_refl _) _
 have hlt:w.heap.size < x0.heap.size:=Bk.lt hJ
 clear hx0
 obtain⟨g0,g1,g2,g3,g4,g5,g6,g7⟩:=hJ.grw
 simp only at g0 g1 g2 g3 g4 g5 g6 g7
 refine wp_region_grow (by kernel_rfl) (by kernel_rfl) ?_
 repeat (go_big_quiet_step (first | (go_at_call 164;with_reducible exact grw_call (HDk.out _)) | (go_at_call 164;with_reducible exact grw_call (HDa.out _))))
 refine wpQuiet_nil ?_
 rintro x ⟨⟨_,hx⟩,rfl⟩
 replace hb:=hb.trans (hx.mono (Nat.le_of_lt hlt))
 replace hJ:=hJ.below hx
 replace hlt:w.heap.size < x.heap.size:=Bk.lt hJ
 clear g0 g1 g2 g3 g4 g5 g6 g7 hx ck ca sk sa
 obtain⟨c0,-,-,-,-,-,-,c7⟩:=hJ.cells
 simp only at c0 c7
 go_wp2_with fail
 refine(HN.out _).mono ?_
 rintro e x2 ⟨rfl,hx⟩
 replace hb:=hb.trans (hx.mono (Nat.le_of_lt hlt))
 replace hJ:=hJ.below hx
 replace hlt:w.heap.size < x2.heap.size:=Bk.lt hJ
 clear hx c0 c7 cp sp
 obtain⟨c0,c1,c2,c3,c4,c5,c6,c7⟩:=hJ.cells
 obtain⟨g0,g1,g2,g3,g4,g5,g6,g7⟩:=hJ.grw
 simp only at c0 c1 c2 c3 c4 c5 c6 c7 g0 g1 g2 g3 g4 g5 g6 g7
 unfold bs
 have lWW:([32,110,101]:List UInt8).length≤40:=by decide
 obtain⟨Z1,hz1,cc1,ss1,ll1⟩:=cat2 RD AL 40 40 lRD lAL
 have HZ1:=Lib.hid hz1
 clear hz1
 obtain⟨Z2,hz2,cc2,ss2,ll2⟩:=cat2 Z1 RS 80 40 ll1 lRS
 have HZ2:=Lib.hid hz2
 clear hz2
 obtain⟨Z3,hz3,cc3,ss3,ll3⟩:=cat2 Z2 [32,110,101] 120 40 ll2 lWW
 simp only[List.length_cons,List.length_nil,Nat.zero_add,Nat.reduceAdd] at ss3
 have HZ3:=Lib.hid hz3
 clear hz3
 obtain⟨Z4,hz4,cc4,ss4,ll4⟩:=cat2 Z3 RT 160 40 ll3 lRT
 have HZ4:=Lib.hid hz4
 clear hz4
 obtain⟨Z5,hz5,cc5,ss5,ll5⟩:=cat2 nm Z4 40 200 lnm ll4
 have HZ5:=Lib.hid hz5
 clear hz5
 clear lWW
 go_wp2
 refine wp_region_grow (by kernel_rfl) (by kernel_rfl) ?_
 repeat (go_big_quiet_step (first | (go_at_call 165;with_reducible exact grw_call (HRd.out _)) | (go_at_call 165;with_reducible exact grw_call (HRs.out _)) | (go_at_call 165;with_reducible exact grw_call (HRt.out _)) | (go_at_call 165;with_reducible exact grw_call (HRu.out _))))
 refine wpQuiet_nil ?_
 rintro y ⟨⟨_,hy⟩,rfl⟩
 replace hb:=hb.trans (hy.mono (Nat.le_of_lt hlt))
 replace hJ:=hJ.below hy
 clear c0 c1 c2 c3 c4 c5 c6 c7 g0 g1 g2 g3 g4 g5 g6 g7
 obtain⟨-,-,-,-,-,-,-,c7⟩:=hJ.cells
 simp only at c7
 go_wp2
 go_ret
 refine⟨ret_bs ?_,hb⟩
 rw[HZ5.out,HZ4.out,HZ3.out,HZ2.out,HZ1.out,HT.out,HNM.out,HRD.out,HAL.out,HDA.out,HRS.out,HRT.out]
 exact(txt_21_1m dn sn tn un an pn).symm
theorem rTextAll (i:Ins)(h:rightB i 1073741824=true)(k0:0≤i.k)(k1:i.k < 4294967296)(w:World):
 Calls Tryz.prog 144 #[iv i] w fun e w'=>e=.returned (bs (textL i))∧Below w.heap.size w w':=by
 obtain⟨hd,hs,ht,hu,ha⟩:=right_regs i _ h
 obtain⟨op,d,s,t,u,a,k,pl⟩:=i
 simp only at hd hs ht hu ha k0 k1
 rcases op_cases op with rfl | rfl | rfl | rfl | rfl | rfl | rfl | rfl | rfl | rfl | rfl | rfl | rfl | rfl | rfl | rfl | rfl | rfl | rfl | rfl | rfl | hn
 ·skip
  have hr:=right_1 d s t u a k pl 1073741824 hd hs ht hu ha k0 k1
  rw[h] at hr
  simp[eqI] at hr
  obtain⟨dn,rfl⟩:∃ n:Nat,d=n:=⟨d.toNat,by omega⟩
  obtain⟨sn,rfl⟩:∃ n:Nat,s=n:=⟨s.toNat,by omega⟩
  obtain⟨tn,rfl⟩:∃ n:Nat,t=n:=⟨t.toNat,by omega⟩
  obtain⟨un,rfl⟩:∃ n:Nat,u=n:=⟨u.toNat,by omega⟩
  obtain⟨an,rfl⟩:∃ n:Nat,a=n:=⟨a.toNat,by omega⟩
  obtain⟨kn,rfl⟩:∃ n:Nat,k=n:=⟨k.toNat,by omega⟩
  obtain⟨pn,rfl⟩:∃ n:Nat,pl=n:=⟨pl.toNat,by omega⟩
  exact rTextA 1 dn sn tn un an kn pn (by decide) (by omega) (by omega) (by omega) (by omega) (by omega) (by omega) (by omega) w
 ·skip
  have hr:=right_2 d s t u a k pl 1073741824 hd hs ht hu ha k0 k1
  rw[h] at hr
  simp[eqI] at hr
  obtain⟨dn,rfl⟩:∃ n:Nat,d=n:=⟨d.toNat,by omega⟩
  obtain⟨sn,rfl⟩:∃ n:Nat,s=n:=⟨s.toNat,by omega⟩
  obtain⟨tn,rfl⟩:∃ n:Nat,t=n:=⟨t.toNat,by omega⟩
  obtain⟨un,rfl⟩:∃ n:Nat,u=n:=⟨u.toNat,by omega⟩
  obtain⟨an,rfl⟩:∃ n:Nat,a=n:=⟨a.toNat,by omega⟩
  obtain⟨kn,rfl⟩:∃ n:Nat,k=n:=⟨k.toNat,by omega⟩
  obtain⟨pn,rfl⟩:∃ n:Nat,pl=n:=⟨pl.toNat,by omega⟩
  exact rTextA 2 dn sn tn un an kn pn (by decide) (by omega) (by omega) (by omega) (by omega) (by omega) (by omega) (by omega) w
 ·skip
  have hr:=right_3 d s t u a k pl 1073741824 hd hs ht hu ha k0 k1
  rw[h] at hr
  simp[eqI] at hr
  obtain⟨dn,rfl⟩:∃ n:Nat,d=n:=⟨d.toNat,by omega⟩
  obtain⟨sn,rfl⟩:∃ n:Nat,s=n:=⟨s.toNat,by omega⟩
  obtain⟨tn,rfl⟩:∃ n:Nat,t=n:=⟨t.toNat,by omega⟩
  obtain⟨un,rfl⟩:∃ n:Nat,u=n:=⟨u.toNat,by omega⟩
  obtain⟨an,rfl⟩:∃ n:Nat,a=n:=⟨a.toNat,by omega⟩
  obtain⟨kn,rfl⟩:∃ n:Nat,k=n:=⟨k.toNat,by omega⟩
  obtain⟨pn,rfl⟩:∃ n:Nat,pl=n:=⟨pl.toNat,by omega⟩
  exact rTextA 3 dn sn tn un an kn pn (by decide) (by omega) (by omega) (by omega) (by omega) (by omega) (by omega) (by omega) w
 ·skip
  have hr:=right_4 d s t u a k pl 1073741824 hd hs ht hu ha k0 k1
  rw[h] at hr
  simp[eqI] at hr
  obtain⟨dn,rfl⟩:∃ n:Nat,d=n:=⟨d.toNat,by omega⟩
  obtain⟨sn,rfl⟩:∃ n:Nat,s=n:=⟨s.toNat,by omega⟩
  obtain⟨tn,rfl⟩:∃ n:Nat,t=n:=⟨t.toNat,by omega⟩
  obtain⟨un,rfl⟩:∃ n:Nat,u=n:=⟨u.toNat,by omega⟩
  obtain⟨an,rfl⟩:∃ n:Nat,a=n:=⟨a.toNat,by omega⟩
  obtain⟨kn,rfl⟩:∃ n:Nat,k=n:=⟨k.toNat,by omega⟩
  obtain⟨pn,rfl⟩:∃ n:Nat,pl=n:=⟨pl.toNat,by omega⟩
  exact rTextA 4 dn sn tn un an kn pn (by decide) (by omega) (by omega) (by omega) (by omega) (by omega) (by omega) (by omega) w
 ·skip
  have hr:=right_5 d s t u a k pl 1073741824 hd hs ht hu ha k0 k1
  rw[h] at hr
  simp[eqI] at hr
  obtain⟨dn,rfl⟩:∃ n:Nat,d=n:=⟨d.toNat,by omega⟩
  obtain⟨sn,rfl⟩:∃ n:Nat,s=n:=⟨s.toNat,by omega⟩
  obtain⟨tn,rfl⟩:∃ n:Nat,t=n:=⟨t.toNat,by omega⟩
  obtain⟨un,rfl⟩:∃ n:Nat,u=n:=⟨u.toNat,by omega⟩
  obtain⟨an,rfl⟩:∃ n:Nat,a=n:=⟨a.toNat,by omega⟩
  obtain⟨kn,rfl⟩:∃ n:Nat,k=n:=⟨k.toNat,by omega⟩
  obtain⟨pn,rfl⟩:∃ n:Nat,pl=n:=⟨pl.toNat,by omega⟩
  exact rTextA 5 dn sn tn un an kn pn (by decide) (by omega) (by omega) (by omega) (by omega) (by omega) (by omega) (by omega) w
 ·skip
  have hr:=right_6 d s t u a k pl 1073741824 hd hs ht hu ha k0 k1
  rw[h] at hr
  simp[eqI] at hr
  obtain⟨dn,rfl⟩:∃ n:Nat,d=n:=⟨d.toNat,by omega⟩
  obtain⟨sn,rfl⟩:∃ n:Nat,s=n:=⟨s.toNat,by omega⟩
  obtain⟨tn,rfl⟩:∃ n:Nat,t=n:=⟨t.toNat,by omega⟩
  obtain⟨un,rfl⟩:∃ n:Nat,u=n:=⟨u.toNat,by omega⟩
  obtain⟨an,rfl⟩:∃ n:Nat,a=n:=⟨a.toNat,by omega⟩
  obtain⟨kn,rfl⟩:∃ n:Nat,k=n:=⟨k.toNat,by omega⟩
  obtain⟨pn,rfl⟩:∃ n:Nat,pl=n:=⟨pl.toNat,by omega⟩
  exact rTextA 6 dn sn tn un an kn pn (by decide) (by omega) (by omega) (by omega) (by omega) (by omega) (by omega) (by omega) w
 ·skip
  have hr:=right_7 d s t u a k pl 1073741824 hd hs ht hu ha k0 k1
  rw[h] at hr
  simp[eqI] at hr
  obtain⟨dn,rfl⟩:∃ n:Nat,d=n:=⟨d.toNat,by omega⟩
  obtain⟨sn,rfl⟩:∃ n:Nat,s=n:=⟨s.toNat,by omega⟩
  obtain⟨tn,rfl⟩:∃ n:Nat,t=n:=⟨t.toNat,by omega⟩
  obtain⟨un,rfl⟩:∃ n:Nat,u=n:=⟨u.toNat,by omega⟩
  obtain⟨an,rfl⟩:∃ n:Nat,a=n:=⟨a.toNat,by omega⟩
  obtain⟨kn,rfl⟩:∃ n:Nat,k=n:=⟨k.toNat,by omega⟩
  obtain⟨pn,rfl⟩:∃ n:Nat,pl=n:=⟨pl.toNat,by omega⟩
  exact rTextA 7 dn sn tn un an kn pn (by decide) (by omega) (by omega) (by omega) (by omega) (by omega) (by omega) (by omega) w
 ·skip
  have hr:=right_8 d s t u a k pl 1073741824 hd hs ht hu ha k0 k1
  rw[h] at hr
  simp[eqI] at hr
  obtain⟨dn,rfl⟩:∃ n:Nat,d=n:=⟨d.toNat,by omega⟩
  obtain⟨sn,rfl⟩:∃ n:Nat,s=n:=⟨s.toNat,by omega⟩
  obtain⟨tn,rfl⟩:∃ n:Nat,t=n:=⟨t.toNat,by omega⟩
  obtain⟨un,rfl⟩:∃ n:Nat,u=n:=⟨u.toNat,by omega⟩
  obtain⟨an,rfl⟩:∃ n:Nat,a=n:=⟨a.toNat,by omega⟩
  obtain⟨kn,rfl⟩:∃ n:Nat,k=n:=⟨k.toNat,by omega⟩
  obtain⟨pn,rfl⟩:∃ n:Nat,pl=n:=⟨pl.toNat,by omega⟩
  exact rTextA 8 dn sn tn un an kn pn (by decide) (by omega) (by omega) (by omega) (by omega) (by omega) (by omega) (by omega) w
 ·skip
  have hr:=right_9 d s t u a k pl 1073741824 hd hs ht hu ha k0 k1
  rw[h] at hr
  simp[eqI] at hr
  obtain⟨dn,rfl⟩:∃ n:Nat,d=n:=⟨d.toNat,by omega⟩
  obtain⟨sn,rfl⟩:∃ n:Nat,s=n:=⟨s.toNat,by omega⟩
  obtain⟨tn,rfl⟩:∃ n:Nat,t=n:=⟨t.toNat,by omega⟩
  obtain⟨un,rfl⟩:∃ n:Nat,u=n:=⟨u.toNat,by omega⟩
  obtain⟨an,rfl⟩:∃ n:Nat,a=n:=⟨a.toNat,by omega⟩
  obtain⟨kn,rfl⟩:∃ n:Nat,k=n:=⟨k.toNat,by omega⟩
  obtain⟨pn,rfl⟩:∃ n:Nat,pl=n:=⟨pl.toNat,by omega⟩
  exact rTextA 9 dn sn tn un an kn pn (by decide) (by omega) (by omega) (by omega) (by omega) (by omega) (by omega) (by omega) w
 ·skip
  have hr:=right_10 d s t u a k pl 1073741824 hd hs ht hu ha k0 k1
  rw[h] at hr
  simp[eqI] at hr
  obtain⟨dn,rfl⟩:∃ n:Nat,d=n:=⟨d.toNat,by omega⟩
  obtain⟨sn,rfl⟩:∃ n:Nat,s=n:=⟨s.toNat,by omega⟩
  obtain⟨tn,rfl⟩:∃ n:Nat,t=n:=⟨t.toNat,by omega⟩
  obtain⟨un,rfl⟩:∃ n:Nat,u=n:=⟨u.toNat,by omega⟩
  obtain⟨an,rfl⟩:∃ n:Nat,a=n:=⟨a.toNat,by omega⟩
  obtain⟨kn,rfl⟩:∃ n:Nat,k=n:=⟨k.toNat,by omega⟩
  obtain⟨pn,rfl⟩:∃ n:Nat,pl=n:=⟨pl.toNat,by omega⟩
  exact rTextA 10 dn sn tn un an kn pn (by decide) (by omega) (by omega) (by omega) (by omega) (by omega) (by omega) (by omega) w
 ·skip
  have hr:=right_11 d s t u a k pl 1073741824 hd hs ht hu ha k0 k1
  rw[h] at hr
  simp[eqI] at hr
  obtain⟨dn,rfl⟩:∃ n:Nat,d=n:=⟨d.toNat,by omega⟩
  obtain⟨sn,rfl⟩:∃ n:Nat,s=n:=⟨s.toNat,by omega⟩
  obtain⟨tn,rfl⟩:∃ n:Nat,t=n:=⟨t.toNat,by omega⟩
  obtain⟨un,rfl⟩:∃ n:Nat,u=n:=⟨u.toNat,by omega⟩
  obtain⟨an,rfl⟩:∃ n:Nat,a=n:=⟨a.toNat,by omega⟩
  obtain⟨kn,rfl⟩:∃ n:Nat,k=n:=⟨k.toNat,by omega⟩
  obtain⟨pn,rfl⟩:∃ n:Nat,pl=n:=⟨pl.toNat,by omega⟩
  exact rTextB 11 dn sn tn un an kn pn (by decide) (by omega) (by omega) (by omega) (by omega) (by omega) (by omega) (by omega) w
 ·skip
  have hr:=right_12 d s t u a k pl 1073741824 hd hs ht hu ha k0 k1
  rw[h] at hr
  simp[eqI] at hr
  obtain⟨dn,rfl⟩:∃ n:Nat,d=n:=⟨d.toNat,by omega⟩
  obtain⟨sn,rfl⟩:∃ n:Nat,s=n:=⟨s.toNat,by omega⟩
  obtain⟨tn,rfl⟩:∃ n:Nat,t=n:=⟨t.toNat,by omega⟩
  obtain⟨un,rfl⟩:∃ n:Nat,u=n:=⟨u.toNat,by omega⟩
  obtain⟨an,rfl⟩:∃ n:Nat,a=n:=⟨a.toNat,by omega⟩
  obtain⟨kn,rfl⟩:∃ n:Nat,k=n:=⟨k.toNat,by omega⟩
  obtain⟨pn,rfl⟩:∃ n:Nat,pl=n:=⟨pl.toNat,by omega⟩
  exact rTextB 12 dn sn tn un an kn pn (by decide) (by omega) (by omega) (by omega) (by omega) (by omega) (by omega) (by omega) w
 ·skip
  have hr:=right_13 d s t u a k pl 1073741824 hd hs ht hu ha k0 k1
  rw[h] at hr
  simp[eqI] at hr
  obtain⟨dn,rfl⟩:∃ n:Nat,d=n:=⟨d.toNat,by omega⟩
  obtain⟨sn,rfl⟩:∃ n:Nat,s=n:=⟨s.toNat,by omega⟩
  obtain⟨tn,rfl⟩:∃ n:Nat,t=n:=⟨t.toNat,by omega⟩
  obtain⟨un,rfl⟩:∃ n:Nat,u=n:=⟨u.toNat,by omega⟩
  obtain⟨an,rfl⟩:∃ n:Nat,a=n:=⟨a.toNat,by omega⟩
  obtain⟨kn,rfl⟩:∃ n:Nat,k=n:=⟨k.toNat,by omega⟩
  obtain⟨pn,rfl⟩:∃ n:Nat,pl=n:=⟨pl.toNat,by omega⟩
  exact rTextB 13 dn sn tn un an kn pn (by decide) (by omega) (by omega) (by omega) (by omega) (by omega) (by omega) (by omega) w
 ·skip
  have hr:=right_16 d s t u a k pl 1073741824 hd hs ht hu ha k0 k1
  rw[h] at hr
  simp[eqI] at hr
  obtain⟨dn,rfl⟩:∃ n:Nat,d=n:=⟨d.toNat,by omega⟩
  obtain⟨sn,rfl⟩:∃ n:Nat,s=n:=⟨s.toNat,by omega⟩
  obtain⟨tn,rfl⟩:∃ n:Nat,t=n:=⟨t.toNat,by omega⟩
  obtain⟨un,rfl⟩:∃ n:Nat,u=n:=⟨u.toNat,by omega⟩
  obtain⟨an,rfl⟩:∃ n:Nat,a=n:=⟨a.toNat,by omega⟩
  obtain⟨kn,rfl⟩:∃ n:Nat,k=n:=⟨k.toNat,by omega⟩
  obtain⟨pn,rfl⟩:∃ n:Nat,pl=n:=⟨pl.toNat,by omega⟩
  exact rTextB 16 dn sn tn un an kn pn (by decide) (by omega) (by omega) (by omega) (by omega) (by omega) (by omega) (by omega) w
 ·skip
  have hr:=right_17 d s t u a k pl 1073741824 hd hs ht hu ha k0 k1
  rw[h] at hr
  simp[eqI] at hr
  obtain⟨dn,rfl⟩:∃ n:Nat,d=n:=⟨d.toNat,by omega⟩
  obtain⟨sn,rfl⟩:∃ n:Nat,s=n:=⟨s.toNat,by omega⟩
  obtain⟨tn,rfl⟩:∃ n:Nat,t=n:=⟨t.toNat,by omega⟩
  obtain⟨un,rfl⟩:∃ n:Nat,u=n:=⟨u.toNat,by omega⟩
  obtain⟨an,rfl⟩:∃ n:Nat,a=n:=⟨a.toNat,by omega⟩
  obtain⟨kn,rfl⟩:∃ n:Nat,k=n:=⟨k.toNat,by omega⟩
  obtain⟨pn,rfl⟩:∃ n:Nat,pl=n:=⟨pl.toNat,by omega⟩
  exact rTextB 17 dn sn tn un an kn pn (by decide) (by omega) (by omega) (by omega) (by omega) (by omega) (by omega) (by omega) w
 ·skip
  have hr:=right_18 d s t u a k pl 1073741824 hd hs ht hu ha k0 k1
  rw[h] at hr
  simp[eqI] at hr
  obtain⟨dn,rfl⟩:∃ n:Nat,d=n:=⟨d.toNat,by omega⟩
  obtain⟨sn,rfl⟩:∃ n:Nat,s=n:=⟨s.toNat,by omega⟩
  obtain⟨tn,rfl⟩:∃ n:Nat,t=n:=⟨t.toNat,by omega⟩
  obtain⟨un,rfl⟩:∃ n:Nat,u=n:=⟨u.toNat,by omega⟩
  obtain⟨an,rfl⟩:∃ n:Nat,a=n:=⟨a.toNat,by omega⟩
  obtain⟨kn,rfl⟩:∃ n:Nat,k=n:=⟨k.toNat,by omega⟩
  obtain⟨pn,rfl⟩:∃ n:Nat,pl=n:=⟨pl.toNat,by omega⟩
  exact rTextB 18 dn sn tn un an kn pn (by decide) (by omega) (by omega) (by omega) (by omega) (by omega) (by omega) (by omega) w
 ·skip
  have hr:=right_19 d s t u a k pl 1073741824 hd hs ht hu ha k0 k1
  rw[h] at hr
  simp[eqI] at hr
  obtain⟨dn,rfl⟩:∃ n:Nat,d=n:=⟨d.toNat,by omega⟩
  obtain⟨sn,rfl⟩:∃ n:Nat,s=n:=⟨s.toNat,by omega⟩
  obtain⟨tn,rfl⟩:∃ n:Nat,t=n:=⟨t.toNat,by omega⟩
  obtain⟨un,rfl⟩:∃ n:Nat,u=n:=⟨u.toNat,by omega⟩
  obtain⟨an,rfl⟩:∃ n:Nat,a=n:=⟨a.toNat,by omega⟩
  obtain⟨kn,rfl⟩:∃ n:Nat,k=n:=⟨k.toNat,by omega⟩
  obtain⟨pn,rfl⟩:∃ n:Nat,pl=n:=⟨pl.toNat,by omega⟩
  exact rTextB 19 dn sn tn un an kn pn (by decide) (by omega) (by omega) (by omega) (by omega) (by omega) (by omega) (by omega) w
 ·skip
  have hr:=right_20 d s t u a k pl 1073741824 hd hs ht hu ha k0 k1
  rw[h] at hr
  simp[eqI] at hr
  obtain⟨dn,rfl⟩:∃ n:Nat,d=n:=⟨d.toNat,by omega⟩
  obtain⟨sn,rfl⟩:∃ n:Nat,s=n:=⟨s.toNat,by omega⟩
  obtain⟨tn,rfl⟩:∃ n:Nat,t=n:=⟨t.toNat,by omega⟩
  obtain⟨un,rfl⟩:∃ n:Nat,u=n:=⟨u.toNat,by omega⟩
  obtain⟨an,rfl⟩:∃ n:Nat,a=n:=⟨a.toNat,by omega⟩
  obtain⟨kn,rfl⟩:∃ n:Nat,k=n:=⟨k.toNat,by omega⟩
  obtain⟨pn,rfl⟩:∃ n:Nat,pl=n:=⟨pl.toNat,by omega⟩
  exact rTextB 20 dn sn tn un an kn pn (by decide) (by omega) (by omega) (by omega) (by omega) (by omega) (by omega) (by omega) w
 ·skip
  have hr:=right_21 d s t u a k pl 1073741824 hd hs ht hu ha k0 k1
  rw[h] at hr
  simp[eqI] at hr
  obtain⟨dn,rfl⟩:∃ n:Nat,d=n:=⟨d.toNat,by omega⟩
  obtain⟨sn,rfl⟩:∃ n:Nat,s=n:=⟨s.toNat,by omega⟩
  obtain⟨tn,rfl⟩:∃ n:Nat,t=n:=⟨t.toNat,by omega⟩
  obtain⟨un,rfl⟩:∃ n:Nat,u=n:=⟨u.toNat,by omega⟩
  obtain⟨an,rfl⟩:∃ n:Nat,a=n:=⟨a.toNat,by omega⟩
  obtain⟨kn,rfl⟩:∃ n:Nat,k=n:=⟨k.toNat,by omega⟩
  by_cases hm:pl=-1
  ·subst hm
   by_cases hk:kn=0
   ·subst hk;exact rText21_0m dn sn tn un an 0 (by omega) (by omega) (by omega) (by omega) (by omega) (by omega) w
   ·obtain rfl:kn=1:=by omega
    exact rText21_1m dn sn tn un an 0 (by omega) (by omega) (by omega) (by omega) (by omega) (by omega) w
  ·obtain⟨pn,rfl⟩:∃ n:Nat,pl=n:=⟨pl.toNat,by omega⟩
   by_cases hk:kn=0
   ·subst hk;exact rText21_0p dn sn tn un an pn (by omega) (by omega) (by omega) (by omega) (by omega) (by omega) w
   ·obtain rfl:kn=1:=by omega
    exact rText21_1p dn sn tn un an pn (by omega) (by omega) (by omega) (by omega) (by omega) (by omega) w
 ·skip
  have hr:=right_22 d s t u a k pl 1073741824 hd hs ht hu ha k0 k1
  rw[h] at hr
  simp[eqI] at hr
  obtain⟨dn,rfl⟩:∃ n:Nat,d=n:=⟨d.toNat,by omega⟩
  obtain⟨sn,rfl⟩:∃ n:Nat,s=n:=⟨s.toNat,by omega⟩
  obtain⟨tn,rfl⟩:∃ n:Nat,t=n:=⟨t.toNat,by omega⟩
  obtain⟨un,rfl⟩:∃ n:Nat,u=n:=⟨u.toNat,by omega⟩
  obtain⟨an,rfl⟩:∃ n:Nat,a=n:=⟨a.toNat,by omega⟩
  obtain⟨kn,rfl⟩:∃ n:Nat,k=n:=⟨k.toNat,by omega⟩
  obtain⟨pn,rfl⟩:∃ n:Nat,pl=n:=⟨pl.toNat,by omega⟩
  exact rTextB 22 dn sn tn un an kn pn (by decide) (by omega) (by omega) (by omega) (by omega) (by omega) (by omega) (by omega) w
 ·skip
  have hr:=right_23 d s t u a k pl 1073741824 hd hs ht hu ha k0 k1
  rw[h] at hr
  simp[eqI] at hr
  obtain⟨dn,rfl⟩:∃ n:Nat,d=n:=⟨d.toNat,by omega⟩
  obtain⟨sn,rfl⟩:∃ n:Nat,s=n:=⟨s.toNat,by omega⟩
  obtain⟨tn,rfl⟩:∃ n:Nat,t=n:=⟨t.toNat,by omega⟩
  obtain⟨un,rfl⟩:∃ n:Nat,u=n:=⟨u.toNat,by omega⟩
  obtain⟨an,rfl⟩:∃ n:Nat,a=n:=⟨a.toNat,by omega⟩
  obtain⟨kn,rfl⟩:∃ n:Nat,k=n:=⟨k.toNat,by omega⟩
  obtain⟨pn,rfl⟩:∃ n:Nat,pl=n:=⟨pl.toNat,by omega⟩
  exact rTextB 23 dn sn tn un an kn pn (by decide) (by omega) (by omega) (by omega) (by omega) (by omega) (by omega) (by omega) w
 ·exfalso
  unfold rightB at h
  simp only[(hs_none hn).1] at h
  cases h
end Go.Proofs.YthdgehcghklflaaGreatDoor
