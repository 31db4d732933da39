/- InstT, Same, AsmK, SpM. -/
import Derived.Test.YthdgehcghklflaaGreatDoorKLnA
import Derived.Test.YthdgehcghklflaaGreatDoorKMem
import Derived.Test.YthdgehcghklflaaGreatDoorKInstA
import Derived.Deep.Cut
import Derived.Deep.QuietTactic
import Derived.BigQuiet
import Derived.ProofKit
import Derived.OpenShut
import Derived.Deep.Fields
import Derived.Deep.Slices
import Derived.ChangeSame
import Derived.Lib.SmallJoins
import Derived.Test.YthdgehcghklflaaGreatDoorTie
import Derived.Test.YthdgehcghklflaaGreatDoorCards
import Derived.Lay
import Derived.Handed
import Derived.PinnedBridge
import Derived.SevenTiedAt
import Derived.Shelf.Vars
import Derived.Lib.LaidTab
import Derived.Stop.LaidErr
import Derived.Deep.Onto
/- InstTA, InstTB, InstTC, InstTX, one behind the other. -/
/- The document's Text, of some Ops. -/
namespace Go.Proofs.YthdgehcghklflaaGreatDoor
open Go.ChangeShapes Go.WideShapes Go.ChangeAt Go.RowKit
set_option linter.unusedVariables false

set_option maxHeartbeats 8000000 in
set_option maxRecDepth 100000 in
theorem rTextA (op : Int) (dn sn tn un an kn pn : Nat) (hop : op = 1 ∨ op = 2 ∨ op = 3 ∨ op = 4 ∨ op = 5 ∨ op = 6 ∨ op = 7 ∨ op = 8 ∨ op = 9 ∨ op = 10) (hd : dn < 5000000000) (hs : sn < 5000000000) (ht : tn < 5000000000) (hu : un < 5000000000) (ha : an < 5000000000) (hk : kn < 4294967296) (hp : pn < 5000000000) (w : World) :
    Calls Tryz.prog 144 #[iv ⟨op, dn, sn, tn, un, an, kn, pn⟩] w fun e w' => e = .returned (bs (textL ⟨op, dn, sn, tn, un, an, kn, pn⟩)) ∧ Below w.heap.size w w' := by
  have HRd := Lib.hid (fun W => rR dn W hd)
  have HRs := Lib.hid (fun W => rR sn W hs)
  have HRt := Lib.hid (fun W => rR tn W ht)
  have HRu := Lib.hid (fun W => rR un W hu)
  have HDk := Lib.hid (fun W => rDig kn W (by omega))
  have HDa := Lib.hid (fun W => rDig an W ha)
  have HDp := Lib.hid (fun W => rDig pn W hp)
  have HN := Lib.hid (fun W => rName op W)
  have lnm : (nmL op).length ≤ 40 := Nat.le_trans (nm_len op) (by decide)
  have lRD := rL_len dn hd
  have lRS := rL_len sn hs
  have lRT := rL_len tn ht
  have lRU := rL_len un hu
  have lDK := dec_len kn (by omega)
  have lDA := dec_len an ha
  have lDP := dec_len pn hp
  generalize hRD : rL dn = RD at *
  generalize hRS : rL sn = RS at *
  generalize hRT : rL tn = RT at *
  generalize hRU : rL un = RU at *
  generalize hDK : Lib.decDigits kn = DK at *
  generalize hDA : Lib.decDigits an = DA at *
  generalize hDP : Lib.decDigits pn = DP at *
  generalize hnm : nmL op = nm at *
  generalize htx : textL ⟨op, dn, sn, tn, un, an, kn, pn⟩ = tx
  have HRD := Lib.hid hRD.symm
  have HRS := Lib.hid hRS.symm
  have HRT := Lib.hid hRT.symm
  have HRU := Lib.hid hRU.symm
  have HDK := Lib.hid hDK.symm
  have HDA := Lib.hid hDA.symm
  have HDP := Lib.hid hDP.symm
  have HNM := Lib.hid hnm.symm
  have HT := Lib.hid htx.symm
  clear hRD hRS hRT hRU hDK hDA hDP hnm htx
  have lKL : (32 :: DK).length ≤ 40 := by simp; omega
  have lAL : (32 :: DA).length ≤ 40 := by simp; omega
  have lPL : (32 :: DP).length ≤ 40 := by simp; omega
  generalize hKL : 32 :: DK = KL at *
  generalize hAL : 32 :: DA = AL at *
  generalize hPL : 32 :: DP = PL at *
  have ck : (⟨#[32]⟩ : ByteArray) ++ ⟨DK.toArray⟩ = ⟨KL.toArray⟩ := by rw [← hKL]; exact cat_bs [32] DK
  have ca : (⟨#[32]⟩ : ByteArray) ++ ⟨DA.toArray⟩ = ⟨AL.toArray⟩ := by rw [← hAL]; exact cat_bs [32] DA
  have cp : (⟨#[32]⟩ : ByteArray) ++ ⟨DP.toArray⟩ = ⟨PL.toArray⟩ := by rw [← hPL]; exact cat_bs [32] DP
  have HKL := Lib.hid hKL.symm
  have HAL := Lib.hid hAL.symm
  have HPL := Lib.hid hPL.symm
  clear hKL hAL hPL
  have sk : ¬ 9223372036854775807 < 1 + DK.length := by omega
  have sa : ¬ 9223372036854775807 < 1 + DA.length := by omega
  have sp : ¬ 9223372036854775807 < 1 + DP.length := by omega
  have hk0 : (0 : Int) ≤ (kn : Int) := by omega
  have hk1 : (kn : Int) < 4294967296 := by omega
  have hp0 : (0 : Int) ≤ (pn : Int) := by omega
  unfold iv
  go_enter Tryz.func144, Tryz.ntmps144
  go_wp2
  generalize hx0 : w.alloc (.cells #[.int .i64 op, .int .i64 (dn : Int), .int .i64 (sn : Int), .int .i64 (tn : Int), .int .i64 (un : Int), .int .i64 (an : Int), .int .u32 (kn : Int), .int .i64 (pn : Int)] 125) = x0
  have hJ : Jb x0 w.heap.size ⟨op, dn, sn, tn, un, an, kn, pn⟩ := by rw [← hx0]; exact Jb.made w _ _ _ _ _ _ _ _
  have hb : Below w.heap.size w x0 := by rw [← hx0]; exact (Below.refl _ _).alloc (Nat.le_refl _) _
  have hlt : w.heap.size < x0.heap.size := Bk.lt hJ
  clear hx0
  obtain ⟨g0, g1, g2, g3, g4, g5, g6, g7⟩ := hJ.grw
  simp only at g0 g1 g2 g3 g4 g5 g6 g7
  refine wp_region_grow (by kernel_rfl) (by kernel_rfl) ?_
  repeat (go_big_quiet_step (first | (go_at_call 164; with_reducible exact grw_call (HDk.out _)) | (go_at_call 164; with_reducible exact grw_call (HDa.out _))))
  refine wpQuiet_nil ?_
  rintro x ⟨⟨_, hx⟩, rfl⟩
  replace hb := hb.trans (hx.mono (Nat.le_of_lt hlt))
  replace hJ := hJ.below hx
  replace hlt : w.heap.size < x.heap.size := Bk.lt hJ
  clear g0 g1 g2 g3 g4 g5 g6 g7 hx ck ca sk sa
  obtain ⟨c0, -, -, -, -, -, -, c7⟩ := hJ.cells
  simp only at c0 c7
  go_wp2_with fail
  refine (HDp.out _).mono ?_
  rintro e x1 ⟨rfl, hx⟩
  replace hb := hb.trans (hx.mono (Nat.le_of_lt hlt))
  replace hJ := hJ.below hx
  replace hlt : w.heap.size < x1.heap.size := Bk.lt hJ
  clear hx c0 c7
  obtain ⟨c0, -⟩ := hJ.cells
  simp only at c0
  go_wp2_with fail
  refine (HN.out _).mono ?_
  rintro e x2 ⟨rfl, hx⟩
  replace hb := hb.trans (hx.mono (Nat.le_of_lt hlt))
  replace hJ := hJ.below hx
  replace hlt : w.heap.size < x2.heap.size := Bk.lt hJ
  clear hx c0 cp sp
  obtain ⟨c0, c1, c2, c3, c4, c5, c6, c7⟩ := hJ.cells
  obtain ⟨g0, g1, g2, g3, g4, g5, g6, g7⟩ := hJ.grw
  simp only at c0 c1 c2 c3 c4 c5 c6 c7 g0 g1 g2 g3 g4 g5 g6 g7
  unfold bs
  go_upto_region 6 with (fail)
  rcases hop with rfl | rfl | rfl | rfl | rfl | rfl | rfl | rfl | rfl | rfl
  · skip
    obtain ⟨Z1, hz1, cc1, ss1, ll1⟩ := cat2 RD KL 40 40 lRD lKL
    have HZ1 := Lib.hid hz1
    clear hz1
    obtain ⟨Z2, hz2, cc2, ss2, ll2⟩ := cat2 nm Z1 40 80 lnm ll1
    have HZ2 := Lib.hid hz2
    clear hz2
    go_wp2_with (first | (go_at_call 165; (with_reducible refine (HRd.out _).mono ?_); rintro e y ⟨rfl, hy⟩) | (go_at_call 165; (with_reducible refine (HRs.out _).mono ?_); rintro e y ⟨rfl, hy⟩))
    go_ret
    refine ⟨ret_bs ?_, hb.trans (hy.mono (Nat.le_of_lt hlt))⟩
    rw [HZ2.out, HZ1.out, HT.out, HNM.out, HRD.out, HKL.out, HDK.out]
    exact (txt_1 dn sn tn un an kn pn).symm
  · skip
    obtain ⟨Z1, hz1, cc1, ss1, ll1⟩ := cat2 RD RS 40 40 lRD lRS
    have HZ1 := Lib.hid hz1
    clear hz1
    obtain ⟨Z2, hz2, cc2, ss2, ll2⟩ := cat2 nm Z1 40 80 lnm ll1
    have HZ2 := Lib.hid hz2
    clear hz2
    go_wp2
    refine wp_region_grow (by kernel_rfl) (by kernel_rfl) ?_
    repeat (go_big_quiet_step (first | (go_at_call 165; with_reducible exact grw_call (HRd.out _)) | (go_at_call 165; with_reducible exact grw_call (HRs.out _)) | (go_at_call 165; with_reducible exact grw_call (HRt.out _)) | (go_at_call 165; with_reducible exact grw_call (HRu.out _))))
    refine wpQuiet_nil ?_
    rintro y ⟨⟨_, hy⟩, rfl⟩
    go_wp2
    go_ret
    refine ⟨ret_bs ?_, hb.trans (hy.mono (Nat.le_of_lt hlt))⟩
    rw [HZ2.out, HZ1.out, HT.out, HNM.out, HRD.out, HRS.out]
    exact (txt_2 dn sn tn un an kn pn).symm
  · skip
    obtain ⟨Z1, hz1, cc1, ss1, ll1⟩ := cat2 RD RS 40 40 lRD lRS
    have HZ1 := Lib.hid hz1
    clear hz1
    obtain ⟨Z2, hz2, cc2, ss2, ll2⟩ := cat2 Z1 KL 80 40 ll1 lKL
    have HZ2 := Lib.hid hz2
    clear hz2
    obtain ⟨Z3, hz3, cc3, ss3, ll3⟩ := cat2 nm Z2 40 120 lnm ll2
    have HZ3 := Lib.hid hz3
    clear hz3
    go_wp2
    refine wp_region_grow (by kernel_rfl) (by kernel_rfl) ?_
    repeat (go_big_quiet_step (first | (go_at_call 165; with_reducible exact grw_call (HRd.out _)) | (go_at_call 165; with_reducible exact grw_call (HRs.out _)) | (go_at_call 165; with_reducible exact grw_call (HRt.out _)) | (go_at_call 165; with_reducible exact grw_call (HRu.out _))))
    refine wpQuiet_nil ?_
    rintro y ⟨⟨_, hy⟩, rfl⟩
    go_wp2
    go_ret
    refine ⟨ret_bs ?_, hb.trans (hy.mono (Nat.le_of_lt hlt))⟩
    rw [HZ3.out, HZ2.out, HZ1.out, HT.out, HNM.out, HRD.out, HRS.out, HKL.out, HDK.out]
    exact (txt_3 dn sn tn un an kn pn).symm
  · skip
    obtain ⟨Z1, hz1, cc1, ss1, ll1⟩ := cat2 RD RS 40 40 lRD lRS
    have HZ1 := Lib.hid hz1
    clear hz1
    obtain ⟨Z2, hz2, cc2, ss2, ll2⟩ := cat2 Z1 KL 80 40 ll1 lKL
    have HZ2 := Lib.hid hz2
    clear hz2
    obtain ⟨Z3, hz3, cc3, ss3, ll3⟩ := cat2 nm Z2 40 120 lnm ll2
    have HZ3 := Lib.hid hz3
    clear hz3
    go_wp2
    refine wp_region_grow (by kernel_rfl) (by kernel_rfl) ?_
    repeat (go_big_quiet_step (first | (go_at_call 165; with_reducible exact grw_call (HRd.out _)) | (go_at_call 165; with_reducible exact grw_call (HRs.out _)) | (go_at_call 165; with_reducible exact grw_call (HRt.out _)) | (go_at_call 165; with_reducible exact grw_call (HRu.out _))))
    refine wpQuiet_nil ?_
    rintro y ⟨⟨_, hy⟩, rfl⟩
    go_wp2
    go_ret
    refine ⟨ret_bs ?_, hb.trans (hy.mono (Nat.le_of_lt hlt))⟩
    rw [HZ3.out, HZ2.out, HZ1.out, HT.out, HNM.out, HRD.out, HRS.out, HKL.out, HDK.out]
    exact (txt_4 dn sn tn un an kn pn).symm
  · skip
    obtain ⟨Z1, hz1, cc1, ss1, ll1⟩ := cat2 RD RS 40 40 lRD lRS
    have HZ1 := Lib.hid hz1
    clear hz1
    obtain ⟨Z2, hz2, cc2, ss2, ll2⟩ := cat2 Z1 KL 80 40 ll1 lKL
    have HZ2 := Lib.hid hz2
    clear hz2
    obtain ⟨Z3, hz3, cc3, ss3, ll3⟩ := cat2 nm Z2 40 120 lnm ll2
    have HZ3 := Lib.hid hz3
    clear hz3
    go_wp2
    refine wp_region_grow (by kernel_rfl) (by kernel_rfl) ?_
    repeat (go_big_quiet_step (first | (go_at_call 165; with_reducible exact grw_call (HRd.out _)) | (go_at_call 165; with_reducible exact grw_call (HRs.out _)) | (go_at_call 165; with_reducible exact grw_call (HRt.out _)) | (go_at_call 165; with_reducible exact grw_call (HRu.out _))))
    refine wpQuiet_nil ?_
    rintro y ⟨⟨_, hy⟩, rfl⟩
    go_wp2
    go_ret
    refine ⟨ret_bs ?_, hb.trans (hy.mono (Nat.le_of_lt hlt))⟩
    rw [HZ3.out, HZ2.out, HZ1.out, HT.out, HNM.out, HRD.out, HRS.out, HKL.out, HDK.out]
    exact (txt_5 dn sn tn un an kn pn).symm
  · skip
    obtain ⟨Z1, hz1, cc1, ss1, ll1⟩ := cat2 RD RS 40 40 lRD lRS
    have HZ1 := Lib.hid hz1
    clear hz1
    obtain ⟨Z2, hz2, cc2, ss2, ll2⟩ := cat2 Z1 KL 80 40 ll1 lKL
    have HZ2 := Lib.hid hz2
    clear hz2
    obtain ⟨Z3, hz3, cc3, ss3, ll3⟩ := cat2 nm Z2 40 120 lnm ll2
    have HZ3 := Lib.hid hz3
    clear hz3
    go_wp2
    refine wp_region_grow (by kernel_rfl) (by kernel_rfl) ?_
    repeat (go_big_quiet_step (first | (go_at_call 165; with_reducible exact grw_call (HRd.out _)) | (go_at_call 165; with_reducible exact grw_call (HRs.out _)) | (go_at_call 165; with_reducible exact grw_call (HRt.out _)) | (go_at_call 165; with_reducible exact grw_call (HRu.out _))))
    refine wpQuiet_nil ?_
    rintro y ⟨⟨_, hy⟩, rfl⟩
    go_wp2
    go_ret
    refine ⟨ret_bs ?_, hb.trans (hy.mono (Nat.le_of_lt hlt))⟩
    rw [HZ3.out, HZ2.out, HZ1.out, HT.out, HNM.out, HRD.out, HRS.out, HKL.out, HDK.out]
    exact (txt_6 dn sn tn un an kn pn).symm
  · skip
    obtain ⟨Z1, hz1, cc1, ss1, ll1⟩ := cat2 RD RS 40 40 lRD lRS
    have HZ1 := Lib.hid hz1
    clear hz1
    obtain ⟨Z2, hz2, cc2, ss2, ll2⟩ := cat2 Z1 RT 80 40 ll1 lRT
    have HZ2 := Lib.hid hz2
    clear hz2
    obtain ⟨Z3, hz3, cc3, ss3, ll3⟩ := cat2 nm Z2 40 120 lnm ll2
    have HZ3 := Lib.hid hz3
    clear hz3
    go_wp2
    refine wp_region_grow (by kernel_rfl) (by kernel_rfl) ?_
    repeat (go_big_quiet_step (first | (go_at_call 165; with_reducible exact grw_call (HRd.out _)) | (go_at_call 165; with_reducible exact grw_call (HRs.out _)) | (go_at_call 165; with_reducible exact grw_call (HRt.out _)) | (go_at_call 165; with_reducible exact grw_call (HRu.out _))))
    refine wpQuiet_nil ?_
    rintro y ⟨⟨_, hy⟩, rfl⟩
    go_wp2
    go_ret
    refine ⟨ret_bs ?_, hb.trans (hy.mono (Nat.le_of_lt hlt))⟩
    rw [HZ3.out, HZ2.out, HZ1.out, HT.out, HNM.out, HRD.out, HRS.out, HRT.out]
    exact (txt_7 dn sn tn un an kn pn).symm
  · skip
    obtain ⟨Z1, hz1, cc1, ss1, ll1⟩ := cat2 RS RT 40 40 lRS lRT
    have HZ1 := Lib.hid hz1
    clear hz1
    obtain ⟨Z2, hz2, cc2, ss2, ll2⟩ := cat2 Z1 PL 80 40 ll1 lPL
    have HZ2 := Lib.hid hz2
    clear hz2
    obtain ⟨Z3, hz3, cc3, ss3, ll3⟩ := cat2 nm Z2 40 120 lnm ll2
    have HZ3 := Lib.hid hz3
    clear hz3
    go_wp2
    refine wp_region_grow (by kernel_rfl) (by kernel_rfl) ?_
    repeat (go_big_quiet_step (first | (go_at_call 165; with_reducible exact grw_call (HRd.out _)) | (go_at_call 165; with_reducible exact grw_call (HRs.out _)) | (go_at_call 165; with_reducible exact grw_call (HRt.out _)) | (go_at_call 165; with_reducible exact grw_call (HRu.out _))))
    refine wpQuiet_nil ?_
    rintro y ⟨⟨_, hy⟩, rfl⟩
    go_wp2
    go_ret
    refine ⟨ret_bs ?_, hb.trans (hy.mono (Nat.le_of_lt hlt))⟩
    rw [HZ3.out, HZ2.out, HZ1.out, HT.out, HNM.out, HRS.out, HRT.out, HPL.out, HDP.out]
    exact (txt_8 dn sn tn un an kn pn).symm
  · skip
    obtain ⟨Z1, hz1, cc1, ss1, ll1⟩ := cat2 RS RT 40 40 lRS lRT
    have HZ1 := Lib.hid hz1
    clear hz1
    obtain ⟨Z2, hz2, cc2, ss2, ll2⟩ := cat2 Z1 PL 80 40 ll1 lPL
    have HZ2 := Lib.hid hz2
    clear hz2
    obtain ⟨Z3, hz3, cc3, ss3, ll3⟩ := cat2 nm Z2 40 120 lnm ll2
    have HZ3 := Lib.hid hz3
    clear hz3
    go_wp2
    refine wp_region_grow (by kernel_rfl) (by kernel_rfl) ?_
    repeat (go_big_quiet_step (first | (go_at_call 165; with_reducible exact grw_call (HRd.out _)) | (go_at_call 165; with_reducible exact grw_call (HRs.out _)) | (go_at_call 165; with_reducible exact grw_call (HRt.out _)) | (go_at_call 165; with_reducible exact grw_call (HRu.out _))))
    refine wpQuiet_nil ?_
    rintro y ⟨⟨_, hy⟩, rfl⟩
    go_wp2
    go_ret
    refine ⟨ret_bs ?_, hb.trans (hy.mono (Nat.le_of_lt hlt))⟩
    rw [HZ3.out, HZ2.out, HZ1.out, HT.out, HNM.out, HRS.out, HRT.out, HPL.out, HDP.out]
    exact (txt_9 dn sn tn un an kn pn).symm
  · skip
    obtain ⟨Z1, hz1, cc1, ss1, ll1⟩ := cat2 nm PL 40 40 lnm lPL
    have HZ1 := Lib.hid hz1
    clear hz1
    go_wp2
    go_ret
    refine ⟨ret_bs ?_, hb⟩
    rw [HZ1.out, HT.out, HNM.out, HPL.out, HDP.out]
    exact (txt_10 dn sn tn un an kn pn).symm

end Go.Proofs.YthdgehcghklflaaGreatDoor

/- The document's Text, of some Ops. -/
namespace Go.Proofs.YthdgehcghklflaaGreatDoor
open Go.ChangeShapes Go.WideShapes Go.ChangeAt Go.RowKit
set_option linter.unusedVariables false

set_option maxHeartbeats 8000000 in
set_option maxRecDepth 100000 in
theorem rTextB (op : Int) (dn sn tn un an kn pn : Nat) (hop : op = 11 ∨ op = 22 ∨ op = 12 ∨ op = 13 ∨ op = 16 ∨ op = 17 ∨ op = 18 ∨ op = 19 ∨ op = 20 ∨ op = 23) (hd : dn < 5000000000) (hs : sn < 5000000000) (ht : tn < 5000000000) (hu : un < 5000000000) (ha : an < 5000000000) (hk : kn < 4294967296) (hp : pn < 5000000000) (w : World) :
    Calls Tryz.prog 144 #[iv ⟨op, dn, sn, tn, un, an, kn, pn⟩] w fun e w' => e = .returned (bs (textL ⟨op, dn, sn, tn, un, an, kn, pn⟩)) ∧ Below w.heap.size w w' := by
  have HRd := Lib.hid (fun W => rR dn W hd)
  have HRs := Lib.hid (fun W => rR sn W hs)
  have HRt := Lib.hid (fun W => rR tn W ht)
  have HRu := Lib.hid (fun W => rR un W hu)
  have HDk := Lib.hid (fun W => rDig kn W (by omega))
  have HDa := Lib.hid (fun W => rDig an W ha)
  have HDp := Lib.hid (fun W => rDig pn W hp)
  have HN := Lib.hid (fun W => rName op W)
  have lnm : (nmL op).length ≤ 40 := Nat.le_trans (nm_len op) (by decide)
  have lRD := rL_len dn hd
  have lRS := rL_len sn hs
  have lRT := rL_len tn ht
  have lRU := rL_len un hu
  have lDK := dec_len kn (by omega)
  have lDA := dec_len an ha
  have lDP := dec_len pn hp
  generalize hRD : rL dn = RD at *
  generalize hRS : rL sn = RS at *
  generalize hRT : rL tn = RT at *
  generalize hRU : rL un = RU at *
  generalize hDK : Lib.decDigits kn = DK at *
  generalize hDA : Lib.decDigits an = DA at *
  generalize hDP : Lib.decDigits pn = DP at *
  generalize hnm : nmL op = nm at *
  generalize htx : textL ⟨op, dn, sn, tn, un, an, kn, pn⟩ = tx
  have HRD := Lib.hid hRD.symm
  have HRS := Lib.hid hRS.symm
  have HRT := Lib.hid hRT.symm
  have HRU := Lib.hid hRU.symm
  have HDK := Lib.hid hDK.symm
  have HDA := Lib.hid hDA.symm
  have HDP := Lib.hid hDP.symm
  have HNM := Lib.hid hnm.symm
  have HT := Lib.hid htx.symm
  clear hRD hRS hRT hRU hDK hDA hDP hnm htx
  have lKL : (32 :: DK).length ≤ 40 := by simp; omega
  have lAL : (32 :: DA).length ≤ 40 := by simp; omega
  have lPL : (32 :: DP).length ≤ 40 := by simp; omega
  generalize hKL : 32 :: DK = KL at *
  generalize hAL : 32 :: DA = AL at *
  generalize hPL : 32 :: DP = PL at *
  have ck : (⟨#[32]⟩ : ByteArray) ++ ⟨DK.toArray⟩ = ⟨KL.toArray⟩ := by rw [← hKL]; exact cat_bs [32] DK
  have ca : (⟨#[32]⟩ : ByteArray) ++ ⟨DA.toArray⟩ = ⟨AL.toArray⟩ := by rw [← hAL]; exact cat_bs [32] DA
  have cp : (⟨#[32]⟩ : ByteArray) ++ ⟨DP.toArray⟩ = ⟨PL.toArray⟩ := by rw [← hPL]; exact cat_bs [32] DP
  have HKL := Lib.hid hKL.symm
  have HAL := Lib.hid hAL.symm
  have HPL := Lib.hid hPL.symm
  clear hKL hAL hPL
  have sk : ¬ 9223372036854775807 < 1 + DK.length := by omega
  have sa : ¬ 9223372036854775807 < 1 + DA.length := by omega
  have sp : ¬ 9223372036854775807 < 1 + DP.length := by omega
  have hk0 : (0 : Int) ≤ (kn : Int) := by omega
  have hk1 : (kn : Int) < 4294967296 := by omega
  have hp0 : (0 : Int) ≤ (pn : Int) := by omega
  unfold iv
  go_enter Tryz.func144, Tryz.ntmps144
  go_wp2
  generalize hx0 : w.alloc (.cells #[.int .i64 op, .int .i64 (dn : Int), .int .i64 (sn : Int), .int .i64 (tn : Int), .int .i64 (un : Int), .int .i64 (an : Int), .int .u32 (kn : Int), .int .i64 (pn : Int)] 125) = x0
  have hJ : Jb x0 w.heap.size ⟨op, dn, sn, tn, un, an, kn, pn⟩ := by rw [← hx0]; exact Jb.made w _ _ _ _ _ _ _ _
  have hb : Below w.heap.size w x0 := by rw [← hx0]; exact (Below.refl _ _).alloc (Nat.le_refl _) _
  have hlt : w.heap.size < x0.heap.size := Bk.lt hJ
  clear hx0
  obtain ⟨g0, g1, g2, g3, g4, g5, g6, g7⟩ := hJ.grw
  simp only at g0 g1 g2 g3 g4 g5 g6 g7
  refine wp_region_grow (by kernel_rfl) (by kernel_rfl) ?_
  repeat (go_big_quiet_step (first | (go_at_call 164; with_reducible exact grw_call (HDk.out _)) | (go_at_call 164; with_reducible exact grw_call (HDa.out _))))
  refine wpQuiet_nil ?_
  rintro x ⟨⟨_, hx⟩, rfl⟩
  replace hb := hb.trans (hx.mono (Nat.le_of_lt hlt))
  replace hJ := hJ.below hx
  replace hlt : w.heap.size < x.heap.size := Bk.lt hJ
  clear g0 g1 g2 g3 g4 g5 g6 g7 hx ck ca sk sa
  obtain ⟨c0, -, -, -, -, -, -, c7⟩ := hJ.cells
  simp only at c0 c7
  go_wp2_with fail
  refine (HDp.out _).mono ?_
  rintro e x1 ⟨rfl, hx⟩
  replace hb := hb.trans (hx.mono (Nat.le_of_lt hlt))
  replace hJ := hJ.below hx
  replace hlt : w.heap.size < x1.heap.size := Bk.lt hJ
  clear hx c0 c7
  obtain ⟨c0, -⟩ := hJ.cells
  simp only at c0
  go_wp2_with fail
  refine (HN.out _).mono ?_
  rintro e x2 ⟨rfl, hx⟩
  replace hb := hb.trans (hx.mono (Nat.le_of_lt hlt))
  replace hJ := hJ.below hx
  replace hlt : w.heap.size < x2.heap.size := Bk.lt hJ
  clear hx c0 cp sp
  obtain ⟨c0, c1, c2, c3, c4, c5, c6, c7⟩ := hJ.cells
  obtain ⟨g0, g1, g2, g3, g4, g5, g6, g7⟩ := hJ.grw
  simp only at c0 c1 c2 c3 c4 c5 c6 c7 g0 g1 g2 g3 g4 g5 g6 g7
  unfold bs
  go_upto_region 6 with (fail)
  rcases hop with rfl | rfl | rfl | rfl | rfl | rfl | rfl | rfl | rfl | rfl
  · skip
    obtain ⟨Z1, hz1, cc1, ss1, ll1⟩ := cat2 nm RD 40 40 lnm lRD
    have HZ1 := Lib.hid hz1
    clear hz1
    go_wp2_with (first | (go_at_call 165; (with_reducible refine (HRd.out _).mono ?_); rintro e y ⟨rfl, hy⟩) | (go_at_call 165; (with_reducible refine (HRs.out _).mono ?_); rintro e y ⟨rfl, hy⟩))
    go_ret
    refine ⟨ret_bs ?_, hb.trans (hy.mono (Nat.le_of_lt hlt))⟩
    rw [HZ1.out, HT.out, HNM.out, HRD.out]
    exact (txt_11 dn sn tn un an kn pn).symm
  · skip
    obtain ⟨Z1, hz1, cc1, ss1, ll1⟩ := cat2 nm RD 40 40 lnm lRD
    have HZ1 := Lib.hid hz1
    clear hz1
    go_wp2_with (first | (go_at_call 165; (with_reducible refine (HRd.out _).mono ?_); rintro e y ⟨rfl, hy⟩) | (go_at_call 165; (with_reducible refine (HRs.out _).mono ?_); rintro e y ⟨rfl, hy⟩))
    go_ret
    refine ⟨ret_bs ?_, hb.trans (hy.mono (Nat.le_of_lt hlt))⟩
    rw [HZ1.out, HT.out, HNM.out, HRD.out]
    exact (txt_22 dn sn tn un an kn pn).symm
  · skip
    obtain ⟨Z1, hz1, cc1, ss1, ll1⟩ := cat2 nm KL 40 40 lnm lKL
    have HZ1 := Lib.hid hz1
    clear hz1
    go_wp2
    go_ret
    refine ⟨ret_bs ?_, hb⟩
    rw [HZ1.out, HT.out, HNM.out, HKL.out, HDK.out]
    exact (txt_12 dn sn tn un an kn pn).symm
  · skip
    obtain ⟨Z1, hz1, cc1, ss1, ll1⟩ := cat2 nm KL 40 40 lnm lKL
    have HZ1 := Lib.hid hz1
    clear hz1
    go_wp2
    go_ret
    refine ⟨ret_bs ?_, hb⟩
    rw [HZ1.out, HT.out, HNM.out, HKL.out, HDK.out]
    exact (txt_13 dn sn tn un an kn pn).symm
  · skip
    obtain ⟨Z1, hz1, cc1, ss1, ll1⟩ := cat2 RD AL 40 40 lRD lAL
    have HZ1 := Lib.hid hz1
    clear hz1
    obtain ⟨Z2, hz2, cc2, ss2, ll2⟩ := cat2 Z1 RS 80 40 ll1 lRS
    have HZ2 := Lib.hid hz2
    clear hz2
    obtain ⟨Z3, hz3, cc3, ss3, ll3⟩ := cat2 nm Z2 40 120 lnm ll2
    have HZ3 := Lib.hid hz3
    clear hz3
    go_wp2
    refine wp_region_grow (by kernel_rfl) (by kernel_rfl) ?_
    repeat (go_big_quiet_step (first | (go_at_call 165; with_reducible exact grw_call (HRd.out _)) | (go_at_call 165; with_reducible exact grw_call (HRs.out _)) | (go_at_call 165; with_reducible exact grw_call (HRt.out _)) | (go_at_call 165; with_reducible exact grw_call (HRu.out _))))
    refine wpQuiet_nil ?_
    rintro y ⟨⟨_, hy⟩, rfl⟩
    go_wp2
    go_ret
    refine ⟨ret_bs ?_, hb.trans (hy.mono (Nat.le_of_lt hlt))⟩
    rw [HZ3.out, HZ2.out, HZ1.out, HT.out, HNM.out, HRD.out, HAL.out, HDA.out, HRS.out]
    exact (txt_16 dn sn tn un an kn pn).symm
  · skip
    obtain ⟨Z1, hz1, cc1, ss1, ll1⟩ := cat2 AL RS 40 40 lAL lRS
    have HZ1 := Lib.hid hz1
    clear hz1
    obtain ⟨Z2, hz2, cc2, ss2, ll2⟩ := cat2 Z1 RT 80 40 ll1 lRT
    have HZ2 := Lib.hid hz2
    clear hz2
    obtain ⟨Z3, hz3, cc3, ss3, ll3⟩ := cat2 nm Z2 40 120 lnm ll2
    have HZ3 := Lib.hid hz3
    clear hz3
    go_wp2
    refine wp_region_grow (by kernel_rfl) (by kernel_rfl) ?_
    repeat (go_big_quiet_step (first | (go_at_call 165; with_reducible exact grw_call (HRd.out _)) | (go_at_call 165; with_reducible exact grw_call (HRs.out _)) | (go_at_call 165; with_reducible exact grw_call (HRt.out _)) | (go_at_call 165; with_reducible exact grw_call (HRu.out _))))
    refine wpQuiet_nil ?_
    rintro y ⟨⟨_, hy⟩, rfl⟩
    go_wp2
    go_ret
    refine ⟨ret_bs ?_, hb.trans (hy.mono (Nat.le_of_lt hlt))⟩
    rw [HZ3.out, HZ2.out, HZ1.out, HT.out, HNM.out, HAL.out, HDA.out, HRS.out, HRT.out]
    exact (txt_17 dn sn tn un an kn pn).symm
  · skip
    obtain ⟨Z1, hz1, cc1, ss1, ll1⟩ := cat2 RD AL 40 40 lRD lAL
    have HZ1 := Lib.hid hz1
    clear hz1
    obtain ⟨Z2, hz2, cc2, ss2, ll2⟩ := cat2 Z1 RS 80 40 ll1 lRS
    have HZ2 := Lib.hid hz2
    clear hz2
    obtain ⟨Z3, hz3, cc3, ss3, ll3⟩ := cat2 Z2 RT 120 40 ll2 lRT
    have HZ3 := Lib.hid hz3
    clear hz3
    obtain ⟨Z4, hz4, cc4, ss4, ll4⟩ := cat2 nm Z3 40 160 lnm ll3
    have HZ4 := Lib.hid hz4
    clear hz4
    go_wp2
    refine wp_region_grow (by kernel_rfl) (by kernel_rfl) ?_
    repeat (go_big_quiet_step (first | (go_at_call 165; with_reducible exact grw_call (HRd.out _)) | (go_at_call 165; with_reducible exact grw_call (HRs.out _)) | (go_at_call 165; with_reducible exact grw_call (HRt.out _)) | (go_at_call 165; with_reducible exact grw_call (HRu.out _))))
    refine wpQuiet_nil ?_
    rintro y ⟨⟨_, hy⟩, rfl⟩
    go_wp2
    go_ret
    refine ⟨ret_bs ?_, hb.trans (hy.mono (Nat.le_of_lt hlt))⟩
    rw [HZ4.out, HZ3.out, HZ2.out, HZ1.out, HT.out, HNM.out, HRD.out, HAL.out, HDA.out, HRS.out, HRT.out]
    exact (txt_18 dn sn tn un an kn pn).symm
  · skip
    obtain ⟨Z1, hz1, cc1, ss1, ll1⟩ := cat2 RD AL 40 40 lRD lAL
    have HZ1 := Lib.hid hz1
    clear hz1
    obtain ⟨Z2, hz2, cc2, ss2, ll2⟩ := cat2 Z1 RS 80 40 ll1 lRS
    have HZ2 := Lib.hid hz2
    clear hz2
    obtain ⟨Z3, hz3, cc3, ss3, ll3⟩ := cat2 Z2 RT 120 40 ll2 lRT
    have HZ3 := Lib.hid hz3
    clear hz3
    obtain ⟨Z4, hz4, cc4, ss4, ll4⟩ := cat2 Z3 RU 160 40 ll3 lRU
    have HZ4 := Lib.hid hz4
    clear hz4
    obtain ⟨Z5, hz5, cc5, ss5, ll5⟩ := cat2 nm Z4 40 200 lnm ll4
    have HZ5 := Lib.hid hz5
    clear hz5
    go_wp2
    refine wp_region_grow (by kernel_rfl) (by kernel_rfl) ?_
    repeat (go_big_quiet_step (first | (go_at_call 165; with_reducible exact grw_call (HRd.out _)) | (go_at_call 165; with_reducible exact grw_call (HRs.out _)) | (go_at_call 165; with_reducible exact grw_call (HRt.out _)) | (go_at_call 165; with_reducible exact grw_call (HRu.out _))))
    refine wpQuiet_nil ?_
    rintro y ⟨⟨_, hy⟩, rfl⟩
    go_wp2
    go_ret
    refine ⟨ret_bs ?_, hb.trans (hy.mono (Nat.le_of_lt hlt))⟩
    rw [HZ5.out, HZ4.out, HZ3.out, HZ2.out, HZ1.out, HT.out, HNM.out, HRD.out, HAL.out, HDA.out, HRS.out, HRT.out, HRU.out]
    exact (txt_19 dn sn tn un an kn pn).symm
  · skip
    obtain ⟨Z1, hz1, cc1, ss1, ll1⟩ := cat2 RD AL 40 40 lRD lAL
    have HZ1 := Lib.hid hz1
    clear hz1
    obtain ⟨Z2, hz2, cc2, ss2, ll2⟩ := cat2 Z1 RS 80 40 ll1 lRS
    have HZ2 := Lib.hid hz2
    clear hz2
    obtain ⟨Z3, hz3, cc3, ss3, ll3⟩ := cat2 Z2 KL 120 40 ll2 lKL
    have HZ3 := Lib.hid hz3
    clear hz3
    obtain ⟨Z4, hz4, cc4, ss4, ll4⟩ := cat2 nm Z3 40 160 lnm ll3
    have HZ4 := Lib.hid hz4
    clear hz4
    go_wp2
    refine wp_region_grow (by kernel_rfl) (by kernel_rfl) ?_
    repeat (go_big_quiet_step (first | (go_at_call 165; with_reducible exact grw_call (HRd.out _)) | (go_at_call 165; with_reducible exact grw_call (HRs.out _)) | (go_at_call 165; with_reducible exact grw_call (HRt.out _)) | (go_at_call 165; with_reducible exact grw_call (HRu.out _))))
    refine wpQuiet_nil ?_
    rintro y ⟨⟨_, hy⟩, rfl⟩
    go_wp2
    go_ret
    refine ⟨ret_bs ?_, hb.trans (hy.mono (Nat.le_of_lt hlt))⟩
    rw [HZ4.out, HZ3.out, HZ2.out, HZ1.out, HT.out, HNM.out, HRD.out, HAL.out, HDA.out, HRS.out, HKL.out, HDK.out]
    exact (txt_20 dn sn tn un an kn pn).symm
  · skip
    obtain ⟨Z1, hz1, cc1, ss1, ll1⟩ := cat2 nm RS 40 40 lnm lRS
    have HZ1 := Lib.hid hz1
    clear hz1
    go_wp2_with (first | (go_at_call 165; (with_reducible refine (HRd.out _).mono ?_); rintro e y ⟨rfl, hy⟩) | (go_at_call 165; (with_reducible refine (HRs.out _).mono ?_); rintro e y ⟨rfl, hy⟩))
    go_ret
    refine ⟨ret_bs ?_, hb.trans (hy.mono (Nat.le_of_lt hlt))⟩
    rw [HZ1.out, HT.out, HNM.out, HRS.out]
    exact (txt_23 dn sn tn un an kn pn).symm

end Go.Proofs.YthdgehcghklflaaGreatDoor

/- The document's Text, of some Ops. -/
namespace Go.Proofs.YthdgehcghklflaaGreatDoor
open Go.ChangeShapes Go.WideShapes Go.ChangeAt Go.RowKit
set_option linter.unusedVariables false

theorem txt_21_0p (dn sn tn un an pn : Nat) : textL ⟨21, dn, sn, tn, un, an, 0, pn⟩ = nmL 21 ++ (rL dn ++ (32 :: Lib.decDigits an) ++ rL sn ++ [32, 101, 113] ++ rL tn) ++ ([32, 101, 108, 115, 101] ++ (32 :: Lib.decDigits pn)) := by
  have e : ¬ ((pn : Int) = -1) := by omega
  simp [textL, hsL, partsL, partL, getI, rL, itoa_nat, e]
theorem txt_21_0m (dn sn tn un an pn : Nat) : textL ⟨21, dn, sn, tn, un, an, 0, -1⟩ = nmL 21 ++ (rL dn ++ (32 :: Lib.decDigits an) ++ rL sn ++ [32, 101, 113] ++ rL tn) := by
  simp [textL, hsL, partsL, partL, getI, rL, itoa_nat]
theorem txt_21_1p (dn sn tn un an pn : Nat) : textL ⟨21, dn, sn, tn, un, an, 1, pn⟩ = nmL 21 ++ (rL dn ++ (32 :: Lib.decDigits an) ++ rL sn ++ [32, 110, 101] ++ rL tn) ++ ([32, 101, 108, 115, 101] ++ (32 :: Lib.decDigits pn)) := by
  have e : ¬ ((pn : Int) = -1) := by omega
  simp [textL, hsL, partsL, partL, getI, rL, itoa_nat, e]
theorem txt_21_1m (dn sn tn un an pn : Nat) : textL ⟨21, dn, sn, tn, un, an, 1, -1⟩ = nmL 21 ++ (rL dn ++ (32 :: Lib.decDigits an) ++ rL sn ++ [32, 110, 101] ++ rL tn) := by
  simp [textL, hsL, partsL, partL, getI, rL, itoa_nat]
set_option maxHeartbeats 8000000 in
set_option maxRecDepth 100000 in
theorem rText21_0p (dn sn tn un an pn : Nat) (hd : dn < 5000000000) (hs : sn < 5000000000) (ht : tn < 5000000000) (hu : un < 5000000000) (ha : an < 5000000000) (hp : pn < 5000000000) (w : World) :
    Calls Tryz.prog 144 #[iv ⟨21, dn, sn, tn, un, an, 0, pn⟩] w fun e w' => e = .returned (bs (textL ⟨21, dn, sn, tn, un, an, 0, pn⟩)) ∧ Below w.heap.size w w' := by
  have HRd := Lib.hid (fun W => rR dn W hd)
  have HRs := Lib.hid (fun W => rR sn W hs)
  have HRt := Lib.hid (fun W => rR tn W ht)
  have HRu := Lib.hid (fun W => rR un W hu)
  have HDk := Lib.hid (fun W => rDig 0 W (by decide))
  have HDa := Lib.hid (fun W => rDig an W ha)
  have HDp := Lib.hid (fun W => rDig pn W hp)
  have HN := Lib.hid (fun W => rName 21 W)
  have lnm : (nmL 21).length ≤ 40 := Nat.le_trans (nm_len 21) (by decide)
  have lRD := rL_len dn hd
  have lRS := rL_len sn hs
  have lRT := rL_len tn ht
  have lRU := rL_len un hu
  have lDK := dec_len 0 (by decide)
  have lDA := dec_len an ha
  have lDP := dec_len pn hp
  generalize hRD : rL dn = RD at *
  generalize hRS : rL sn = RS at *
  generalize hRT : rL tn = RT at *
  generalize hRU : rL un = RU at *
  generalize hDK : Lib.decDigits 0 = DK at *
  generalize hDA : Lib.decDigits an = DA at *
  generalize hDP : Lib.decDigits pn = DP at *
  generalize hnm : nmL 21 = nm at *
  generalize htx : textL ⟨21, dn, sn, tn, un, an, 0, pn⟩ = tx
  have HRD := Lib.hid hRD.symm
  have HRS := Lib.hid hRS.symm
  have HRT := Lib.hid hRT.symm
  have HRU := Lib.hid hRU.symm
  have HDK := Lib.hid hDK.symm
  have HDA := Lib.hid hDA.symm
  have HDP := Lib.hid hDP.symm
  have HNM := Lib.hid hnm.symm
  have HT := Lib.hid htx.symm
  clear hRD hRS hRT hRU hDK hDA hDP hnm htx
  have lKL : (32 :: DK).length ≤ 40 := by simp; omega
  have lAL : (32 :: DA).length ≤ 40 := by simp; omega
  have lPL : (32 :: DP).length ≤ 40 := by simp; omega
  generalize hKL : 32 :: DK = KL at *
  generalize hAL : 32 :: DA = AL at *
  generalize hPL : 32 :: DP = PL at *
  have ck : (⟨#[32]⟩ : ByteArray) ++ ⟨DK.toArray⟩ = ⟨KL.toArray⟩ := by rw [← hKL]; exact cat_bs [32] DK
  have ca : (⟨#[32]⟩ : ByteArray) ++ ⟨DA.toArray⟩ = ⟨AL.toArray⟩ := by rw [← hAL]; exact cat_bs [32] DA
  have cp : (⟨#[32]⟩ : ByteArray) ++ ⟨DP.toArray⟩ = ⟨PL.toArray⟩ := by rw [← hPL]; exact cat_bs [32] DP
  have HKL := Lib.hid hKL.symm
  have HAL := Lib.hid hAL.symm
  have HPL := Lib.hid hPL.symm
  clear hKL hAL hPL
  have sk : ¬ 9223372036854775807 < 1 + DK.length := by omega
  have sa : ¬ 9223372036854775807 < 1 + DA.length := by omega
  have sp : ¬ 9223372036854775807 < 1 + DP.length := by omega
  have hp0 : (0 : Int) ≤ (pn : Int) := by omega
  unfold iv
  go_enter Tryz.func144, Tryz.ntmps144
  go_wp2
  generalize hx0 : w.alloc (.cells #[.int .i64 21, .int .i64 (dn : Int), .int .i64 (sn : Int), .int .i64 (tn : Int), .int .i64 (un : Int), .int .i64 (an : Int), .int .u32 0, .int .i64 (pn : Int)] 125) = x0
  have hJ : Jb x0 w.heap.size ⟨21, dn, sn, tn, un, an, 0, pn⟩ := by rw [← hx0]; exact Jb.made w _ _ _ _ _ _ _ _
  have hb : Below w.heap.size w x0 := by rw [← hx0]; exact (Below.refl _ _).alloc (Nat.le_refl _) _
  have hlt : w.heap.size < x0.heap.size := Bk.lt hJ
  clear hx0
  obtain ⟨g0, g1, g2, g3, g4, g5, g6, g7⟩ := hJ.grw
  simp only at g0 g1 g2 g3 g4 g5 g6 g7
  refine wp_region_grow (by kernel_rfl) (by kernel_rfl) ?_
  repeat (go_big_quiet_step (first | (go_at_call 164; with_reducible exact grw_call (HDk.out _)) | (go_at_call 164; with_reducible exact grw_call (HDa.out _))))
  refine wpQuiet_nil ?_
  rintro x ⟨⟨_, hx⟩, rfl⟩
  replace hb := hb.trans (hx.mono (Nat.le_of_lt hlt))
  replace hJ := hJ.below hx
  replace hlt : w.heap.size < x.heap.size := Bk.lt hJ
  clear g0 g1 g2 g3 g4 g5 g6 g7 hx ck ca sk sa
  obtain ⟨c0, -, -, -, -, -, -, c7⟩ := hJ.cells
  simp only at c0 c7
  go_wp2_with fail
  refine (HDp.out _).mono ?_
  rintro e x1 ⟨rfl, hx⟩
  replace hb := hb.trans (hx.mono (Nat.le_of_lt hlt))
  replace hJ := hJ.below hx
  replace hlt : w.heap.size < x1.heap.size := Bk.lt hJ
  clear hx c0 c7
  obtain ⟨c0, -⟩ := hJ.cells
  simp only at c0
  go_wp2_with fail
  refine (HN.out _).mono ?_
  rintro e x2 ⟨rfl, hx⟩
  replace hb := hb.trans (hx.mono (Nat.le_of_lt hlt))
  replace hJ := hJ.below hx
  replace hlt : w.heap.size < x2.heap.size := Bk.lt hJ
  clear hx c0 cp sp
  obtain ⟨c0, c1, c2, c3, c4, c5, c6, c7⟩ := hJ.cells
  obtain ⟨g0, g1, g2, g3, g4, g5, g6, g7⟩ := hJ.grw
  simp only at c0 c1 c2 c3 c4 c5 c6 c7 g0 g1 g2 g3 g4 g5 g6 g7
  unfold bs
  have lWW : ([32, 101, 113] : List UInt8).length ≤ 40 := by decide
  obtain ⟨Z1, hz1, cc1, ss1, ll1⟩ := cat2 RD AL 40 40 lRD lAL
  have HZ1 := Lib.hid hz1
  clear hz1
  obtain ⟨Z2, hz2, cc2, ss2, ll2⟩ := cat2 Z1 RS 80 40 ll1 lRS
  have HZ2 := Lib.hid hz2
  clear hz2
  obtain ⟨Z3, hz3, cc3, ss3, ll3⟩ := cat2 Z2 [32, 101, 113] 120 40 ll2 lWW
  simp only [List.length_cons, List.length_nil, Nat.zero_add, Nat.reduceAdd] at ss3
  have HZ3 := Lib.hid hz3
  clear hz3
  obtain ⟨Z4, hz4, cc4, ss4, ll4⟩ := cat2 Z3 RT 160 40 ll3 lRT
  have HZ4 := Lib.hid hz4
  clear hz4
  obtain ⟨Z5, hz5, cc5, ss5, ll5⟩ := cat2 nm Z4 40 200 lnm ll4
  have HZ5 := Lib.hid hz5
  clear hz5
  have lEL : ([32, 101, 108, 115, 101] : List UInt8).length ≤ 40 := by decide
  obtain ⟨Z6, hz6, cc6, ss6, ll6⟩ := cat2 [32, 101, 108, 115, 101] PL 40 40 lEL lPL
  simp only [List.length_cons, List.length_nil, Nat.zero_add, Nat.reduceAdd] at ss6
  have HZ6 := Lib.hid hz6
  clear hz6
  obtain ⟨Z7, hz7, cc7, ss7, ll7⟩ := cat2 Z5 Z6 240 80 ll5 ll6
  have HZ7 := Lib.hid hz7
  clear hz7
  clear lWW
  go_wp2
  refine wp_region_grow (by kernel_rfl) (by kernel_rfl) ?_
  repeat (go_big_quiet_step (first | (go_at_call 165; with_reducible exact grw_call (HRd.out _)) | (go_at_call 165; with_reducible exact grw_call (HRs.out _)) | (go_at_call 165; with_reducible exact grw_call (HRt.out _)) | (go_at_call 165; with_reducible exact grw_call (HRu.out _))))
  refine wpQuiet_nil ?_
  rintro y ⟨⟨_, hy⟩, rfl⟩
  replace hb := hb.trans (hy.mono (Nat.le_of_lt hlt))
  replace hJ := hJ.below hy
  clear c0 c1 c2 c3 c4 c5 c6 c7 g0 g1 g2 g3 g4 g5 g6 g7
  obtain ⟨-, -, -, -, -, -, -, c7⟩ := hJ.cells
  simp only at c7
  go_wp2
  go_ret
  refine ⟨ret_bs ?_, hb⟩
  rw [HZ7.out, HZ6.out, HZ5.out, HZ4.out, HZ3.out, HZ2.out, HZ1.out, HT.out, HNM.out, HRD.out, HAL.out, HDA.out, HRS.out, HRT.out, HPL.out, HDP.out]
  exact (txt_21_0p dn sn tn un an pn).symm

set_option maxHeartbeats 8000000 in
set_option maxRecDepth 100000 in
theorem rText21_0m (dn sn tn un an pn : Nat) (hd : dn < 5000000000) (hs : sn < 5000000000) (ht : tn < 5000000000) (hu : un < 5000000000) (ha : an < 5000000000) (hp : pn < 5000000000) (w : World) :
    Calls Tryz.prog 144 #[iv ⟨21, dn, sn, tn, un, an, 0, -1⟩] w fun e w' => e = .returned (bs (textL ⟨21, dn, sn, tn, un, an, 0, -1⟩)) ∧ Below w.heap.size w w' := by
  have HRd := Lib.hid (fun W => rR dn W hd)
  have HRs := Lib.hid (fun W => rR sn W hs)
  have HRt := Lib.hid (fun W => rR tn W ht)
  have HRu := Lib.hid (fun W => rR un W hu)
  have HDk := Lib.hid (fun W => rDig 0 W (by decide))
  have HDa := Lib.hid (fun W => rDig an W ha)
  have HDp := Lib.hid (fun W => rDig pn W hp)
  have HN := Lib.hid (fun W => rName 21 W)
  have lnm : (nmL 21).length ≤ 40 := Nat.le_trans (nm_len 21) (by decide)
  have lRD := rL_len dn hd
  have lRS := rL_len sn hs
  have lRT := rL_len tn ht
  have lRU := rL_len un hu
  have lDK := dec_len 0 (by decide)
  have lDA := dec_len an ha
  have lDP := dec_len pn hp
  generalize hRD : rL dn = RD at *
  generalize hRS : rL sn = RS at *
  generalize hRT : rL tn = RT at *
  generalize hRU : rL un = RU at *
  generalize hDK : Lib.decDigits 0 = DK at *
  generalize hDA : Lib.decDigits an = DA at *
  generalize hDP : Lib.decDigits pn = DP at *
  generalize hnm : nmL 21 = nm at *
  generalize htx : textL ⟨21, dn, sn, tn, un, an, 0, -1⟩ = tx
  have HRD := Lib.hid hRD.symm
  have HRS := Lib.hid hRS.symm
  have HRT := Lib.hid hRT.symm
  have HRU := Lib.hid hRU.symm
  have HDK := Lib.hid hDK.symm
  have HDA := Lib.hid hDA.symm
  have HDP := Lib.hid hDP.symm
  have HNM := Lib.hid hnm.symm
  have HT := Lib.hid htx.symm
  clear hRD hRS hRT hRU hDK hDA hDP hnm htx
  have lKL : (32 :: DK).length ≤ 40 := by simp; omega
  have lAL : (32 :: DA).length ≤ 40 := by simp; omega
  have lPL : (32 :: DP).length ≤ 40 := by simp; omega
  generalize hKL : 32 :: DK = KL at *
  generalize hAL : 32 :: DA = AL at *
  generalize hPL : 32 :: DP = PL at *
  have ck : (⟨#[32]⟩ : ByteArray) ++ ⟨DK.toArray⟩ = ⟨KL.toArray⟩ := by rw [← hKL]; exact cat_bs [32] DK
  have ca : (⟨#[32]⟩ : ByteArray) ++ ⟨DA.toArray⟩ = ⟨AL.toArray⟩ := by rw [← hAL]; exact cat_bs [32] DA
  have cp : (⟨#[32]⟩ : ByteArray) ++ ⟨DP.toArray⟩ = ⟨PL.toArray⟩ := by rw [← hPL]; exact cat_bs [32] DP
  have HKL := Lib.hid hKL.symm
  have HAL := Lib.hid hAL.symm
  have HPL := Lib.hid hPL.symm
  clear hKL hAL hPL
  have sk : ¬ 9223372036854775807 < 1 + DK.length := by omega
  have sa : ¬ 9223372036854775807 < 1 + DA.length := by omega
  have sp : ¬ 9223372036854775807 < 1 + DP.length := by omega
  unfold iv
  go_enter Tryz.func144, Tryz.ntmps144
  go_wp2
  generalize hx0 : w.alloc (.cells #[.int .i64 21, .int .i64 (dn : Int), .int .i64 (sn : Int), .int .i64 (tn : Int), .int .i64 (un : Int), .int .i64 (an : Int), .int .u32 0, .int .i64 (-1)] 125) = x0
  have hJ : Jb x0 w.heap.size ⟨21, dn, sn, tn, un, an, 0, -1⟩ := by rw [← hx0]; exact Jb.made w _ _ _ _ _ _ _ _
  have hb : Below w.heap.size w x0 := by rw [← hx0]; exact (Below.refl _ _).alloc (Nat.le_refl _) _
  have hlt : w.heap.size < x0.heap.size := Bk.lt hJ
  clear hx0
  obtain ⟨g0, g1, g2, g3, g4, g5, g6, g7⟩ := hJ.grw
  simp only at g0 g1 g2 g3 g4 g5 g6 g7
  refine wp_region_grow (by kernel_rfl) (by kernel_rfl) ?_
  repeat (go_big_quiet_step (first | (go_at_call 164; with_reducible exact grw_call (HDk.out _)) | (go_at_call 164; with_reducible exact grw_call (HDa.out _))))
  refine wpQuiet_nil ?_
  rintro x ⟨⟨_, hx⟩, rfl⟩
  replace hb := hb.trans (hx.mono (Nat.le_of_lt hlt))
  replace hJ := hJ.below hx
  replace hlt : w.heap.size < x.heap.size := Bk.lt hJ
  clear g0 g1 g2 g3 g4 g5 g6 g7 hx ck ca sk sa
  obtain ⟨c0, -, -, -, -, -, -, c7⟩ := hJ.cells
  simp only at c0 c7
  go_wp2_with fail
  refine (HN.out _).mono ?_
  rintro e x2 ⟨rfl, hx⟩
  replace hb := hb.trans (hx.mono (Nat.le_of_lt hlt))
  replace hJ := hJ.below hx
  replace hlt : w.heap.size < x2.heap.size := Bk.lt hJ
  clear hx c0 c7 cp sp
  obtain ⟨c0, c1, c2, c3, c4, c5, c6, c7⟩ := hJ.cells
  obtain ⟨g0, g1, g2, g3, g4, g5, g6, g7⟩ := hJ.grw
  simp only at c0 c1 c2 c3 c4 c5 c6 c7 g0 g1 g2 g3 g4 g5 g6 g7
  unfold bs
  have lWW : ([32, 101, 113] : List UInt8).length ≤ 40 := by decide
  obtain ⟨Z1, hz1, cc1, ss1, ll1⟩ := cat2 RD AL 40 40 lRD lAL
  have HZ1 := Lib.hid hz1
  clear hz1
  obtain ⟨Z2, hz2, cc2, ss2, ll2⟩ := cat2 Z1 RS 80 40 ll1 lRS
  have HZ2 := Lib.hid hz2
  clear hz2
  obtain ⟨Z3, hz3, cc3, ss3, ll3⟩ := cat2 Z2 [32, 101, 113] 120 40 ll2 lWW
  simp only [List.length_cons, List.length_nil, Nat.zero_add, Nat.reduceAdd] at ss3
  have HZ3 := Lib.hid hz3
  clear hz3
  obtain ⟨Z4, hz4, cc4, ss4, ll4⟩ := cat2 Z3 RT 160 40 ll3 lRT
  have HZ4 := Lib.hid hz4
  clear hz4
  obtain ⟨Z5, hz5, cc5, ss5, ll5⟩ := cat2 nm Z4 40 200 lnm ll4
  have HZ5 := Lib.hid hz5
  clear hz5
  clear lWW
  go_wp2
  refine wp_region_grow (by kernel_rfl) (by kernel_rfl) ?_
  repeat (go_big_quiet_step (first | (go_at_call 165; with_reducible exact grw_call (HRd.out _)) | (go_at_call 165; with_reducible exact grw_call (HRs.out _)) | (go_at_call 165; with_reducible exact grw_call (HRt.out _)) | (go_at_call 165; with_reducible exact grw_call (HRu.out _))))
  refine wpQuiet_nil ?_
  rintro y ⟨⟨_, hy⟩, rfl⟩
  replace hb := hb.trans (hy.mono (Nat.le_of_lt hlt))
  replace hJ := hJ.below hy
  clear c0 c1 c2 c3 c4 c5 c6 c7 g0 g1 g2 g3 g4 g5 g6 g7
  obtain ⟨-, -, -, -, -, -, -, c7⟩ := hJ.cells
  simp only at c7
  go_wp2
  go_ret
  refine ⟨ret_bs ?_, hb⟩
  rw [HZ5.out, HZ4.out, HZ3.out, HZ2.out, HZ1.out, HT.out, HNM.out, HRD.out, HAL.out, HDA.out, HRS.out, HRT.out]
  exact (txt_21_0m dn sn tn un an pn).symm

set_option maxHeartbeats 8000000 in
set_option maxRecDepth 100000 in
theorem rText21_1p (dn sn tn un an pn : Nat) (hd : dn < 5000000000) (hs : sn < 5000000000) (ht : tn < 5000000000) (hu : un < 5000000000) (ha : an < 5000000000) (hp : pn < 5000000000) (w : World) :
    Calls Tryz.prog 144 #[iv ⟨21, dn, sn, tn, un, an, 1, pn⟩] w fun e w' => e = .returned (bs (textL ⟨21, dn, sn, tn, un, an, 1, pn⟩)) ∧ Below w.heap.size w w' := by
  have HRd := Lib.hid (fun W => rR dn W hd)
  have HRs := Lib.hid (fun W => rR sn W hs)
  have HRt := Lib.hid (fun W => rR tn W ht)
  have HRu := Lib.hid (fun W => rR un W hu)
  have HDk := Lib.hid (fun W => rDig 1 W (by decide))
  have HDa := Lib.hid (fun W => rDig an W ha)
  have HDp := Lib.hid (fun W => rDig pn W hp)
  have HN := Lib.hid (fun W => rName 21 W)
  have lnm : (nmL 21).length ≤ 40 := Nat.le_trans (nm_len 21) (by decide)
  have lRD := rL_len dn hd
  have lRS := rL_len sn hs
  have lRT := rL_len tn ht
  have lRU := rL_len un hu
  have lDK := dec_len 1 (by decide)
  have lDA := dec_len an ha
  have lDP := dec_len pn hp
  generalize hRD : rL dn = RD at *
  generalize hRS : rL sn = RS at *
  generalize hRT : rL tn = RT at *
  generalize hRU : rL un = RU at *
  generalize hDK : Lib.decDigits 1 = DK at *
  generalize hDA : Lib.decDigits an = DA at *
  generalize hDP : Lib.decDigits pn = DP at *
  generalize hnm : nmL 21 = nm at *
  generalize htx : textL ⟨21, dn, sn, tn, un, an, 1, pn⟩ = tx
  have HRD := Lib.hid hRD.symm
  have HRS := Lib.hid hRS.symm
  have HRT := Lib.hid hRT.symm
  have HRU := Lib.hid hRU.symm
  have HDK := Lib.hid hDK.symm
  have HDA := Lib.hid hDA.symm
  have HDP := Lib.hid hDP.symm
  have HNM := Lib.hid hnm.symm
  have HT := Lib.hid htx.symm
  clear hRD hRS hRT hRU hDK hDA hDP hnm htx
  have lKL : (32 :: DK).length ≤ 40 := by simp; omega
  have lAL : (32 :: DA).length ≤ 40 := by simp; omega
  have lPL : (32 :: DP).length ≤ 40 := by simp; omega
  generalize hKL : 32 :: DK = KL at *
  generalize hAL : 32 :: DA = AL at *
  generalize hPL : 32 :: DP = PL at *
  have ck : (⟨#[32]⟩ : ByteArray) ++ ⟨DK.toArray⟩ = ⟨KL.toArray⟩ := by rw [← hKL]; exact cat_bs [32] DK
  have ca : (⟨#[32]⟩ : ByteArray) ++ ⟨DA.toArray⟩ = ⟨AL.toArray⟩ := by rw [← hAL]; exact cat_bs [32] DA
  have cp : (⟨#[32]⟩ : ByteArray) ++ ⟨DP.toArray⟩ = ⟨PL.toArray⟩ := by rw [← hPL]; exact cat_bs [32] DP
  have HKL := Lib.hid hKL.symm
  have HAL := Lib.hid hAL.symm
  have HPL := Lib.hid hPL.symm
  clear hKL hAL hPL
  have sk : ¬ 9223372036854775807 < 1 + DK.length := by omega
  have sa : ¬ 9223372036854775807 < 1 + DA.length := by omega
  have sp : ¬ 9223372036854775807 < 1 + DP.length := by omega
  have hp0 : (0 : Int) ≤ (pn : Int) := by omega
  unfold iv
  go_enter Tryz.func144, Tryz.ntmps144
  go_wp2
  generalize hx0 : w.alloc (.cells #[.int .i64 21, .int .i64 (dn : Int), .int .i64 (sn : Int), .int .i64 (tn : Int), .int .i64 (un : Int), .int .i64 (an : Int), .int .u32 1, .int .i64 (pn : Int)] 125) = x0
  have hJ : Jb x0 w.heap.size ⟨21, dn, sn, tn, un, an, 1, pn⟩ := by rw [← hx0]; exact Jb.made w _ _ _ _ _ _ _ _
  have hb : Below w.heap.size w x0 := by rw [← hx0]; exact (Below.refl _ _).alloc (Nat.le_refl _) _
  have hlt : w.heap.size < x0.heap.size := Bk.lt hJ
  clear hx0
  obtain ⟨g0, g1, g2, g3, g4, g5, g6, g7⟩ := hJ.grw
  simp only at g0 g1 g2 g3 g4 g5 g6 g7
  refine wp_region_grow (by kernel_rfl) (by kernel_rfl) ?_
  repeat (go_big_quiet_step (first | (go_at_call 164; with_reducible exact grw_call (HDk.out _)) | (go_at_call 164; with_reducible exact grw_call (HDa.out _))))
  refine wpQuiet_nil ?_
  rintro x ⟨⟨_, hx⟩, rfl⟩
  replace hb := hb.trans (hx.mono (Nat.le_of_lt hlt))
  replace hJ := hJ.below hx
  replace hlt : w.heap.size < x.heap.size := Bk.lt hJ
  clear g0 g1 g2 g3 g4 g5 g6 g7 hx ck ca sk sa
  obtain ⟨c0, -, -, -, -, -, -, c7⟩ := hJ.cells
  simp only at c0 c7
  go_wp2_with fail
  refine (HDp.out _).mono ?_
  rintro e x1 ⟨rfl, hx⟩
  replace hb := hb.trans (hx.mono (Nat.le_of_lt hlt))
  replace hJ := hJ.below hx
  replace hlt : w.heap.size < x1.heap.size := Bk.lt hJ
  clear hx c0 c7
  obtain ⟨c0, -⟩ := hJ.cells
  simp only at c0
  go_wp2_with fail
  refine (HN.out _).mono ?_
  rintro e x2 ⟨rfl, hx⟩
  replace hb := hb.trans (hx.mono (Nat.le_of_lt hlt))
  replace hJ := hJ.below hx
  replace hlt : w.heap.size < x2.heap.size := Bk.lt hJ
  clear hx c0 cp sp
  obtain ⟨c0, c1, c2, c3, c4, c5, c6, c7⟩ := hJ.cells
  obtain ⟨g0, g1, g2, g3, g4, g5, g6, g7⟩ := hJ.grw
  simp only at c0 c1 c2 c3 c4 c5 c6 c7 g0 g1 g2 g3 g4 g5 g6 g7
  unfold bs
  have lWW : ([32, 110, 101] : List UInt8).length ≤ 40 := by decide
  obtain ⟨Z1, hz1, cc1, ss1, ll1⟩ := cat2 RD AL 40 40 lRD lAL
  have HZ1 := Lib.hid hz1
  clear hz1
  obtain ⟨Z2, hz2, cc2, ss2, ll2⟩ := cat2 Z1 RS 80 40 ll1 lRS
  have HZ2 := Lib.hid hz2
  clear hz2
  obtain ⟨Z3, hz3, cc3, ss3, ll3⟩ := cat2 Z2 [32, 110, 101] 120 40 ll2 lWW
  simp only [List.length_cons, List.length_nil, Nat.zero_add, Nat.reduceAdd] at ss3
  have HZ3 := Lib.hid hz3
  clear hz3
  obtain ⟨Z4, hz4, cc4, ss4, ll4⟩ := cat2 Z3 RT 160 40 ll3 lRT
  have HZ4 := Lib.hid hz4
  clear hz4
  obtain ⟨Z5, hz5, cc5, ss5, ll5⟩ := cat2 nm Z4 40 200 lnm ll4
  have HZ5 := Lib.hid hz5
  clear hz5
  have lEL : ([32, 101, 108, 115, 101] : List UInt8).length ≤ 40 := by decide
  obtain ⟨Z6, hz6, cc6, ss6, ll6⟩ := cat2 [32, 101, 108, 115, 101] PL 40 40 lEL lPL
  simp only [List.length_cons, List.length_nil, Nat.zero_add, Nat.reduceAdd] at ss6
  have HZ6 := Lib.hid hz6
  clear hz6
  obtain ⟨Z7, hz7, cc7, ss7, ll7⟩ := cat2 Z5 Z6 240 80 ll5 ll6
  have HZ7 := Lib.hid hz7
  clear hz7
  clear lWW
  go_wp2
  refine wp_region_grow (by kernel_rfl) (by kernel_rfl) ?_
  repeat (go_big_quiet_step (first | (go_at_call 165; with_reducible exact grw_call (HRd.out _)) | (go_at_call 165; with_reducible exact grw_call (HRs.out _)) | (go_at_call 165; with_reducible exact grw_call (HRt.out _)) | (go_at_call 165; with_reducible exact grw_call (HRu.out _))))
  refine wpQuiet_nil ?_
  rintro y ⟨⟨_, hy⟩, rfl⟩
  replace hb := hb.trans (hy.mono (Nat.le_of_lt hlt))
  replace hJ := hJ.below hy
  clear c0 c1 c2 c3 c4 c5 c6 c7 g0 g1 g2 g3 g4 g5 g6 g7
  obtain ⟨-, -, -, -, -, -, -, c7⟩ := hJ.cells
  simp only at c7
  go_wp2
  go_ret
  refine ⟨ret_bs ?_, hb⟩
  rw [HZ7.out, HZ6.out, HZ5.out, HZ4.out, HZ3.out, HZ2.out, HZ1.out, HT.out, HNM.out, HRD.out, HAL.out, HDA.out, HRS.out, HRT.out, HPL.out, HDP.out]
  exact (txt_21_1p dn sn tn un an pn).symm

set_option maxHeartbeats 8000000 in
set_option maxRecDepth 100000 in
theorem rText21_1m (dn sn tn un an pn : Nat) (hd : dn < 5000000000) (hs : sn < 5000000000) (ht : tn < 5000000000) (hu : un < 5000000000) (ha : an < 5000000000) (hp : pn < 5000000000) (w : World) :
    Calls Tryz.prog 144 #[iv ⟨21, dn, sn, tn, un, an, 1, -1⟩] w fun e w' => e = .returned (bs (textL ⟨21, dn, sn, tn, un, an, 1, -1⟩)) ∧ Below w.heap.size w w' := by
  have HRd := Lib.hid (fun W => rR dn W hd)
  have HRs := Lib.hid (fun W => rR sn W hs)
  have HRt := Lib.hid (fun W => rR tn W ht)
  have HRu := Lib.hid (fun W => rR un W hu)
  have HDk := Lib.hid (fun W => rDig 1 W (by decide))
  have HDa := Lib.hid (fun W => rDig an W ha)
  have HDp := Lib.hid (fun W => rDig pn W hp)
  have HN := Lib.hid (fun W => rName 21 W)
  have lnm : (nmL 21).length ≤ 40 := Nat.le_trans (nm_len 21) (by decide)
  have lRD := rL_len dn hd
  have lRS := rL_len sn hs
  have lRT := rL_len tn ht
  have lRU := rL_len un hu
  have lDK := dec_len 1 (by decide)
  have lDA := dec_len an ha
  have lDP := dec_len pn hp
  generalize hRD : rL dn = RD at *
  generalize hRS : rL sn = RS at *
  generalize hRT : rL tn = RT at *
  generalize hRU : rL un = RU at *
  generalize hDK : Lib.decDigits 1 = DK at *
  generalize hDA : Lib.decDigits an = DA at *
  generalize hDP : Lib.decDigits pn = DP at *
  generalize hnm : nmL 21 = nm at *
  generalize htx : textL ⟨21, dn, sn, tn, un, an, 1, -1⟩ = tx
  have HRD := Lib.hid hRD.symm
  have HRS := Lib.hid hRS.symm
  have HRT := Lib.hid hRT.symm
  have HRU := Lib.hid hRU.symm
  have HDK := Lib.hid hDK.symm
  have HDA := Lib.hid hDA.symm
  have HDP := Lib.hid hDP.symm
  have HNM := Lib.hid hnm.symm
  have HT := Lib.hid htx.symm
  clear hRD hRS hRT hRU hDK hDA hDP hnm htx
  have lKL : (32 :: DK).length ≤ 40 := by simp; omega
  have lAL : (32 :: DA).length ≤ 40 := by simp; omega
  have lPL : (32 :: DP).length ≤ 40 := by simp; omega
  generalize hKL : 32 :: DK = KL at *
  generalize hAL : 32 :: DA = AL at *
  generalize hPL : 32 :: DP = PL at *
  have ck : (⟨#[32]⟩ : ByteArray) ++ ⟨DK.toArray⟩ = ⟨KL.toArray⟩ := by rw [← hKL]; exact cat_bs [32] DK
  have ca : (⟨#[32]⟩ : ByteArray) ++ ⟨DA.toArray⟩ = ⟨AL.toArray⟩ := by rw [← hAL]; exact cat_bs [32] DA
  have cp : (⟨#[32]⟩ : ByteArray) ++ ⟨DP.toArray⟩ = ⟨PL.toArray⟩ := by rw [← hPL]; exact cat_bs [32] DP
  have HKL := Lib.hid hKL.symm
  have HAL := Lib.hid hAL.symm
  have HPL := Lib.hid hPL.symm
  clear hKL hAL hPL
  have sk : ¬ 9223372036854775807 < 1 + DK.length := by omega
  have sa : ¬ 9223372036854775807 < 1 + DA.length := by omega
  have sp : ¬ 9223372036854775807 < 1 + DP.length := by omega
  unfold iv
  go_enter Tryz.func144, Tryz.ntmps144
  go_wp2
  generalize hx0 : w.alloc (.cells #[.int .i64 21, .int .i64 (dn : Int), .int .i64 (sn : Int), .int .i64 (tn : Int), .int .i64 (un : Int), .int .i64 (an : Int), .int .u32 1, .int .i64 (-1)] 125) = x0
  have hJ : Jb x0 w.heap.size ⟨21, dn, sn, tn, un, an, 1, -1⟩ := by rw [← hx0]; exact Jb.made w _ _ _ _ _ _ _ _
  have hb : Below w.heap.size w x0 := by rw [← hx0]; exact (Below.refl _ _).alloc (Nat.le_refl _) _
  have hlt : w.heap.size < x0.heap.size := Bk.lt hJ
  clear hx0
  obtain ⟨g0, g1, g2, g3, g4, g5, g6, g7⟩ := hJ.grw
  simp only at g0 g1 g2 g3 g4 g5 g6 g7
  refine wp_region_grow (by kernel_rfl) (by kernel_rfl) ?_
  repeat (go_big_quiet_step (first | (go_at_call 164; with_reducible exact grw_call (HDk.out _)) | (go_at_call 164; with_reducible exact grw_call (HDa.out _))))
  refine wpQuiet_nil ?_
  rintro x ⟨⟨_, hx⟩, rfl⟩
  replace hb := hb.trans (hx.mono (Nat.le_of_lt hlt))
  replace hJ := hJ.below hx
  replace hlt : w.heap.size < x.heap.size := Bk.lt hJ
  clear g0 g1 g2 g3 g4 g5 g6 g7 hx ck ca sk sa
  obtain ⟨c0, -, -, -, -, -, -, c7⟩ := hJ.cells
  simp only at c0 c7
  go_wp2_with fail
  refine (HN.out _).mono ?_
  rintro e x2 ⟨rfl, hx⟩
  replace hb := hb.trans (hx.mono (Nat.le_of_lt hlt))
  replace hJ := hJ.below hx
  replace hlt : w.heap.size < x2.heap.size := Bk.lt hJ
  clear hx c0 c7 cp sp
  obtain ⟨c0, c1, c2, c3, c4, c5, c6, c7⟩ := hJ.cells
  obtain ⟨g0, g1, g2, g3, g4, g5, g6, g7⟩ := hJ.grw
  simp only at c0 c1 c2 c3 c4 c5 c6 c7 g0 g1 g2 g3 g4 g5 g6 g7
  unfold bs
  have lWW : ([32, 110, 101] : List UInt8).length ≤ 40 := by decide
  obtain ⟨Z1, hz1, cc1, ss1, ll1⟩ := cat2 RD AL 40 40 lRD lAL
  have HZ1 := Lib.hid hz1
  clear hz1
  obtain ⟨Z2, hz2, cc2, ss2, ll2⟩ := cat2 Z1 RS 80 40 ll1 lRS
  have HZ2 := Lib.hid hz2
  clear hz2
  obtain ⟨Z3, hz3, cc3, ss3, ll3⟩ := cat2 Z2 [32, 110, 101] 120 40 ll2 lWW
  simp only [List.length_cons, List.length_nil, Nat.zero_add, Nat.reduceAdd] at ss3
  have HZ3 := Lib.hid hz3
  clear hz3
  obtain ⟨Z4, hz4, cc4, ss4, ll4⟩ := cat2 Z3 RT 160 40 ll3 lRT
  have HZ4 := Lib.hid hz4
  clear hz4
  obtain ⟨Z5, hz5, cc5, ss5, ll5⟩ := cat2 nm Z4 40 200 lnm ll4
  have HZ5 := Lib.hid hz5
  clear hz5
  clear lWW
  go_wp2
  refine wp_region_grow (by kernel_rfl) (by kernel_rfl) ?_
  repeat (go_big_quiet_step (first | (go_at_call 165; with_reducible exact grw_call (HRd.out _)) | (go_at_call 165; with_reducible exact grw_call (HRs.out _)) | (go_at_call 165; with_reducible exact grw_call (HRt.out _)) | (go_at_call 165; with_reducible exact grw_call (HRu.out _))))
  refine wpQuiet_nil ?_
  rintro y ⟨⟨_, hy⟩, rfl⟩
  replace hb := hb.trans (hy.mono (Nat.le_of_lt hlt))
  replace hJ := hJ.below hy
  clear c0 c1 c2 c3 c4 c5 c6 c7 g0 g1 g2 g3 g4 g5 g6 g7
  obtain ⟨-, -, -, -, -, -, -, c7⟩ := hJ.cells
  simp only at c7
  go_wp2
  go_ret
  refine ⟨ret_bs ?_, hb⟩
  rw [HZ5.out, HZ4.out, HZ3.out, HZ2.out, HZ1.out, HT.out, HNM.out, HRD.out, HAL.out, HDA.out, HRS.out, HRT.out]
  exact (txt_21_1m dn sn tn un an pn).symm

end Go.Proofs.YthdgehcghklflaaGreatDoor

/- The document's Text, of any right instruction. -/
namespace Go.Proofs.YthdgehcghklflaaGreatDoor
open Go.ChangeShapes Go.WideShapes Go.ChangeAt Go.RowKit
set_option linter.unusedVariables false

theorem rTextAll (i : Ins) (h : rightB i 1073741824 = true) (k0 : 0 ≤ i.k) (k1 : i.k < 4294967296) (w : World) :
    Calls Tryz.prog 144 #[iv i] w fun e w' => e = .returned (bs (textL i)) ∧ Below w.heap.size w w' := by
  obtain ⟨hd, hs, ht, hu, ha⟩ := right_regs i _ h
  obtain ⟨op, d, s, t, u, a, k, pl⟩ := i
  simp only at hd hs ht hu ha k0 k1
  rcases op_cases op with rfl | rfl | rfl | rfl | rfl | rfl | rfl | rfl | rfl | rfl | rfl | rfl | rfl | rfl | rfl | rfl | rfl | rfl | rfl | rfl | rfl | hn
  · skip
    have hr := right_1 d s t u a k pl 1073741824 hd hs ht hu ha k0 k1
    rw [h] at hr
    simp [eqI] at hr
    obtain ⟨dn, rfl⟩ : ∃ n : Nat, d = n := ⟨d.toNat, by omega⟩
    obtain ⟨sn, rfl⟩ : ∃ n : Nat, s = n := ⟨s.toNat, by omega⟩
    obtain ⟨tn, rfl⟩ : ∃ n : Nat, t = n := ⟨t.toNat, by omega⟩
    obtain ⟨un, rfl⟩ : ∃ n : Nat, u = n := ⟨u.toNat, by omega⟩
    obtain ⟨an, rfl⟩ : ∃ n : Nat, a = n := ⟨a.toNat, by omega⟩
    obtain ⟨kn, rfl⟩ : ∃ n : Nat, k = n := ⟨k.toNat, by omega⟩
    obtain ⟨pn, rfl⟩ : ∃ n : Nat, pl = n := ⟨pl.toNat, by omega⟩
    exact rTextA 1 dn sn tn un an kn pn (by decide) (by omega) (by omega) (by omega) (by omega) (by omega) (by omega) (by omega) w
  · skip
    have hr := right_2 d s t u a k pl 1073741824 hd hs ht hu ha k0 k1
    rw [h] at hr
    simp [eqI] at hr
    obtain ⟨dn, rfl⟩ : ∃ n : Nat, d = n := ⟨d.toNat, by omega⟩
    obtain ⟨sn, rfl⟩ : ∃ n : Nat, s = n := ⟨s.toNat, by omega⟩
    obtain ⟨tn, rfl⟩ : ∃ n : Nat, t = n := ⟨t.toNat, by omega⟩
    obtain ⟨un, rfl⟩ : ∃ n : Nat, u = n := ⟨u.toNat, by omega⟩
    obtain ⟨an, rfl⟩ : ∃ n : Nat, a = n := ⟨a.toNat, by omega⟩
    obtain ⟨kn, rfl⟩ : ∃ n : Nat, k = n := ⟨k.toNat, by omega⟩
    obtain ⟨pn, rfl⟩ : ∃ n : Nat, pl = n := ⟨pl.toNat, by omega⟩
    exact rTextA 2 dn sn tn un an kn pn (by decide) (by omega) (by omega) (by omega) (by omega) (by omega) (by omega) (by omega) w
  · skip
    have hr := right_3 d s t u a k pl 1073741824 hd hs ht hu ha k0 k1
    rw [h] at hr
    simp [eqI] at hr
    obtain ⟨dn, rfl⟩ : ∃ n : Nat, d = n := ⟨d.toNat, by omega⟩
    obtain ⟨sn, rfl⟩ : ∃ n : Nat, s = n := ⟨s.toNat, by omega⟩
    obtain ⟨tn, rfl⟩ : ∃ n : Nat, t = n := ⟨t.toNat, by omega⟩
    obtain ⟨un, rfl⟩ : ∃ n : Nat, u = n := ⟨u.toNat, by omega⟩
    obtain ⟨an, rfl⟩ : ∃ n : Nat, a = n := ⟨a.toNat, by omega⟩
    obtain ⟨kn, rfl⟩ : ∃ n : Nat, k = n := ⟨k.toNat, by omega⟩
    obtain ⟨pn, rfl⟩ : ∃ n : Nat, pl = n := ⟨pl.toNat, by omega⟩
    exact rTextA 3 dn sn tn un an kn pn (by decide) (by omega) (by omega) (by omega) (by omega) (by omega) (by omega) (by omega) w
  · skip
    have hr := right_4 d s t u a k pl 1073741824 hd hs ht hu ha k0 k1
    rw [h] at hr
    simp [eqI] at hr
    obtain ⟨dn, rfl⟩ : ∃ n : Nat, d = n := ⟨d.toNat, by omega⟩
    obtain ⟨sn, rfl⟩ : ∃ n : Nat, s = n := ⟨s.toNat, by omega⟩
    obtain ⟨tn, rfl⟩ : ∃ n : Nat, t = n := ⟨t.toNat, by omega⟩
    obtain ⟨un, rfl⟩ : ∃ n : Nat, u = n := ⟨u.toNat, by omega⟩
    obtain ⟨an, rfl⟩ : ∃ n : Nat, a = n := ⟨a.toNat, by omega⟩
    obtain ⟨kn, rfl⟩ : ∃ n : Nat, k = n := ⟨k.toNat, by omega⟩
    obtain ⟨pn, rfl⟩ : ∃ n : Nat, pl = n := ⟨pl.toNat, by omega⟩
    exact rTextA 4 dn sn tn un an kn pn (by decide) (by omega) (by omega) (by omega) (by omega) (by omega) (by omega) (by omega) w
  · skip
    have hr := right_5 d s t u a k pl 1073741824 hd hs ht hu ha k0 k1
    rw [h] at hr
    simp [eqI] at hr
    obtain ⟨dn, rfl⟩ : ∃ n : Nat, d = n := ⟨d.toNat, by omega⟩
    obtain ⟨sn, rfl⟩ : ∃ n : Nat, s = n := ⟨s.toNat, by omega⟩
    obtain ⟨tn, rfl⟩ : ∃ n : Nat, t = n := ⟨t.toNat, by omega⟩
    obtain ⟨un, rfl⟩ : ∃ n : Nat, u = n := ⟨u.toNat, by omega⟩
    obtain ⟨an, rfl⟩ : ∃ n : Nat, a = n := ⟨a.toNat, by omega⟩
    obtain ⟨kn, rfl⟩ : ∃ n : Nat, k = n := ⟨k.toNat, by omega⟩
    obtain ⟨pn, rfl⟩ : ∃ n : Nat, pl = n := ⟨pl.toNat, by omega⟩
    exact rTextA 5 dn sn tn un an kn pn (by decide) (by omega) (by omega) (by omega) (by omega) (by omega) (by omega) (by omega) w
  · skip
    have hr := right_6 d s t u a k pl 1073741824 hd hs ht hu ha k0 k1
    rw [h] at hr
    simp [eqI] at hr
    obtain ⟨dn, rfl⟩ : ∃ n : Nat, d = n := ⟨d.toNat, by omega⟩
    obtain ⟨sn, rfl⟩ : ∃ n : Nat, s = n := ⟨s.toNat, by omega⟩
    obtain ⟨tn, rfl⟩ : ∃ n : Nat, t = n := ⟨t.toNat, by omega⟩
    obtain ⟨un, rfl⟩ : ∃ n : Nat, u = n := ⟨u.toNat, by omega⟩
    obtain ⟨an, rfl⟩ : ∃ n : Nat, a = n := ⟨a.toNat, by omega⟩
    obtain ⟨kn, rfl⟩ : ∃ n : Nat, k = n := ⟨k.toNat, by omega⟩
    obtain ⟨pn, rfl⟩ : ∃ n : Nat, pl = n := ⟨pl.toNat, by omega⟩
    exact rTextA 6 dn sn tn un an kn pn (by decide) (by omega) (by omega) (by omega) (by omega) (by omega) (by omega) (by omega) w
  · skip
    have hr := right_7 d s t u a k pl 1073741824 hd hs ht hu ha k0 k1
    rw [h] at hr
    simp [eqI] at hr
    obtain ⟨dn, rfl⟩ : ∃ n : Nat, d = n := ⟨d.toNat, by omega⟩
    obtain ⟨sn, rfl⟩ : ∃ n : Nat, s = n := ⟨s.toNat, by omega⟩
    obtain ⟨tn, rfl⟩ : ∃ n : Nat, t = n := ⟨t.toNat, by omega⟩
    obtain ⟨un, rfl⟩ : ∃ n : Nat, u = n := ⟨u.toNat, by omega⟩
    obtain ⟨an, rfl⟩ : ∃ n : Nat, a = n := ⟨a.toNat, by omega⟩
    obtain ⟨kn, rfl⟩ : ∃ n : Nat, k = n := ⟨k.toNat, by omega⟩
    obtain ⟨pn, rfl⟩ : ∃ n : Nat, pl = n := ⟨pl.toNat, by omega⟩
    exact rTextA 7 dn sn tn un an kn pn (by decide) (by omega) (by omega) (by omega) (by omega) (by omega) (by omega) (by omega) w
  · skip
    have hr := right_8 d s t u a k pl 1073741824 hd hs ht hu ha k0 k1
    rw [h] at hr
    simp [eqI] at hr
    obtain ⟨dn, rfl⟩ : ∃ n : Nat, d = n := ⟨d.toNat, by omega⟩
    obtain ⟨sn, rfl⟩ : ∃ n : Nat, s = n := ⟨s.toNat, by omega⟩
    obtain ⟨tn, rfl⟩ : ∃ n : Nat, t = n := ⟨t.toNat, by omega⟩
    obtain ⟨un, rfl⟩ : ∃ n : Nat, u = n := ⟨u.toNat, by omega⟩
    obtain ⟨an, rfl⟩ : ∃ n : Nat, a = n := ⟨a.toNat, by omega⟩
    obtain ⟨kn, rfl⟩ : ∃ n : Nat, k = n := ⟨k.toNat, by omega⟩
    obtain ⟨pn, rfl⟩ : ∃ n : Nat, pl = n := ⟨pl.toNat, by omega⟩
    exact rTextA 8 dn sn tn un an kn pn (by decide) (by omega) (by omega) (by omega) (by omega) (by omega) (by omega) (by omega) w
  · skip
    have hr := right_9 d s t u a k pl 1073741824 hd hs ht hu ha k0 k1
    rw [h] at hr
    simp [eqI] at hr
    obtain ⟨dn, rfl⟩ : ∃ n : Nat, d = n := ⟨d.toNat, by omega⟩
    obtain ⟨sn, rfl⟩ : ∃ n : Nat, s = n := ⟨s.toNat, by omega⟩
    obtain ⟨tn, rfl⟩ : ∃ n : Nat, t = n := ⟨t.toNat, by omega⟩
    obtain ⟨un, rfl⟩ : ∃ n : Nat, u = n := ⟨u.toNat, by omega⟩
    obtain ⟨an, rfl⟩ : ∃ n : Nat, a = n := ⟨a.toNat, by omega⟩
    obtain ⟨kn, rfl⟩ : ∃ n : Nat, k = n := ⟨k.toNat, by omega⟩
    obtain ⟨pn, rfl⟩ : ∃ n : Nat, pl = n := ⟨pl.toNat, by omega⟩
    exact rTextA 9 dn sn tn un an kn pn (by decide) (by omega) (by omega) (by omega) (by omega) (by omega) (by omega) (by omega) w
  · skip
    have hr := right_10 d s t u a k pl 1073741824 hd hs ht hu ha k0 k1
    rw [h] at hr
    simp [eqI] at hr
    obtain ⟨dn, rfl⟩ : ∃ n : Nat, d = n := ⟨d.toNat, by omega⟩
    obtain ⟨sn, rfl⟩ : ∃ n : Nat, s = n := ⟨s.toNat, by omega⟩
    obtain ⟨tn, rfl⟩ : ∃ n : Nat, t = n := ⟨t.toNat, by omega⟩
    obtain ⟨un, rfl⟩ : ∃ n : Nat, u = n := ⟨u.toNat, by omega⟩
    obtain ⟨an, rfl⟩ : ∃ n : Nat, a = n := ⟨a.toNat, by omega⟩
    obtain ⟨kn, rfl⟩ : ∃ n : Nat, k = n := ⟨k.toNat, by omega⟩
    obtain ⟨pn, rfl⟩ : ∃ n : Nat, pl = n := ⟨pl.toNat, by omega⟩
    exact rTextA 10 dn sn tn un an kn pn (by decide) (by omega) (by omega) (by omega) (by omega) (by omega) (by omega) (by omega) w
  · skip
    have hr := right_11 d s t u a k pl 1073741824 hd hs ht hu ha k0 k1
    rw [h] at hr
    simp [eqI] at hr
    obtain ⟨dn, rfl⟩ : ∃ n : Nat, d = n := ⟨d.toNat, by omega⟩
    obtain ⟨sn, rfl⟩ : ∃ n : Nat, s = n := ⟨s.toNat, by omega⟩
    obtain ⟨tn, rfl⟩ : ∃ n : Nat, t = n := ⟨t.toNat, by omega⟩
    obtain ⟨un, rfl⟩ : ∃ n : Nat, u = n := ⟨u.toNat, by omega⟩
    obtain ⟨an, rfl⟩ : ∃ n : Nat, a = n := ⟨a.toNat, by omega⟩
    obtain ⟨kn, rfl⟩ : ∃ n : Nat, k = n := ⟨k.toNat, by omega⟩
    obtain ⟨pn, rfl⟩ : ∃ n : Nat, pl = n := ⟨pl.toNat, by omega⟩
    exact rTextB 11 dn sn tn un an kn pn (by decide) (by omega) (by omega) (by omega) (by omega) (by omega) (by omega) (by omega) w
  · skip
    have hr := right_12 d s t u a k pl 1073741824 hd hs ht hu ha k0 k1
    rw [h] at hr
    simp [eqI] at hr
    obtain ⟨dn, rfl⟩ : ∃ n : Nat, d = n := ⟨d.toNat, by omega⟩
    obtain ⟨sn, rfl⟩ : ∃ n : Nat, s = n := ⟨s.toNat, by omega⟩
    obtain ⟨tn, rfl⟩ : ∃ n : Nat, t = n := ⟨t.toNat, by omega⟩
    obtain ⟨un, rfl⟩ : ∃ n : Nat, u = n := ⟨u.toNat, by omega⟩
    obtain ⟨an, rfl⟩ : ∃ n : Nat, a = n := ⟨a.toNat, by omega⟩
    obtain ⟨kn, rfl⟩ : ∃ n : Nat, k = n := ⟨k.toNat, by omega⟩
    obtain ⟨pn, rfl⟩ : ∃ n : Nat, pl = n := ⟨pl.toNat, by omega⟩
    exact rTextB 12 dn sn tn un an kn pn (by decide) (by omega) (by omega) (by omega) (by omega) (by omega) (by omega) (by omega) w
  · skip
    have hr := right_13 d s t u a k pl 1073741824 hd hs ht hu ha k0 k1
    rw [h] at hr
    simp [eqI] at hr
    obtain ⟨dn, rfl⟩ : ∃ n : Nat, d = n := ⟨d.toNat, by omega⟩
    obtain ⟨sn, rfl⟩ : ∃ n : Nat, s = n := ⟨s.toNat, by omega⟩
    obtain ⟨tn, rfl⟩ : ∃ n : Nat, t = n := ⟨t.toNat, by omega⟩
    obtain ⟨un, rfl⟩ : ∃ n : Nat, u = n := ⟨u.toNat, by omega⟩
    obtain ⟨an, rfl⟩ : ∃ n : Nat, a = n := ⟨a.toNat, by omega⟩
    obtain ⟨kn, rfl⟩ : ∃ n : Nat, k = n := ⟨k.toNat, by omega⟩
    obtain ⟨pn, rfl⟩ : ∃ n : Nat, pl = n := ⟨pl.toNat, by omega⟩
    exact rTextB 13 dn sn tn un an kn pn (by decide) (by omega) (by omega) (by omega) (by omega) (by omega) (by omega) (by omega) w
  · skip
    have hr := right_16 d s t u a k pl 1073741824 hd hs ht hu ha k0 k1
    rw [h] at hr
    simp [eqI] at hr
    obtain ⟨dn, rfl⟩ : ∃ n : Nat, d = n := ⟨d.toNat, by omega⟩
    obtain ⟨sn, rfl⟩ : ∃ n : Nat, s = n := ⟨s.toNat, by omega⟩
    obtain ⟨tn, rfl⟩ : ∃ n : Nat, t = n := ⟨t.toNat, by omega⟩
    obtain ⟨un, rfl⟩ : ∃ n : Nat, u = n := ⟨u.toNat, by omega⟩
    obtain ⟨an, rfl⟩ : ∃ n : Nat, a = n := ⟨a.toNat, by omega⟩
    obtain ⟨kn, rfl⟩ : ∃ n : Nat, k = n := ⟨k.toNat, by omega⟩
    obtain ⟨pn, rfl⟩ : ∃ n : Nat, pl = n := ⟨pl.toNat, by omega⟩
    exact rTextB 16 dn sn tn un an kn pn (by decide) (by omega) (by omega) (by omega) (by omega) (by omega) (by omega) (by omega) w
  · skip
    have hr := right_17 d s t u a k pl 1073741824 hd hs ht hu ha k0 k1
    rw [h] at hr
    simp [eqI] at hr
    obtain ⟨dn, rfl⟩ : ∃ n : Nat, d = n := ⟨d.toNat, by omega⟩
    obtain ⟨sn, rfl⟩ : ∃ n : Nat, s = n := ⟨s.toNat, by omega⟩
    obtain ⟨tn, rfl⟩ : ∃ n : Nat, t = n := ⟨t.toNat, by omega⟩
    obtain ⟨un, rfl⟩ : ∃ n : Nat, u = n := ⟨u.toNat, by omega⟩
    obtain ⟨an, rfl⟩ : ∃ n : Nat, a = n := ⟨a.toNat, by omega⟩
    obtain ⟨kn, rfl⟩ : ∃ n : Nat, k = n := ⟨k.toNat, by omega⟩
    obtain ⟨pn, rfl⟩ : ∃ n : Nat, pl = n := ⟨pl.toNat, by omega⟩
    exact rTextB 17 dn sn tn un an kn pn (by decide) (by omega) (by omega) (by omega) (by omega) (by omega) (by omega) (by omega) w
  · skip
    have hr := right_18 d s t u a k pl 1073741824 hd hs ht hu ha k0 k1
    rw [h] at hr
    simp [eqI] at hr
    obtain ⟨dn, rfl⟩ : ∃ n : Nat, d = n := ⟨d.toNat, by omega⟩
    obtain ⟨sn, rfl⟩ : ∃ n : Nat, s = n := ⟨s.toNat, by omega⟩
    obtain ⟨tn, rfl⟩ : ∃ n : Nat, t = n := ⟨t.toNat, by omega⟩
    obtain ⟨un, rfl⟩ : ∃ n : Nat, u = n := ⟨u.toNat, by omega⟩
    obtain ⟨an, rfl⟩ : ∃ n : Nat, a = n := ⟨a.toNat, by omega⟩
    obtain ⟨kn, rfl⟩ : ∃ n : Nat, k = n := ⟨k.toNat, by omega⟩
    obtain ⟨pn, rfl⟩ : ∃ n : Nat, pl = n := ⟨pl.toNat, by omega⟩
    exact rTextB 18 dn sn tn un an kn pn (by decide) (by omega) (by omega) (by omega) (by omega) (by omega) (by omega) (by omega) w
  · skip
    have hr := right_19 d s t u a k pl 1073741824 hd hs ht hu ha k0 k1
    rw [h] at hr
    simp [eqI] at hr
    obtain ⟨dn, rfl⟩ : ∃ n : Nat, d = n := ⟨d.toNat, by omega⟩
    obtain ⟨sn, rfl⟩ : ∃ n : Nat, s = n := ⟨s.toNat, by omega⟩
    obtain ⟨tn, rfl⟩ : ∃ n : Nat, t = n := ⟨t.toNat, by omega⟩
    obtain ⟨un, rfl⟩ : ∃ n : Nat, u = n := ⟨u.toNat, by omega⟩
    obtain ⟨an, rfl⟩ : ∃ n : Nat, a = n := ⟨a.toNat, by omega⟩
    obtain ⟨kn, rfl⟩ : ∃ n : Nat, k = n := ⟨k.toNat, by omega⟩
    obtain ⟨pn, rfl⟩ : ∃ n : Nat, pl = n := ⟨pl.toNat, by omega⟩
    exact rTextB 19 dn sn tn un an kn pn (by decide) (by omega) (by omega) (by omega) (by omega) (by omega) (by omega) (by omega) w
  · skip
    have hr := right_20 d s t u a k pl 1073741824 hd hs ht hu ha k0 k1
    rw [h] at hr
    simp [eqI] at hr
    obtain ⟨dn, rfl⟩ : ∃ n : Nat, d = n := ⟨d.toNat, by omega⟩
    obtain ⟨sn, rfl⟩ : ∃ n : Nat, s = n := ⟨s.toNat, by omega⟩
    obtain ⟨tn, rfl⟩ : ∃ n : Nat, t = n := ⟨t.toNat, by omega⟩
    obtain ⟨un, rfl⟩ : ∃ n : Nat, u = n := ⟨u.toNat, by omega⟩
    obtain ⟨an, rfl⟩ : ∃ n : Nat, a = n := ⟨a.toNat, by omega⟩
    obtain ⟨kn, rfl⟩ : ∃ n : Nat, k = n := ⟨k.toNat, by omega⟩
    obtain ⟨pn, rfl⟩ : ∃ n : Nat, pl = n := ⟨pl.toNat, by omega⟩
    exact rTextB 20 dn sn tn un an kn pn (by decide) (by omega) (by omega) (by omega) (by omega) (by omega) (by omega) (by omega) w
  · skip
    have hr := right_21 d s t u a k pl 1073741824 hd hs ht hu ha k0 k1
    rw [h] at hr
    simp [eqI] at hr
    obtain ⟨dn, rfl⟩ : ∃ n : Nat, d = n := ⟨d.toNat, by omega⟩
    obtain ⟨sn, rfl⟩ : ∃ n : Nat, s = n := ⟨s.toNat, by omega⟩
    obtain ⟨tn, rfl⟩ : ∃ n : Nat, t = n := ⟨t.toNat, by omega⟩
    obtain ⟨un, rfl⟩ : ∃ n : Nat, u = n := ⟨u.toNat, by omega⟩
    obtain ⟨an, rfl⟩ : ∃ n : Nat, a = n := ⟨a.toNat, by omega⟩
    obtain ⟨kn, rfl⟩ : ∃ n : Nat, k = n := ⟨k.toNat, by omega⟩
    by_cases hm : pl = -1
    · subst hm
      by_cases hk : kn = 0
      · subst hk; exact rText21_0m dn sn tn un an 0 (by omega) (by omega) (by omega) (by omega) (by omega) (by omega) w
      · obtain rfl : kn = 1 := by omega
        exact rText21_1m dn sn tn un an 0 (by omega) (by omega) (by omega) (by omega) (by omega) (by omega) w
    · obtain ⟨pn, rfl⟩ : ∃ n : Nat, pl = n := ⟨pl.toNat, by omega⟩
      by_cases hk : kn = 0
      · subst hk; exact rText21_0p dn sn tn un an pn (by omega) (by omega) (by omega) (by omega) (by omega) (by omega) w
      · obtain rfl : kn = 1 := by omega
        exact rText21_1p dn sn tn un an pn (by omega) (by omega) (by omega) (by omega) (by omega) (by omega) w
  · skip
    have hr := right_22 d s t u a k pl 1073741824 hd hs ht hu ha k0 k1
    rw [h] at hr
    simp [eqI] at hr
    obtain ⟨dn, rfl⟩ : ∃ n : Nat, d = n := ⟨d.toNat, by omega⟩
    obtain ⟨sn, rfl⟩ : ∃ n : Nat, s = n := ⟨s.toNat, by omega⟩
    obtain ⟨tn, rfl⟩ : ∃ n : Nat, t = n := ⟨t.toNat, by omega⟩
    obtain ⟨un, rfl⟩ : ∃ n : Nat, u = n := ⟨u.toNat, by omega⟩
    obtain ⟨an, rfl⟩ : ∃ n : Nat, a = n := ⟨a.toNat, by omega⟩
    obtain ⟨kn, rfl⟩ : ∃ n : Nat, k = n := ⟨k.toNat, by omega⟩
    obtain ⟨pn, rfl⟩ : ∃ n : Nat, pl = n := ⟨pl.toNat, by omega⟩
    exact rTextB 22 dn sn tn un an kn pn (by decide) (by omega) (by omega) (by omega) (by omega) (by omega) (by omega) (by omega) w
  · skip
    have hr := right_23 d s t u a k pl 1073741824 hd hs ht hu ha k0 k1
    rw [h] at hr
    simp [eqI] at hr
    obtain ⟨dn, rfl⟩ : ∃ n : Nat, d = n := ⟨d.toNat, by omega⟩
    obtain ⟨sn, rfl⟩ : ∃ n : Nat, s = n := ⟨s.toNat, by omega⟩
    obtain ⟨tn, rfl⟩ : ∃ n : Nat, t = n := ⟨t.toNat, by omega⟩
    obtain ⟨un, rfl⟩ : ∃ n : Nat, u = n := ⟨u.toNat, by omega⟩
    obtain ⟨an, rfl⟩ : ∃ n : Nat, a = n := ⟨a.toNat, by omega⟩
    obtain ⟨kn, rfl⟩ : ∃ n : Nat, k = n := ⟨k.toNat, by omega⟩
    obtain ⟨pn, rfl⟩ : ∃ n : Nat, pl = n := ⟨pl.toNat, by omega⟩
    exact rTextB 23 dn sn tn un an kn pn (by decide) (by omega) (by omega) (by omega) (by omega) (by omega) (by omega) (by omega) w
  · exfalso
    unfold rightB at h
    simp only [(hs_none hn).1] at h
    cases h
end Go.Proofs.YthdgehcghklflaaGreatDoor

/- slices.Equal of instructions, asm.Same, the document's Same. -/
namespace Go.Proofs.YthdgehcghklflaaGreatDoor
open Go.ChangeShapes Go.WideShapes Go.ChangeAt Go.RowKit
set_option linter.unusedVariables false

theorem run_neJ (i j : Ins) (w : World) : (binOp .neq 125 (iv i) (iv j)).run Tryz.prog w = .ok (.bool (!eqI i j)) w := by
  unfold iv
  have hu := Tryz.underlying125
  go_simp
  unfold eqI
  repeat' split
  all_goals simp [*]

/-- Two boxes, for a program each. -/
theorem two_boxes (w : World) (t : TypeId) (xs ys : Array Value) : Below w.heap.size w ((w.alloc (.cells xs t)).alloc (.cells ys t)) ∧ Bk ((w.alloc (.cells xs t)).alloc (.cells ys t)) w.heap.size t xs ∧ Bk ((w.alloc (.cells xs t)).alloc (.cells ys t)) (w.heap.size + 1) t ys := by
  have h := Bk.made (w.alloc (.cells xs t)) t ys
  rw [World.size_alloc] at h
  exact ⟨((Below.refl _ _).alloc (Nat.le_refl _) _).alloc (by simp) _, (Bk.made w t xs).alloc _, h⟩

set_option maxHeartbeats 1000000 in
theorem rSame (c d : Prg) (v u : Value) (w : World) (hv : Pv w v c) (hu : Pv w u d) (hl : c.l.length ≤ 100000) :
    Calls Tryz.prog 29 #[v, u] w fun e w' => e = .returned (.bool (sameP c d)) ∧ Below w.heap.size w w' := by
  obtain ⟨a, ca, rfl, _, _, _, ha⟩ := hv
  obtain ⟨b, cb, rfl, _, _, _, hb⟩ := hu
  have HE : Hid (sameP c d = (decide (c.lo = d.lo) && (decide (c.un = d.un) && sameL c.l d.l))) := Lib.hid rfl
  obtain ⟨bb, k1, k2⟩ := two_boxes w 35 #[.slice a c.l.length ca, .int .i64 c.lo, .int .i64 c.un] #[.slice b d.l.length cb, .int .i64 d.lo, .int .i64 d.un]
  replace ha := ha.below bb
  replace hb := hb.below bb
  generalize sameP c d = r at *
  obtain ⟨l, lo, un⟩ := c
  obtain ⟨m, lo2, un2⟩ := d
  simp only at HE bb k1 k2 ha hb hl ⊢
  go_enter Tryz.func29, Tryz.ntmps29
  go_upto_region 1 with fail
  generalize (w.alloc (.cells #[.slice a l.length ca, .int .i64 lo, .int .i64 un] 35)).alloc (.cells #[.slice b m.length cb, .int .i64 lo2, .int .i64 un2] 35) = x at *
  obtain ⟨x0, x1, x2⟩ : x.cell? ⟨w.heap.size, 0, none⟩ = some (.slice a l.length ca) ∧ x.cell? ⟨w.heap.size, 1, none⟩ = some (.int .i64 lo) ∧ x.cell? ⟨w.heap.size, 2, none⟩ = some (.int .i64 un) := ⟨k1.cell 0, k1.cell 1, k1.cell 2⟩
  obtain ⟨y0, y1, y2⟩ : x.cell? ⟨w.heap.size + 1, 0, none⟩ = some (.slice b m.length cb) ∧ x.cell? ⟨w.heap.size + 1, 1, none⟩ = some (.int .i64 lo2) ∧ x.cell? ⟨w.heap.size + 1, 2, none⟩ = some (.int .i64 un2) := ⟨k2.cell 0, k2.cell 1, k2.cell 2⟩
  by_cases hlm : l.length = m.length
  case neg =>
    have hne : ((l.length : Int) != m.length) = true := by simp; omega
    have HS := Lib.hid (sameL_len hlm)
    clear hlm
    go_wp2
    go_ret
    exact ⟨by rw [HE.out, HS.out]; simp, bb⟩
  case pos =>
    have hne : ((l.length : Int) != m.length) = false := by simp; omega
    by_cases h1 : lo = lo2
    case neg =>
      have e1 : (lo != lo2) = true := by simpa using h1
      have H1 := Lib.hid h1
      clear h1
      go_wp2
      go_ret
      exact ⟨by rw [HE.out]; simp [H1.out], bb⟩
    case pos =>
      by_cases h2 : un = un2
      case neg =>
        have e1 : (lo != lo2) = false := by simpa using h1
        have e2 : (un != un2) = true := by simpa using h2
        have H2 := Lib.hid h2
        clear h2 h1
        go_wp2
        go_ret
        exact ⟨by rw [HE.out]; simp [H2.out], bb⟩
      case pos =>
        have HS : Hid (r = sameL (l.drop 0) (m.drop 0)) := Lib.hid (by rw [HE.out]; simp [h1, h2])
        have e1 : (lo != lo2) = false := by simpa using h1
        have e2 : (un != un2) = false := by simpa using h2
        clear HE h1 h2
        go_wp2
        go_loopw [4, 30] (fun q i wr => ∃ k : Nat, q = .bool false ∧ k ≤ l.length ∧ i = .int .i64 k ∧ Below x.heap.size x wr ∧ Hid (r = sameL (l.drop k) (m.drop k))) (fun _ i _ => l.length - (intOf i).toNat)
        case atStart => exact ⟨0, rfl, Nat.zero_le _, rfl, Below.refl _ _, HS⟩
        case round =>
          obtain ⟨k, rfl, hk, rfl, hbw, HR⟩ := hrel
          have z0 : wr.cell? ⟨w.heap.size, 0, none⟩ = some (.slice a l.length ca) := (hbw.cell (p := ⟨w.heap.size, 0, none⟩) k1.lt).trans x0
          have z1 : wr.cell? ⟨w.heap.size + 1, 0, none⟩ = some (.slice b m.length cb) := (hbw.cell (p := ⟨w.heap.size + 1, 0, none⟩) k2.lt).trans y0
          by_cases hlt : k < l.length
          · have hki : (k : Int) < l.length := by omega
            have hkj : (k : Int) < m.length := by omega
            have HD := Lib.hid (sameL_drop l m k hlt (by omega))
            obtain ⟨ba, oa, rfl, _, a0, a1, a2, a3, a4, a5, a6, a7⟩ := (ha.below hbw).at_ (List.getElem?_eq_getElem hlt)
            obtain ⟨bb2, ob, rfl, _, b0, b1, b2, b3, b4, b5, b6, b7⟩ := (hb.below hbw).at_ (List.getElem?_eq_getElem (show k < m.length by omega))
            have hq := run_neJ l[k] m[k]
            generalize l[k] = i at *
            generalize m[k] = j at *
            have HE : Hid (r = (eqI i j && sameL (l.drop (k + 1)) (m.drop (k + 1)))) := Lib.hid (by rw [HR.out, HD.out])
            clear HR HD ha hb x0 x1 x2 y0 y1 y2
            obtain ⟨i0, i1, i2, i3, i4, i5, i6, i7⟩ := i
            obtain ⟨j0, j1, j2, j3, j4, j5, j6, j7⟩ := j
            simp only at a0 a1 a2 a3 a4 a5 a6 a7 b0 b1 b2 b3 b4 b5 b6 b7
            unfold iv at hq
            simp only at hq
            generalize eqI ⟨i0, i1, i2, i3, i4, i5, i6, i7⟩ ⟨j0, j1, j2, j3, j4, j5, j6, j7⟩ = t at *
            have hend := bb.trans (hbw.mono bb.size)
            cases t with
            | true =>
              have HE2 : Hid (r = sameL (l.drop (k + 1)) (m.drop (k + 1))) := Lib.hid (by rw [HE.out]; simp)
              clear HE
              go_wp2
              go_quiet (fail)
              go_wp2
              go_roundw
              case rel => exact ⟨k + 1, rfl, by omega, by go_num, below_drewN hbw _, HE2⟩
              case measure =>
                show l.length - ((k : Int) + 1).toNat < l.length - (k : Int).toNat
                omega
            | false =>
              have HE2 : Hid (r = false) := Lib.hid (by rw [HE.out]; simp)
              clear HE
              go_wp2
              go_quiet (fail)
              go_wp2
              go_ret
              exact ⟨by rw [HE2.out]; rfl, below_drewN hend _⟩
          · have hki : ¬ (k : Int) < l.length := by omega
            have HE2 : Hid (r = true) := Lib.hid (by rw [HR.out, List.drop_of_length_le (by omega), List.drop_of_length_le (by omega)]; rfl)
            go_wp2
            go_ret
            exact ⟨by rw [HE2.out]; rfl, bb.trans (hbw.mono bb.size)⟩
end Go.Proofs.YthdgehcghklflaaGreatDoor

/- The frame of a law of layer 7: what the listed variables hold, and the world's shape, handed to the walk. -/
namespace Go.Proofs.YthdgehcghklflaaGreatDoor
open Go.Joins Go.ChangeShapes Go.WideShapes Go.ChangeAt Go.RowKit Go.Deep
set_option linter.unusedVariables false

theorem ownA : ownKnob Tryz.prog.godebug = none := by kernel_rfl
theorem laidOutA : laidOutB Tryz.prog = true := by kernel_rfl

theorem star : "*errors.errorString" = "*" ++ "errors.errorString" := by decide
theorem errRow (u : TypeId) (h : Tryz.prog.typeName? 3 u = some "*errors.errorString") : u = 311 :=
  typeName_ptr_named (nm := "errors.errorString") (by rw [← star]; kernel_rfl) (by kernel_rfl) (by decide) u (by rw [← star]; exact h)

/-- What the listed variables hold, and the shape of the world, are what the library's calls read. -/
theorem lb_of {W : World} (hL : laidMet Tryz.prog [("math/bits.deBruijn32tab", Rows.laid_math_bits_deBruijn32tab), ("math/bits.deBruijn64tab", Rows.laid_math_bits_deBruijn64tab), ("internal/strconv.uint64pow10", Rows.laid_internal_strconv_uint64pow10), ("unicode/utf8.acceptRanges", Rows.laid_unicode_utf8_acceptRanges), ("strconv.ErrRange", Rows.laid_strconv_ErrRange), ("strconv.ErrSyntax", Rows.laid_strconv_ErrSyntax), ("unicode/utf8.first", Rows.laid_unicode_utf8_first)] W) (hsh : W.ShapedOpen Tryz.prog) : Lb W := by
  have h2 := hL.tail.tail
  have h4 := h2.tail.tail
  have tab : Lib.TabIs Tryz.prog W "internal/strconv.uint64pow10" .u64 Lib.pow10Tab :=
    Lib.tabIs_of_head (g := 5) (by kernel_rfl) (by kernel_rfl) Tryz.underlying315 Tryz.underlying291 (by kernel_rfl) (by kernel_rfl) h2
  obtain ⟨a1, _, hv1, _⟩ := laid_sentinel h4 (g := 2) (by kernel_rfl) (by kernel_rfl) Tryz.underlying274 (errRow) Tryz.underlying311 Tryz.underlying313 rfl rfl Tryz.underlying9 (by kernel_rfl) (by kernel_rfl)
  obtain ⟨a2, _, hv2, _⟩ := laid_sentinel h4.tail (g := 1) (by kernel_rfl) (by kernel_rfl) Tryz.underlying274 (errRow) Tryz.underlying311 Tryz.underlying313 rfl rfl Tryz.underlying9 (by kernel_rfl) (by kernel_rfl)
  obtain ⟨m, hm⟩ := Tryz.laysM147.s1_3 W hsh
  have c0 : W.cell? ⟨0, 0, none⟩ = some (.int .i64 m) := hm
  have c1 := tab.cell (g := 5) (by kernel_rfl) 0 (by decide)
  have c2 := World.var?_cell (g := 1) (by kernel_rfl) hv2 0
  have c3 := World.var?_cell (g := 2) (by kernel_rfl) hv1 0
  exact ⟨tab, ⟨_, _, hv2⟩, ⟨_, _, hv1⟩, ⟨m, c0⟩, World.block_lt_of_cell? W _ c0, World.block_lt_of_cell? W _ c1, World.block_lt_of_cell? W _ c2, World.block_lt_of_cell? W _ c3⟩

/-- A law's walk, handed what the row lists, and the world's shape beside it. -/
theorem returns_laid {H : Type} {enc : TypeId × Value → H} {a : Assume} {C : Checked} {os : Os} {f : FuncId} {fn : Func} {s : ChangeSpec} {conds : List PathCond} {apart fresh handsOn again : Bool} {X : World → Array Value → Prop}
    (hX : ∀ (w w' : World) (args : Array Value), w.heap = w'.heap → X w args → X w' args)
    (own : ownKnob C.prog.godebug = none) (started : os.Started) (noInit : C.prog.inits.idxOf? f = none) (hfn : C.prog.funcs[f]? = some fn)
    (witness : ∃ (w : World) (tape : Tape) (i : Input), w.os = os ∧ (w.forCall tape i).Shaped C.prog ∧ i.vars = [] ∧ Input.okWide C.prog (w.forCall tape i) .any w.heap.size f i ∧
      ((s.pre enc C.prog fn conds apart (w.forCall tape i).memory i.args ∧ X (w.forCall tape i).memory i.args) ∧ sizedMet enc C.prog fn (OpenSpec.ofChange s) apart (w.forCall tape i).memory i.args) ∧ a.holds C.prog (lone (Frame.enter C.prog f i.args .normal) [] (w.forCall tape i)))
    (walk : ∀ (W : World) (base : Nat) (args : Array Value) (ds gs : List (DataW H)) (before : List MemPlace),
      (∀ (j : Nat) t v, fn.params[j]? = some t → args[j]? = some v → Value.okWide C.prog W .any base t v) →
      DataW.Whole enc C.prog fn.params.toList s.vars apart W args.toList ds gs before → X W args → W.ShapedOpen C.prog →
      Calls C.prog f args W fun e W' => ∃ v, e = .returned v ∧ s.post enc C.prog fn apart fresh handsOn again W args v W') :
    ReturnsInHanded a C os f .any (fun w args => (s.pre enc C.prog fn conds apart w args ∧ X w args) ∧ sizedMet enc C.prog fn (OpenSpec.ofChange s) apart w args) (s.post enc C.prog fn apart fresh handsOn again) := by
  refine returnsInHanded_of_calls own started noInit witness fun w tape i _ hsh _ hok hpre _ => ?_
  obtain ⟨_, _, _, fn', hfn', _, _, _, _, hval⟩ := hok
  obtain rfl : fn' = fn := Option.some.inj (hfn'.symm.trans hfn)
  obtain ⟨⟨⟨ds, gs, before, hw, _⟩, hx⟩, _⟩ := hpre
  refine (walk (w.forCall tape i) w.heap.size i.args ds gs before hval (DataW.Whole.of_heap (by rfl) hw) (hX _ _ _ (by rfl) hx) hsh).mono fun e W' ⟨v, he, hp⟩ => ?_
  subst he
  exact ChangeSpec.post_blind hp
end Go.Proofs.YthdgehcghklflaaGreatDoor

/- A spec, as the program has it and as the document does; the law's Ref of it. -/
namespace Go.Proofs.YthdgehcghklflaaGreatDoor
set_option maxRecDepth 100000
open Go.ChangeShapes Go.WideShapes Go.ChangeAt Go.RowKit
set_option linter.unusedVariables false

/-- The value v is a spec. -/
def Sv (w : World) (v : Value) (c : Prg) (zs init r7 : List Int) (each : Int) : Prop :=
  ∃ aL cL aS cS aI cI aR cR, v = .agg #[.slice aL c.l.length cL, .int .i64 c.lo, .int .i64 c.un, .slice aS zs.length cS, .slice aI init.length cI, .int .i64 each, .slice aR r7.length cR] ∧
    Pv w (.agg #[.slice aL c.l.length cL, .int .i64 c.lo, .int .i64 c.un]) c ∧ Given .i64 w aS zs ∧ Given .u32 w aI init ∧ Given .u32 w aR r7 ∧ zs.length ≤ maxLen ∧ init.length ≤ maxLen ∧ r7.length ≤ maxLen
theorem Given.below {k : IntKind} {w w' : World} {a : Option Addr} {xs : List Int} (h : Given k w a xs) (hb : Below w.heap.size w w') : Given k w' a xs := by
  intro h0
  obtain ⟨b, off, e, hlt, hc⟩ := h h0
  exact ⟨b, off, e, Nat.lt_of_lt_of_le hlt hb.size, fun i hi => (hb.cell (p := ⟨b, off + i, none⟩) hlt).trans (hc i hi)⟩
theorem Sv.below {w w' : World} {v : Value} {c : Prg} {zs init r7 : List Int} {each : Int} (h : Sv w v c zs init r7 each) (hb : Below w.heap.size w w') : Sv w' v c zs init r7 each := by
  obtain ⟨aL, cL, aS, cS, aI, cI, aR, cR, e, h1, h2, h3, h4, h5⟩ := h
  exact ⟨aL, cL, aS, cS, aI, cI, aR, cR, e, h1.below hb, h2.below hb, h3.below hb, h4.below hb, h5⟩

theorem own_below {W W' : World} {base n sz : Nat} {t : TypeId} {v : Value} {xs : List Value} (h : W.ownsRow base t sz v n xs) (hb : Below W.heap.size W W') : W'.ownsRow base t sz v n xs := own_within h (within_of_below hb) (by simp)

/-- A row isn't where a block of another type has changed. -/
theorem own_safe {W W' : World} {base n sz b : Nat} {t u : TypeId} {v : Value} {xs : List Value} {cs : Array Value} (h : W.ownsRow base t sz v n xs) (hw : Within W W' (fun i => i = b)) (hb : Bk W b u cs) (hne : t ≠ u) : W'.ownsRow base t sz v n xs :=
  own_within h hw fun g e e2 => by
    obtain ⟨cs', hcs⟩ := own_bk h e
    exact Bk.unlike hcs hb hne e2
/-- Seven cells of a block are others. -/
def put7 (y : World) (g : Nat) (a b c d e f h : Value) : World := ((((((y.setCell ⟨g, 0, none⟩ a).setCell ⟨g, 1, none⟩ b).setCell ⟨g, 2, none⟩ c).setCell ⟨g, 3, none⟩ d).setCell ⟨g, 4, none⟩ e).setCell ⟨g, 5, none⟩ f).setCell ⟨g, 6, none⟩ h
theorem put7_bk {y : World} {g : Nat} {t : TypeId} {x0 x1 x2 x3 x4 x5 x6 : Value} (hb : Bk y g t #[x0, x1, x2, x3, x4, x5, x6]) (a b c d e f h : Value) : Bk (put7 y g a b c d e f h) g t #[a, b, c, d, e, f, h] := by
  have h8 := ((((((hb.put 0 a).put 1 b).put 2 c).put 3 d).put 4 e).put 5 f).put 6 h
  unfold put7
  simpa only [List.setIfInBounds_toArray, List.set_cons_zero, List.set_cons_succ] using h8
theorem put7_within {y : World} {g : Nat} (a b c d e f h : Value) : Within y (put7 y g a b c d e f h) (fun i => i = g) := by
  unfold put7
  exact (((((((Within.refl y (fun i => i = g)).put g 0 a (.inl rfl)).put g 1 b (.inl rfl)).put g 2 c (.inl rfl)).put g 3 d (.inl rfl)).put g 4 e (.inl rfl)).put g 5 f (.inl rfl)).put g 6 h (.inl rfl)
theorem put7_below {B : Nat} {w y : World} {g : Nat} (hb : Below B w y) (hg : B ≤ g) (a b c d e f h : Value) : Below B w (put7 y g a b c d e f h) :=
  ((((((hb.setCell hg _).setCell hg _).setCell hg _).setCell hg _).setCell hg _).setCell hg _).setCell hg _

/-- The value v is the document's spec; its program lies in a row of its own, at base or beyond. -/
def Rv (base : Nat) (w : World) (v : Value) (c : Prg) (zs init r7 : List Int) (each : Int) : Prop :=
  ∃ sl aS cS aI cI aR cR, v = .agg #[sl, .int .i64 c.lo, .int .i64 c.un, .slice aS zs.length cS, .slice aI init.length cI, .int .i64 each, .slice aR r7.length cR] ∧
    w.ownsRow base 125 8 sl c.l.length (progC c.l) ∧ Given .i64 w aS zs ∧ Given .u32 w aI init ∧ Given .u32 w aR r7 ∧ zs.length ≤ maxLen ∧ init.length ≤ maxLen ∧ r7.length ≤ maxLen
theorem Rv.below {base : Nat} {w w' : World} {v : Value} {c : Prg} {zs init r7 : List Int} {each : Int} (h : Rv base w v c zs init r7 each) (hb : Below w.heap.size w w') : Rv base w' v c zs init r7 each := by
  obtain ⟨sl, aS, cS, aI, cI, aR, cR, e, h1, h2, h3, h4, h5⟩ := h
  exact ⟨sl, aS, cS, aI, cI, aR, cR, e, own_below h1 hb, h2.below hb, h3.below hb, h4.below hb, h5⟩

set_option maxHeartbeats 1000000 in
theorem lRef10 {w : World} {v : Value} {c : Prg} {zs init r7 : List Int} {each : Int} (hv : Sv w v c zs init r7 each) (hc : c.l.length ≤ 1000) :
    Calls Tryz.prog 11 #[v] w fun e w' => ∃ v', e = .returned v' ∧ Rv w.heap.size w' v' c zs init r7 each ∧ Below w.heap.size w w' := by
  obtain ⟨aL, cL, aS, cS, aI, cI, aR, cR, rfl, hpv, hgS, hgI, hgR, hm1, hm2, hm3⟩ := hv
  have q0 := (Bk.made w 29 #[.slice aL c.l.length cL, .int .i64 c.lo, .int .i64 c.un, .slice aS zs.length cS, .slice aI init.length cI, .int .i64 each, .slice aR r7.length cR]).alloc (.cells #[.slice none 0 0, .int .i64 0, .int .i64 0, .slice none 0 0, .slice none 0 0, .int .i64 0, .slice none 0 0] 37)
  have q1 := Bk.made (w.alloc (.cells #[.slice aL c.l.length cL, .int .i64 c.lo, .int .i64 c.un, .slice aS zs.length cS, .slice aI init.length cI, .int .i64 each, .slice aR r7.length cR] 29)) 37 #[.slice none 0 0, .int .i64 0, .int .i64 0, .slice none 0 0, .slice none 0 0, .int .i64 0, .slice none 0 0]
  rw [World.size_alloc] at q1
  have b0 : Below w.heap.size w ((w.alloc (.cells #[.slice aL c.l.length cL, .int .i64 c.lo, .int .i64 c.un, .slice aS zs.length cS, .slice aI init.length cI, .int .i64 each, .slice aR r7.length cR] 29)).alloc (.cells #[.slice none 0 0, .int .i64 0, .int .i64 0, .slice none 0 0, .slice none 0 0, .int .i64 0, .slice none 0 0] 37)) := ((Below.refl _ _).alloc (Nat.le_refl _) _).alloc (by simp) _
  go_enter Tryz.func11, Tryz.ntmps11
  go_upto_region 1 with fail
  generalize (w.alloc (.cells #[.slice aL c.l.length cL, .int .i64 c.lo, .int .i64 c.un, .slice aS zs.length cS, .slice aI init.length cI, .int .i64 each, .slice aR r7.length cR] 29)).alloc (.cells #[.slice none 0 0, .int .i64 0, .int .i64 0, .slice none 0 0, .slice none 0 0, .int .i64 0, .slice none 0 0] 37) = y at *
  have HRF := Lib.hid (fun W (hW : Below w.heap.size w W) => lRefO c _ W (hpv.below hW) hc)
  have kx : ∀ (W : World) (u : Value) (i j : Nat), (W.setCell ⟨w.heap.size + 1, i, none⟩ u).cell? ⟨w.heap.size, j, none⟩ = W.cell? ⟨w.heap.size, j, none⟩ := fun W u i j => cell_off (by omega)
  have HQ : Hid (∀ W, Below y.heap.size y W → Bk W w.heap.size 29 _ ∧ Bk W (w.heap.size + 1) 37 _ ∧ Below w.heap.size w W) := Lib.hid fun W hW => ⟨(hW.block _ q0.lt).trans q0, (hW.block _ q1.lt).trans q1, b0.trans (hW.mono b0.size)⟩
  obtain ⟨f0, f1, f2, f3, f4, f5, f6⟩ : y.cell? ⟨w.heap.size, 0, none⟩ = some (.slice aL c.l.length cL) ∧ y.cell? ⟨w.heap.size, 1, none⟩ = some (.int .i64 c.lo) ∧ y.cell? ⟨w.heap.size, 2, none⟩ = some (.int .i64 c.un) ∧ y.cell? ⟨w.heap.size, 3, none⟩ = some (.slice aS zs.length cS) ∧ y.cell? ⟨w.heap.size, 4, none⟩ = some (.slice aI init.length cI) ∧ y.cell? ⟨w.heap.size, 5, none⟩ = some (.int .i64 each) ∧ y.cell? ⟨w.heap.size, 6, none⟩ = some (.slice aR r7.length cR) := ⟨q0.cell 0, q0.cell 1, q0.cell 2, q0.cell 3, q0.cell 4, q0.cell 5, q0.cell 6⟩
  refine wp_region_flow [12] (fun j W => match j with | 0 => Below y.heap.size y W | _ => ∃ sl, W.ownsRow w.heap.size 125 8 sl c.l.length (progC c.l) ∧ Bk W (w.heap.size + 1) 37 #[sl, .int .i64 c.lo, .int .i64 c.un, .slice aS zs.length cS, .slice aI init.length cI, .int .i64 each, .slice aR r7.length cR] ∧ Below w.heap.size w W) (fun _ W W2 => Within W W2 (fun i => i = w.heap.size + 1) ∧ Bk W (w.heap.size + 1) 37 #[.slice none 0 0, .int .i64 0, .int .i64 0, .slice none 0 0, .slice none 0 0, .int .i64 0, .slice none 0 0]) (fun vs => { tmps := #[.agg #[.slice aL c.l.length cL, .int .i64 c.lo, .int .i64 c.un, .slice aS zs.length cS, .slice aI init.length cI, .int .i64 each, .slice aR r7.length cR], .pointer (some ⟨w.heap.size, 0, none⟩), .pointer (some ⟨w.heap.size + 1, 0, none⟩), vs 0, vs 1, vs 2, vs 3, vs 4, vs 5, vs 6, vs 7, vs 8, vs 9, vs 10, vs 11], defers := [] }) (mixT [(2, (fun v W => ∃ sl, v = .agg #[sl, .int .i64 c.lo, .int .i64 c.un] ∧ W.ownsRow w.heap.size 125 8 sl c.l.length (progC c.l))), (11, (fun v W => ∃ sl, v = .agg #[sl, .int .i64 c.lo, .int .i64 c.un, .slice aS zs.length cS, .slice aI init.length cI, .int .i64 each, .slice aR r7.length cR] ∧ W.ownsRow w.heap.size 125 8 sl c.l.length (progC c.l)))] [.pointer (some ⟨w.heap.size, 0, none⟩), .agg #[.slice aL c.l.length cL, .int .i64 c.lo, .int .i64 c.un], undef, .pointer (some ⟨w.heap.size, 3, none⟩), .slice aS zs.length cS, .pointer (some ⟨w.heap.size, 4, none⟩), .slice aI init.length cI, .pointer (some ⟨w.heap.size, 5, none⟩), .int .i64 each, .pointer (some ⟨w.heap.size, 6, none⟩), .slice aR r7.length cR, undef, undef]) ?ghm ?ghr ?ghc ?ghnd ?ghlit ?gh0 ?ghW ?ghF ?ghS ?gops ?gdone
  case ghm => kernel_rfl
  case ghr => kernel_rfl
  case ghc => kernel_rfl
  case ghnd => decide
  case ghlit => intro vs; rfl
  case gh0 => exact Below.refl _ _
  case ghW => exact fun kk W W2 h hb => match kk, h with
    | 0, h => h.trans (hb.mono h.size)
    | _ + 1, ⟨sl, h1, h2, h3⟩ => ⟨sl, own_below h1 hb, (hb.block _ h2.lt).trans h2, h3.trans (hb.mono h3.size)⟩
  case ghF => exact mixT_stable (by
    intro p0 hp
    simp only [List.mem_cons, List.not_mem_nil, or_false] at hp
    rcases hp with rfl | rfl
    · rintro v W W2 ⟨sl, e, h⟩ hb; exact ⟨sl, e, own_below h hb⟩
    · rintro v W W2 ⟨sl, e, h⟩ hb; exact ⟨sl, e, own_below h hb⟩)
  case ghS => exact fun kk W W2 _ hs i v h => mixT_keep (R := fun W W2 => Within W W2 (fun i => i = w.heap.size + 1) ∧ Bk W (w.heap.size + 1) 37 #[.slice none 0 0, .int .i64 0, .int .i64 0, .slice none 0 0, .slice none 0 0, .int .i64 0, .slice none 0 0]) (ps := [(2, (fun v W => ∃ sl, v = .agg #[sl, .int .i64 c.lo, .int .i64 c.un] ∧ W.ownsRow w.heap.size 125 8 sl c.l.length (progC c.l))), (11, (fun v W => ∃ sl, v = .agg #[sl, .int .i64 c.lo, .int .i64 c.un, .slice aS zs.length cS, .slice aI init.length cI, .int .i64 each, .slice aR r7.length cR] ∧ W.ownsRow w.heap.size 125 8 sl c.l.length (progC c.l)))]) (l := [.pointer (some ⟨w.heap.size, 0, none⟩), .agg #[.slice aL c.l.length cL, .int .i64 c.lo, .int .i64 c.un], undef, .pointer (some ⟨w.heap.size, 3, none⟩), .slice aS zs.length cS, .pointer (some ⟨w.heap.size, 4, none⟩), .slice aI init.length cI, .pointer (some ⟨w.heap.size, 5, none⟩), .int .i64 each, .pointer (some ⟨w.heap.size, 6, none⟩), .slice aR r7.length cR, undef, undef]) (by
    intro p0 hp
    simp only [List.mem_cons, List.not_mem_nil, or_false] at hp
    rcases hp with rfl | rfl
    · rintro v W W2 ⟨sl, e, h⟩ hs; exact ⟨sl, e, own_safe h hs.1 hs.2 (by decide)⟩
    · rintro v W W2 ⟨sl, e, h⟩ hs; exact ⟨sl, e, own_safe h hs.1 hs.2 (by decide)⟩) i v W W2 h hs
  case gops =>
    refine ⟨?_, ?_, ?_, ?_, ?_, ?_, ?_, ?_, ?_, ?_, ?_, ?_, ?_, trivial⟩
    · intro vs W kk h1 h2 hW hd
      obtain rfl : kk = 0 := Nat.le_zero.1 h2
      refine leaves_free rfl ?_
      clear hd
      go_simp
      exact ⟨rfl, Below.refl _ _⟩
    · intro vs W kk h1 h2 hW hd
      obtain rfl : kk = 0 := Nat.le_zero.1 h2
      refine leaves_free rfl ?_
      have e0 : vs 0 = .pointer (some ⟨w.heap.size, 0, none⟩) := hd 0 (by decide)
      have hq := (HQ.out W hW).1; obtain ⟨f0, f1, f2, f3, f4, f5, f6⟩ : W.cell? ⟨w.heap.size, 0, none⟩ = some (.slice aL c.l.length cL) ∧ W.cell? ⟨w.heap.size, 1, none⟩ = some (.int .i64 c.lo) ∧ W.cell? ⟨w.heap.size, 2, none⟩ = some (.int .i64 c.un) ∧ W.cell? ⟨w.heap.size, 3, none⟩ = some (.slice aS zs.length cS) ∧ W.cell? ⟨w.heap.size, 4, none⟩ = some (.slice aI init.length cI) ∧ W.cell? ⟨w.heap.size, 5, none⟩ = some (.int .i64 each) ∧ W.cell? ⟨w.heap.size, 6, none⟩ = some (.slice aR r7.length cR) := ⟨hq.cell 0, hq.cell 1, hq.cell 2, hq.cell 3, hq.cell 4, hq.cell 5, hq.cell 6⟩; have hr := (HQ.out W hW).2.1; obtain ⟨z0, z1, z2, z3, z4, z5, z6⟩ : W.cell? ⟨w.heap.size + 1, 0, none⟩ = some (.slice none 0 0) ∧ W.cell? ⟨w.heap.size + 1, 1, none⟩ = some (.int .i64 0) ∧ W.cell? ⟨w.heap.size + 1, 2, none⟩ = some (.int .i64 0) ∧ W.cell? ⟨w.heap.size + 1, 3, none⟩ = some (.slice none 0 0) ∧ W.cell? ⟨w.heap.size + 1, 4, none⟩ = some (.slice none 0 0) ∧ W.cell? ⟨w.heap.size + 1, 5, none⟩ = some (.int .i64 0) ∧ W.cell? ⟨w.heap.size + 1, 6, none⟩ = some (.slice none 0 0) := ⟨hr.cell 0, hr.cell 1, hr.cell 2, hr.cell 3, hr.cell 4, hr.cell 5, hr.cell 6⟩; have zf := Bk.free hr; clear hq
      clear hd
      go_simp
      exact ⟨rfl, Below.refl _ _⟩
    · intro vs W kk h1 h2 hW hd
      obtain rfl : kk = 0 := Nat.le_zero.1 h2
      refine leaves_free rfl ?_
      have e1 : vs 1 = .agg #[.slice aL c.l.length cL, .int .i64 c.lo, .int .i64 c.un] := hd 1 (by decide)
      have HS := Lib.hid (HRF.out W (HQ.out W hW).2.2)
      have hsz := (HQ.out W hW).2.2.size
      clear hd
      go_simp
      refine HS.out.mono ?_
      rintro e zz ⟨sl, he, ho, hb⟩
      exact ⟨_, he, ⟨sl, rfl, World.ownsRow.mono (base' := w.heap.size) ho hsz⟩, hb⟩
    · intro vs W kk h1 h2 hW hd
      obtain rfl : kk = 0 := Nat.le_zero.1 h2
      refine leaves_free rfl ?_
      clear hd
      go_simp
      exact ⟨rfl, Below.refl _ _⟩
    · intro vs W kk h1 h2 hW hd
      obtain rfl : kk = 0 := Nat.le_zero.1 h2
      refine leaves_free rfl ?_
      have e3 : vs 3 = .pointer (some ⟨w.heap.size, 3, none⟩) := hd 3 (by decide)
      have hq := (HQ.out W hW).1; obtain ⟨f0, f1, f2, f3, f4, f5, f6⟩ : W.cell? ⟨w.heap.size, 0, none⟩ = some (.slice aL c.l.length cL) ∧ W.cell? ⟨w.heap.size, 1, none⟩ = some (.int .i64 c.lo) ∧ W.cell? ⟨w.heap.size, 2, none⟩ = some (.int .i64 c.un) ∧ W.cell? ⟨w.heap.size, 3, none⟩ = some (.slice aS zs.length cS) ∧ W.cell? ⟨w.heap.size, 4, none⟩ = some (.slice aI init.length cI) ∧ W.cell? ⟨w.heap.size, 5, none⟩ = some (.int .i64 each) ∧ W.cell? ⟨w.heap.size, 6, none⟩ = some (.slice aR r7.length cR) := ⟨hq.cell 0, hq.cell 1, hq.cell 2, hq.cell 3, hq.cell 4, hq.cell 5, hq.cell 6⟩; have hr := (HQ.out W hW).2.1; obtain ⟨z0, z1, z2, z3, z4, z5, z6⟩ : W.cell? ⟨w.heap.size + 1, 0, none⟩ = some (.slice none 0 0) ∧ W.cell? ⟨w.heap.size + 1, 1, none⟩ = some (.int .i64 0) ∧ W.cell? ⟨w.heap.size + 1, 2, none⟩ = some (.int .i64 0) ∧ W.cell? ⟨w.heap.size + 1, 3, none⟩ = some (.slice none 0 0) ∧ W.cell? ⟨w.heap.size + 1, 4, none⟩ = some (.slice none 0 0) ∧ W.cell? ⟨w.heap.size + 1, 5, none⟩ = some (.int .i64 0) ∧ W.cell? ⟨w.heap.size + 1, 6, none⟩ = some (.slice none 0 0) := ⟨hr.cell 0, hr.cell 1, hr.cell 2, hr.cell 3, hr.cell 4, hr.cell 5, hr.cell 6⟩; have zf := Bk.free hr; clear hq
      clear hd
      go_simp
      exact ⟨rfl, Below.refl _ _⟩
    · intro vs W kk h1 h2 hW hd
      obtain rfl : kk = 0 := Nat.le_zero.1 h2
      refine leaves_free rfl ?_
      clear hd
      go_simp
      exact ⟨rfl, Below.refl _ _⟩
    · intro vs W kk h1 h2 hW hd
      obtain rfl : kk = 0 := Nat.le_zero.1 h2
      refine leaves_free rfl ?_
      have e5 : vs 5 = .pointer (some ⟨w.heap.size, 4, none⟩) := hd 5 (by decide)
      have hq := (HQ.out W hW).1; obtain ⟨f0, f1, f2, f3, f4, f5, f6⟩ : W.cell? ⟨w.heap.size, 0, none⟩ = some (.slice aL c.l.length cL) ∧ W.cell? ⟨w.heap.size, 1, none⟩ = some (.int .i64 c.lo) ∧ W.cell? ⟨w.heap.size, 2, none⟩ = some (.int .i64 c.un) ∧ W.cell? ⟨w.heap.size, 3, none⟩ = some (.slice aS zs.length cS) ∧ W.cell? ⟨w.heap.size, 4, none⟩ = some (.slice aI init.length cI) ∧ W.cell? ⟨w.heap.size, 5, none⟩ = some (.int .i64 each) ∧ W.cell? ⟨w.heap.size, 6, none⟩ = some (.slice aR r7.length cR) := ⟨hq.cell 0, hq.cell 1, hq.cell 2, hq.cell 3, hq.cell 4, hq.cell 5, hq.cell 6⟩; have hr := (HQ.out W hW).2.1; obtain ⟨z0, z1, z2, z3, z4, z5, z6⟩ : W.cell? ⟨w.heap.size + 1, 0, none⟩ = some (.slice none 0 0) ∧ W.cell? ⟨w.heap.size + 1, 1, none⟩ = some (.int .i64 0) ∧ W.cell? ⟨w.heap.size + 1, 2, none⟩ = some (.int .i64 0) ∧ W.cell? ⟨w.heap.size + 1, 3, none⟩ = some (.slice none 0 0) ∧ W.cell? ⟨w.heap.size + 1, 4, none⟩ = some (.slice none 0 0) ∧ W.cell? ⟨w.heap.size + 1, 5, none⟩ = some (.int .i64 0) ∧ W.cell? ⟨w.heap.size + 1, 6, none⟩ = some (.slice none 0 0) := ⟨hr.cell 0, hr.cell 1, hr.cell 2, hr.cell 3, hr.cell 4, hr.cell 5, hr.cell 6⟩; have zf := Bk.free hr; clear hq
      clear hd
      go_simp
      exact ⟨rfl, Below.refl _ _⟩
    · intro vs W kk h1 h2 hW hd
      obtain rfl : kk = 0 := Nat.le_zero.1 h2
      refine leaves_free rfl ?_
      clear hd
      go_simp
      exact ⟨rfl, Below.refl _ _⟩
    · intro vs W kk h1 h2 hW hd
      obtain rfl : kk = 0 := Nat.le_zero.1 h2
      refine leaves_free rfl ?_
      have e7 : vs 7 = .pointer (some ⟨w.heap.size, 5, none⟩) := hd 7 (by decide)
      have hq := (HQ.out W hW).1; obtain ⟨f0, f1, f2, f3, f4, f5, f6⟩ : W.cell? ⟨w.heap.size, 0, none⟩ = some (.slice aL c.l.length cL) ∧ W.cell? ⟨w.heap.size, 1, none⟩ = some (.int .i64 c.lo) ∧ W.cell? ⟨w.heap.size, 2, none⟩ = some (.int .i64 c.un) ∧ W.cell? ⟨w.heap.size, 3, none⟩ = some (.slice aS zs.length cS) ∧ W.cell? ⟨w.heap.size, 4, none⟩ = some (.slice aI init.length cI) ∧ W.cell? ⟨w.heap.size, 5, none⟩ = some (.int .i64 each) ∧ W.cell? ⟨w.heap.size, 6, none⟩ = some (.slice aR r7.length cR) := ⟨hq.cell 0, hq.cell 1, hq.cell 2, hq.cell 3, hq.cell 4, hq.cell 5, hq.cell 6⟩; have hr := (HQ.out W hW).2.1; obtain ⟨z0, z1, z2, z3, z4, z5, z6⟩ : W.cell? ⟨w.heap.size + 1, 0, none⟩ = some (.slice none 0 0) ∧ W.cell? ⟨w.heap.size + 1, 1, none⟩ = some (.int .i64 0) ∧ W.cell? ⟨w.heap.size + 1, 2, none⟩ = some (.int .i64 0) ∧ W.cell? ⟨w.heap.size + 1, 3, none⟩ = some (.slice none 0 0) ∧ W.cell? ⟨w.heap.size + 1, 4, none⟩ = some (.slice none 0 0) ∧ W.cell? ⟨w.heap.size + 1, 5, none⟩ = some (.int .i64 0) ∧ W.cell? ⟨w.heap.size + 1, 6, none⟩ = some (.slice none 0 0) := ⟨hr.cell 0, hr.cell 1, hr.cell 2, hr.cell 3, hr.cell 4, hr.cell 5, hr.cell 6⟩; have zf := Bk.free hr; clear hq
      clear hd
      go_simp
      exact ⟨rfl, Below.refl _ _⟩
    · intro vs W kk h1 h2 hW hd
      obtain rfl : kk = 0 := Nat.le_zero.1 h2
      refine leaves_free rfl ?_
      clear hd
      go_simp
      exact ⟨rfl, Below.refl _ _⟩
    · intro vs W kk h1 h2 hW hd
      obtain rfl : kk = 0 := Nat.le_zero.1 h2
      refine leaves_free rfl ?_
      have e9 : vs 9 = .pointer (some ⟨w.heap.size, 6, none⟩) := hd 9 (by decide)
      have hq := (HQ.out W hW).1; obtain ⟨f0, f1, f2, f3, f4, f5, f6⟩ : W.cell? ⟨w.heap.size, 0, none⟩ = some (.slice aL c.l.length cL) ∧ W.cell? ⟨w.heap.size, 1, none⟩ = some (.int .i64 c.lo) ∧ W.cell? ⟨w.heap.size, 2, none⟩ = some (.int .i64 c.un) ∧ W.cell? ⟨w.heap.size, 3, none⟩ = some (.slice aS zs.length cS) ∧ W.cell? ⟨w.heap.size, 4, none⟩ = some (.slice aI init.length cI) ∧ W.cell? ⟨w.heap.size, 5, none⟩ = some (.int .i64 each) ∧ W.cell? ⟨w.heap.size, 6, none⟩ = some (.slice aR r7.length cR) := ⟨hq.cell 0, hq.cell 1, hq.cell 2, hq.cell 3, hq.cell 4, hq.cell 5, hq.cell 6⟩; have hr := (HQ.out W hW).2.1; obtain ⟨z0, z1, z2, z3, z4, z5, z6⟩ : W.cell? ⟨w.heap.size + 1, 0, none⟩ = some (.slice none 0 0) ∧ W.cell? ⟨w.heap.size + 1, 1, none⟩ = some (.int .i64 0) ∧ W.cell? ⟨w.heap.size + 1, 2, none⟩ = some (.int .i64 0) ∧ W.cell? ⟨w.heap.size + 1, 3, none⟩ = some (.slice none 0 0) ∧ W.cell? ⟨w.heap.size + 1, 4, none⟩ = some (.slice none 0 0) ∧ W.cell? ⟨w.heap.size + 1, 5, none⟩ = some (.int .i64 0) ∧ W.cell? ⟨w.heap.size + 1, 6, none⟩ = some (.slice none 0 0) := ⟨hr.cell 0, hr.cell 1, hr.cell 2, hr.cell 3, hr.cell 4, hr.cell 5, hr.cell 6⟩; have zf := Bk.free hr; clear hq
      clear hd
      go_simp
      exact ⟨rfl, Below.refl _ _⟩
    · intro vs W kk h1 h2 hW hd
      obtain rfl : kk = 0 := Nat.le_zero.1 h2
      refine leaves_free rfl ?_
      have e4 : vs 4 = .slice aS zs.length cS := hd 4 (by decide)
      have e6 : vs 6 = .slice aI init.length cI := hd 6 (by decide)
      have e8 : vs 8 = .int .i64 each := hd 8 (by decide)
      have e10 : vs 10 = .slice aR r7.length cR := hd 10 (by decide)
      obtain ⟨sl, e2, ho⟩ : ∃ sl, vs 2 = .agg #[sl, .int .i64 c.lo, .int .i64 c.un] ∧ W.ownsRow w.heap.size 125 8 sl c.l.length (progC c.l) := hd 2 (by decide)
      clear hd
      go_simp
      exact ⟨⟨sl, rfl, ho⟩, Below.refl _ _⟩
    · intro vs W hW hd
      obtain ⟨sl, e11, ho⟩ : ∃ sl, vs 11 = .agg #[sl, .int .i64 c.lo, .int .i64 c.un, .slice aS zs.length cS, .slice aI init.length cI, .int .i64 each, .slice aR r7.length cR] ∧ W.ownsRow w.heap.size 125 8 sl c.l.length (progC c.l) := hd 11 (by decide)
      obtain ⟨aL9, cL9, rfl, -⟩ := own_is ho
      have hq := (HQ.out W hW).1; obtain ⟨f0, f1, f2, f3, f4, f5, f6⟩ : W.cell? ⟨w.heap.size, 0, none⟩ = some (.slice aL c.l.length cL) ∧ W.cell? ⟨w.heap.size, 1, none⟩ = some (.int .i64 c.lo) ∧ W.cell? ⟨w.heap.size, 2, none⟩ = some (.int .i64 c.un) ∧ W.cell? ⟨w.heap.size, 3, none⟩ = some (.slice aS zs.length cS) ∧ W.cell? ⟨w.heap.size, 4, none⟩ = some (.slice aI init.length cI) ∧ W.cell? ⟨w.heap.size, 5, none⟩ = some (.int .i64 each) ∧ W.cell? ⟨w.heap.size, 6, none⟩ = some (.slice aR r7.length cR) := ⟨hq.cell 0, hq.cell 1, hq.cell 2, hq.cell 3, hq.cell 4, hq.cell 5, hq.cell 6⟩; have hr := (HQ.out W hW).2.1; obtain ⟨z0, z1, z2, z3, z4, z5, z6⟩ : W.cell? ⟨w.heap.size + 1, 0, none⟩ = some (.slice none 0 0) ∧ W.cell? ⟨w.heap.size + 1, 1, none⟩ = some (.int .i64 0) ∧ W.cell? ⟨w.heap.size + 1, 2, none⟩ = some (.int .i64 0) ∧ W.cell? ⟨w.heap.size + 1, 3, none⟩ = some (.slice none 0 0) ∧ W.cell? ⟨w.heap.size + 1, 4, none⟩ = some (.slice none 0 0) ∧ W.cell? ⟨w.heap.size + 1, 5, none⟩ = some (.int .i64 0) ∧ W.cell? ⟨w.heap.size + 1, 6, none⟩ = some (.slice none 0 0) := ⟨hr.cell 0, hr.cell 1, hr.cell 2, hr.cell 3, hr.cell 4, hr.cell 5, hr.cell 6⟩; have zf := Bk.free hr; clear hq
      refine leavesIf_free rfl ?_
      clear hd
      go_simp
      exact ⟨rfl, ⟨.slice aL9 c.l.length cL9, own_safe ho (put7_within (y := W) (g := w.heap.size + 1) (.slice aL9 c.l.length cL9) (.int .i64 c.lo) (.int .i64 c.un) (.slice aS zs.length cS) (.slice aI init.length cI) (.int .i64 each) (.slice aR r7.length cR)) hr (by decide), put7_bk hr (.slice aL9 c.l.length cL9) (.int .i64 c.lo) (.int .i64 c.un) (.slice aS zs.length cS) (.slice aI init.length cI) (.int .i64 each) (.slice aR r7.length cR), put7_below (HQ.out W hW).2.2 (by omega) (.slice aL9 c.l.length cL9) (.int .i64 c.lo) (.int .i64 c.un) (.slice aS zs.length cS) (.slice aI init.length cI) (.int .i64 each) (.slice aR r7.length cR)⟩, put7_within (y := W) (g := w.heap.size + 1) (.slice aL9 c.l.length cL9) (.int .i64 c.lo) (.int .i64 c.un) (.slice aS zs.length cS) (.slice aI init.length cI) (.int .i64 each) (.slice aR r7.length cR)⟩
  case gdone =>
    intro vs W hW hf
    have f0 : vs 0 = .pointer (some ⟨w.heap.size, 0, none⟩) := hf 0 (by decide)
    have f1 : vs 1 = .agg #[.slice aL c.l.length cL, .int .i64 c.lo, .int .i64 c.un] := hf 1 (by decide)
    have f3 : vs 3 = .pointer (some ⟨w.heap.size, 3, none⟩) := hf 3 (by decide)
    have f4 : vs 4 = .slice aS zs.length cS := hf 4 (by decide)
    have f5 : vs 5 = .pointer (some ⟨w.heap.size, 4, none⟩) := hf 5 (by decide)
    have f6 : vs 6 = .slice aI init.length cI := hf 6 (by decide)
    have f7 : vs 7 = .pointer (some ⟨w.heap.size, 5, none⟩) := hf 7 (by decide)
    have f8 : vs 8 = .int .i64 each := hf 8 (by decide)
    have f9 : vs 9 = .pointer (some ⟨w.heap.size, 6, none⟩) := hf 9 (by decide)
    have f10 : vs 10 = .slice aR r7.length cR := hf 10 (by decide)
    simp only [f0, f1, f3, f4, f5, f6, f7, f8, f9, f10]
    clear f0 f1 f3 f4 f5 f6 f7 f8 f9 f10
    obtain ⟨sl, ho, hB, hb⟩ : ∃ sl, W.ownsRow w.heap.size 125 8 sl c.l.length (progC c.l) ∧ Bk W (w.heap.size + 1) 37 #[sl, .int .i64 c.lo, .int .i64 c.un, .slice aS zs.length cS, .slice aI init.length cI, .int .i64 each, .slice aR r7.length cR] ∧ Below w.heap.size w W := hW
    clear hf HQ HRF kx f0 f1 f2 f3 f4 f5 f6 q0 q1
    obtain ⟨f0, f1, f2, f3, f4, f5, f6⟩ : W.cell? ⟨w.heap.size + 1, 0, none⟩ = some sl ∧ W.cell? ⟨w.heap.size + 1, 1, none⟩ = some (.int .i64 c.lo) ∧ W.cell? ⟨w.heap.size + 1, 2, none⟩ = some (.int .i64 c.un) ∧ W.cell? ⟨w.heap.size + 1, 3, none⟩ = some (.slice aS zs.length cS) ∧ W.cell? ⟨w.heap.size + 1, 4, none⟩ = some (.slice aI init.length cI) ∧ W.cell? ⟨w.heap.size + 1, 5, none⟩ = some (.int .i64 each) ∧ W.cell? ⟨w.heap.size + 1, 6, none⟩ = some (.slice aR r7.length cR) := ⟨hB.cell 0, hB.cell 1, hB.cell 2, hB.cell 3, hB.cell 4, hB.cell 5, hB.cell 6⟩
    go_wp
    exact bodyPost_ret (v := .agg #[sl, .int .i64 c.lo, .int .i64 c.un, .slice aS zs.length cS, .slice aI init.length cI, .int .i64 each, .slice aR r7.length cR]) (by simp [results, Tryz.results11, go_sem, f0, f1, f2, f3, f4, f5, f6]) rfl ⟨_, rfl, ⟨sl, aS, cS, aI, cI, aR, cR, rfl, ho, hgS.below hb, hgI.below hb, hgR.below hb, hm1, hm2, hm3⟩, hb⟩
end Go.Proofs.YthdgehcghklflaaGreatDoor
