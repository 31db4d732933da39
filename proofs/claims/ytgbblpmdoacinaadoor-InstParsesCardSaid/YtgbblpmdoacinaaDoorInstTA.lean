/- The document's Text, of some Ops. -/
import Derived.Test.YtgbblpmdoacinaaDoorInstV
import Derived.Deep.Cut
namespace Go.Proofs.YtgbblpmdoacinaaDoor
open Go.ChangeShapes Go.WideShapes Go.ChangeAt Go.RowKit
set_option linter.unusedVariables false

set_option maxHeartbeats 8000000 in
set_option maxRecDepth 100000 in
theorem rTextA (op : Int) (dn sn tn un an kn pn : Nat) (hop : op = 1 ∨ op = 2 ∨ op = 3 ∨ op = 4 ∨ op = 5 ∨ op = 6 ∨ op = 7 ∨ op = 8 ∨ op = 9 ∨ op = 10) (hd : dn < 5000000000) (hs : sn < 5000000000) (ht : tn < 5000000000) (hu : un < 5000000000) (ha : an < 5000000000) (hk : kn < 4294967296) (hp : pn < 5000000000) (w : World) :
    Calls Tryd.prog 14 #[iv ⟨op, dn, sn, tn, un, an, kn, pn⟩] w fun e w' => e = .returned (bs (textL ⟨op, dn, sn, tn, un, an, kn, pn⟩)) ∧ Below w.heap.size w w' := by
  have HRd := Lib.hid (fun W => rR dn W hd)
  have HRs := Lib.hid (fun W => rR sn W hs)
  have HRt := Lib.hid (fun W => rR tn W ht)
  have HRu := Lib.hid (fun W => rR un W hu)
  have HDk := Lib.hid (fun W => rDig kn W (by omega))
  have HDa := Lib.hid (fun W => rDig an W ha)
  have HDp := Lib.hid (fun W => rDig pn W hp)
  have HN := Lib.hid (fun W => rName op W)
  have lnm : (nmL op).length ≤ 40 := Nat.le_trans (nm_len op) (by decide)
  have lRD := rL_len dn hd
  have lRS := rL_len sn hs
  have lRT := rL_len tn ht
  have lRU := rL_len un hu
  have lDK := dec_len kn (by omega)
  have lDA := dec_len an ha
  have lDP := dec_len pn hp
  generalize hRD : rL dn = RD at *
  generalize hRS : rL sn = RS at *
  generalize hRT : rL tn = RT at *
  generalize hRU : rL un = RU at *
  generalize hDK : Lib.decDigits kn = DK at *
  generalize hDA : Lib.decDigits an = DA at *
  generalize hDP : Lib.decDigits pn = DP at *
  generalize hnm : nmL op = nm at *
  generalize htx : textL ⟨op, dn, sn, tn, un, an, kn, pn⟩ = tx
  have HRD := Lib.hid hRD.symm
  have HRS := Lib.hid hRS.symm
  have HRT := Lib.hid hRT.symm
  have HRU := Lib.hid hRU.symm
  have HDK := Lib.hid hDK.symm
  have HDA := Lib.hid hDA.symm
  have HDP := Lib.hid hDP.symm
  have HNM := Lib.hid hnm.symm
  have HT := Lib.hid htx.symm
  clear hRD hRS hRT hRU hDK hDA hDP hnm htx
  have lKL : (32 :: DK).length ≤ 40 := by simp; omega
  have lAL : (32 :: DA).length ≤ 40 := by simp; omega
  have lPL : (32 :: DP).length ≤ 40 := by simp; omega
  generalize hKL : 32 :: DK = KL at *
  generalize hAL : 32 :: DA = AL at *
  generalize hPL : 32 :: DP = PL at *
  have ck : (⟨#[32]⟩ : ByteArray) ++ ⟨DK.toArray⟩ = ⟨KL.toArray⟩ := by rw [← hKL]; exact cat_bs [32] DK
  have ca : (⟨#[32]⟩ : ByteArray) ++ ⟨DA.toArray⟩ = ⟨AL.toArray⟩ := by rw [← hAL]; exact cat_bs [32] DA
  have cp : (⟨#[32]⟩ : ByteArray) ++ ⟨DP.toArray⟩ = ⟨PL.toArray⟩ := by rw [← hPL]; exact cat_bs [32] DP
  have HKL := Lib.hid hKL.symm
  have HAL := Lib.hid hAL.symm
  have HPL := Lib.hid hPL.symm
  clear hKL hAL hPL
  have sk : ¬ 9223372036854775807 < 1 + DK.length := by omega
  have sa : ¬ 9223372036854775807 < 1 + DA.length := by omega
  have sp : ¬ 9223372036854775807 < 1 + DP.length := by omega
  have hk0 : (0 : Int) ≤ (kn : Int) := by omega
  have hk1 : (kn : Int) < 4294967296 := by omega
  have hp0 : (0 : Int) ≤ (pn : Int) := by omega
  unfold iv
  go_enter Tryd.func14, Tryd.ntmps14
  go_wp2
  generalize hx0 : w.alloc (.cells #[.int .i64 op, .int .i64 (dn : Int), .int .i64 (sn : Int), .int .i64 (tn : Int), .int .i64 (un : Int), .int .i64 (an : Int), .int .u32 (kn : Int), .int .i64 (pn : Int)] 27) = x0
  have hJ : Jb x0 w.heap.size ⟨op, dn, sn, tn, un, an, kn, pn⟩ := by rw [← hx0]; exact Jb.made w _ _ _ _ _ _ _ _
  have hb : Below w.heap.size w x0 := by rw [← hx0]; exact (Below.refl _ _).alloc (Nat.le_refl _) _
  have hlt : w.heap.size < x0.heap.size := Bk.lt hJ
  clear hx0
  obtain ⟨g0, g1, g2, g3, g4, g5, g6, g7⟩ := hJ.grw
  simp only at g0 g1 g2 g3 g4 g5 g6 g7
  refine wp_region_grow (by kernel_rfl) (by kernel_rfl) ?_
  repeat (go_big_quiet_step (first | (go_at_call 25; with_reducible exact grw_call (HDk.out _)) | (go_at_call 25; with_reducible exact grw_call (HDa.out _))))
  refine wpQuiet_nil ?_
  rintro x ⟨⟨_, hx⟩, rfl⟩
  replace hb := hb.trans (hx.mono (Nat.le_of_lt hlt))
  replace hJ := hJ.below hx
  replace hlt : w.heap.size < x.heap.size := Bk.lt hJ
  clear g0 g1 g2 g3 g4 g5 g6 g7 hx ck ca sk sa
  obtain ⟨c0, -, -, -, -, -, -, c7⟩ := hJ.cells
  simp only at c0 c7
  go_wp2_with fail
  refine (HDp.out _).mono ?_
  rintro e x1 ⟨rfl, hx⟩
  replace hb := hb.trans (hx.mono (Nat.le_of_lt hlt))
  replace hJ := hJ.below hx
  replace hlt : w.heap.size < x1.heap.size := Bk.lt hJ
  clear hx c0 c7
  obtain ⟨c0, -⟩ := hJ.cells
  simp only at c0
  go_wp2_with fail
  refine (HN.out _).mono ?_
  rintro e x2 ⟨rfl, hx⟩
  replace hb := hb.trans (hx.mono (Nat.le_of_lt hlt))
  replace hJ := hJ.below hx
  replace hlt : w.heap.size < x2.heap.size := Bk.lt hJ
  clear hx c0 cp sp
  obtain ⟨c0, c1, c2, c3, c4, c5, c6, c7⟩ := hJ.cells
  obtain ⟨g0, g1, g2, g3, g4, g5, g6, g7⟩ := hJ.grw
  simp only at c0 c1 c2 c3 c4 c5 c6 c7 g0 g1 g2 g3 g4 g5 g6 g7
  unfold bs
  go_upto_region 6 with (fail)
  rcases hop with rfl | rfl | rfl | rfl | rfl | rfl | rfl | rfl | rfl | rfl
  · skip
    obtain ⟨Z1, hz1, cc1, ss1, ll1⟩ := cat2 RD KL 40 40 lRD lKL
    have HZ1 := Lib.hid hz1
    clear hz1
    obtain ⟨Z2, hz2, cc2, ss2, ll2⟩ := cat2 nm Z1 40 80 lnm ll1
    have HZ2 := Lib.hid hz2
    clear hz2
    go_wp2_with (first | (go_at_call 26; (with_reducible refine (HRd.out _).mono ?_); rintro e y ⟨rfl, hy⟩) | (go_at_call 26; (with_reducible refine (HRs.out _).mono ?_); rintro e y ⟨rfl, hy⟩))
    go_ret
    refine ⟨ret_bs ?_, hb.trans (hy.mono (Nat.le_of_lt hlt))⟩
    rw [HZ2.out, HZ1.out, HT.out, HNM.out, HRD.out, HKL.out, HDK.out]
    exact (txt_1 dn sn tn un an kn pn).symm
  · skip
    obtain ⟨Z1, hz1, cc1, ss1, ll1⟩ := cat2 RD RS 40 40 lRD lRS
    have HZ1 := Lib.hid hz1
    clear hz1
    obtain ⟨Z2, hz2, cc2, ss2, ll2⟩ := cat2 nm Z1 40 80 lnm ll1
    have HZ2 := Lib.hid hz2
    clear hz2
    go_wp2
    refine wp_region_grow (by kernel_rfl) (by kernel_rfl) ?_
    repeat (go_big_quiet_step (first | (go_at_call 26; with_reducible exact grw_call (HRd.out _)) | (go_at_call 26; with_reducible exact grw_call (HRs.out _)) | (go_at_call 26; with_reducible exact grw_call (HRt.out _)) | (go_at_call 26; with_reducible exact grw_call (HRu.out _))))
    refine wpQuiet_nil ?_
    rintro y ⟨⟨_, hy⟩, rfl⟩
    go_wp2
    go_ret
    refine ⟨ret_bs ?_, hb.trans (hy.mono (Nat.le_of_lt hlt))⟩
    rw [HZ2.out, HZ1.out, HT.out, HNM.out, HRD.out, HRS.out]
    exact (txt_2 dn sn tn un an kn pn).symm
  · skip
    obtain ⟨Z1, hz1, cc1, ss1, ll1⟩ := cat2 RD RS 40 40 lRD lRS
    have HZ1 := Lib.hid hz1
    clear hz1
    obtain ⟨Z2, hz2, cc2, ss2, ll2⟩ := cat2 Z1 KL 80 40 ll1 lKL
    have HZ2 := Lib.hid hz2
    clear hz2
    obtain ⟨Z3, hz3, cc3, ss3, ll3⟩ := cat2 nm Z2 40 120 lnm ll2
    have HZ3 := Lib.hid hz3
    clear hz3
    go_wp2
    refine wp_region_grow (by kernel_rfl) (by kernel_rfl) ?_
    repeat (go_big_quiet_step (first | (go_at_call 26; with_reducible exact grw_call (HRd.out _)) | (go_at_call 26; with_reducible exact grw_call (HRs.out _)) | (go_at_call 26; with_reducible exact grw_call (HRt.out _)) | (go_at_call 26; with_reducible exact grw_call (HRu.out _))))
    refine wpQuiet_nil ?_
    rintro y ⟨⟨_, hy⟩, rfl⟩
    go_wp2
    go_ret
    refine ⟨ret_bs ?_, hb.trans (hy.mono (Nat.le_of_lt hlt))⟩
    rw [HZ3.out, HZ2.out, HZ1.out, HT.out, HNM.out, HRD.out, HRS.out, HKL.out, HDK.out]
    exact (txt_3 dn sn tn un an kn pn).symm
  · skip
    obtain ⟨Z1, hz1, cc1, ss1, ll1⟩ := cat2 RD RS 40 40 lRD lRS
    have HZ1 := Lib.hid hz1
    clear hz1
    obtain ⟨Z2, hz2, cc2, ss2, ll2⟩ := cat2 Z1 KL 80 40 ll1 lKL
    have HZ2 := Lib.hid hz2
    clear hz2
    obtain ⟨Z3, hz3, cc3, ss3, ll3⟩ := cat2 nm Z2 40 120 lnm ll2
    have HZ3 := Lib.hid hz3
    clear hz3
    go_wp2
    refine wp_region_grow (by kernel_rfl) (by kernel_rfl) ?_
    repeat (go_big_quiet_step (first | (go_at_call 26; with_reducible exact grw_call (HRd.out _)) | (go_at_call 26; with_reducible exact grw_call (HRs.out _)) | (go_at_call 26; with_reducible exact grw_call (HRt.out _)) | (go_at_call 26; with_reducible exact grw_call (HRu.out _))))
    refine wpQuiet_nil ?_
    rintro y ⟨⟨_, hy⟩, rfl⟩
    go_wp2
    go_ret
    refine ⟨ret_bs ?_, hb.trans (hy.mono (Nat.le_of_lt hlt))⟩
    rw [HZ3.out, HZ2.out, HZ1.out, HT.out, HNM.out, HRD.out, HRS.out, HKL.out, HDK.out]
    exact (txt_4 dn sn tn un an kn pn).symm
  · skip
    obtain ⟨Z1, hz1, cc1, ss1, ll1⟩ := cat2 RD RS 40 40 lRD lRS
    have HZ1 := Lib.hid hz1
    clear hz1
    obtain ⟨Z2, hz2, cc2, ss2, ll2⟩ := cat2 Z1 KL 80 40 ll1 lKL
    have HZ2 := Lib.hid hz2
    clear hz2
    obtain ⟨Z3, hz3, cc3, ss3, ll3⟩ := cat2 nm Z2 40 120 lnm ll2
    have HZ3 := Lib.hid hz3
    clear hz3
    go_wp2
    refine wp_region_grow (by kernel_rfl) (by kernel_rfl) ?_
    repeat (go_big_quiet_step (first | (go_at_call 26; with_reducible exact grw_call (HRd.out _)) | (go_at_call 26; with_reducible exact grw_call (HRs.out _)) | (go_at_call 26; with_reducible exact grw_call (HRt.out _)) | (go_at_call 26; with_reducible exact grw_call (HRu.out _))))
    refine wpQuiet_nil ?_
    rintro y ⟨⟨_, hy⟩, rfl⟩
    go_wp2
    go_ret
    refine ⟨ret_bs ?_, hb.trans (hy.mono (Nat.le_of_lt hlt))⟩
    rw [HZ3.out, HZ2.out, HZ1.out, HT.out, HNM.out, HRD.out, HRS.out, HKL.out, HDK.out]
    exact (txt_5 dn sn tn un an kn pn).symm
  · skip
    obtain ⟨Z1, hz1, cc1, ss1, ll1⟩ := cat2 RD RS 40 40 lRD lRS
    have HZ1 := Lib.hid hz1
    clear hz1
    obtain ⟨Z2, hz2, cc2, ss2, ll2⟩ := cat2 Z1 KL 80 40 ll1 lKL
    have HZ2 := Lib.hid hz2
    clear hz2
    obtain ⟨Z3, hz3, cc3, ss3, ll3⟩ := cat2 nm Z2 40 120 lnm ll2
    have HZ3 := Lib.hid hz3
    clear hz3
    go_wp2
    refine wp_region_grow (by kernel_rfl) (by kernel_rfl) ?_
    repeat (go_big_quiet_step (first | (go_at_call 26; with_reducible exact grw_call (HRd.out _)) | (go_at_call 26; with_reducible exact grw_call (HRs.out _)) | (go_at_call 26; with_reducible exact grw_call (HRt.out _)) | (go_at_call 26; with_reducible exact grw_call (HRu.out _))))
    refine wpQuiet_nil ?_
    rintro y ⟨⟨_, hy⟩, rfl⟩
    go_wp2
    go_ret
    refine ⟨ret_bs ?_, hb.trans (hy.mono (Nat.le_of_lt hlt))⟩
    rw [HZ3.out, HZ2.out, HZ1.out, HT.out, HNM.out, HRD.out, HRS.out, HKL.out, HDK.out]
    exact (txt_6 dn sn tn un an kn pn).symm
  · skip
    obtain ⟨Z1, hz1, cc1, ss1, ll1⟩ := cat2 RD RS 40 40 lRD lRS
    have HZ1 := Lib.hid hz1
    clear hz1
    obtain ⟨Z2, hz2, cc2, ss2, ll2⟩ := cat2 Z1 RT 80 40 ll1 lRT
    have HZ2 := Lib.hid hz2
    clear hz2
    obtain ⟨Z3, hz3, cc3, ss3, ll3⟩ := cat2 nm Z2 40 120 lnm ll2
    have HZ3 := Lib.hid hz3
    clear hz3
    go_wp2
    refine wp_region_grow (by kernel_rfl) (by kernel_rfl) ?_
    repeat (go_big_quiet_step (first | (go_at_call 26; with_reducible exact grw_call (HRd.out _)) | (go_at_call 26; with_reducible exact grw_call (HRs.out _)) | (go_at_call 26; with_reducible exact grw_call (HRt.out _)) | (go_at_call 26; with_reducible exact grw_call (HRu.out _))))
    refine wpQuiet_nil ?_
    rintro y ⟨⟨_, hy⟩, rfl⟩
    go_wp2
    go_ret
    refine ⟨ret_bs ?_, hb.trans (hy.mono (Nat.le_of_lt hlt))⟩
    rw [HZ3.out, HZ2.out, HZ1.out, HT.out, HNM.out, HRD.out, HRS.out, HRT.out]
    exact (txt_7 dn sn tn un an kn pn).symm
  · skip
    obtain ⟨Z1, hz1, cc1, ss1, ll1⟩ := cat2 RS RT 40 40 lRS lRT
    have HZ1 := Lib.hid hz1
    clear hz1
    obtain ⟨Z2, hz2, cc2, ss2, ll2⟩ := cat2 Z1 PL 80 40 ll1 lPL
    have HZ2 := Lib.hid hz2
    clear hz2
    obtain ⟨Z3, hz3, cc3, ss3, ll3⟩ := cat2 nm Z2 40 120 lnm ll2
    have HZ3 := Lib.hid hz3
    clear hz3
    go_wp2
    refine wp_region_grow (by kernel_rfl) (by kernel_rfl) ?_
    repeat (go_big_quiet_step (first | (go_at_call 26; with_reducible exact grw_call (HRd.out _)) | (go_at_call 26; with_reducible exact grw_call (HRs.out _)) | (go_at_call 26; with_reducible exact grw_call (HRt.out _)) | (go_at_call 26; with_reducible exact grw_call (HRu.out _))))
    refine wpQuiet_nil ?_
    rintro y ⟨⟨_, hy⟩, rfl⟩
    go_wp2
    go_ret
    refine ⟨ret_bs ?_, hb.trans (hy.mono (Nat.le_of_lt hlt))⟩
    rw [HZ3.out, HZ2.out, HZ1.out, HT.out, HNM.out, HRS.out, HRT.out, HPL.out, HDP.out]
    exact (txt_8 dn sn tn un an kn pn).symm
  · skip
    obtain ⟨Z1, hz1, cc1, ss1, ll1⟩ := cat2 RS RT 40 40 lRS lRT
    have HZ1 := Lib.hid hz1
    clear hz1
    obtain ⟨Z2, hz2, cc2, ss2, ll2⟩ := cat2 Z1 PL 80 40 ll1 lPL
    have HZ2 := Lib.hid hz2
    clear hz2
    obtain ⟨Z3, hz3, cc3, ss3, ll3⟩ := cat2 nm Z2 40 120 lnm ll2
    have HZ3 := Lib.hid hz3
    clear hz3
    go_wp2
    refine wp_region_grow (by kernel_rfl) (by kernel_rfl) ?_
    repeat (go_big_quiet_step (first | (go_at_call 26; with_reducible exact grw_call (HRd.out _)) | (go_at_call 26; with_reducible exact grw_call (HRs.out _)) | (go_at_call 26; with_reducible exact grw_call (HRt.out _)) | (go_at_call 26; with_reducible exact grw_call (HRu.out _))))
    refine wpQuiet_nil ?_
    rintro y ⟨⟨_, hy⟩, rfl⟩
    go_wp2
    go_ret
    refine ⟨ret_bs ?_, hb.trans (hy.mono (Nat.le_of_lt hlt))⟩
    rw [HZ3.out, HZ2.out, HZ1.out, HT.out, HNM.out, HRS.out, HRT.out, HPL.out, HDP.out]
    exact (txt_9 dn sn tn un an kn pn).symm
  · skip
    obtain ⟨Z1, hz1, cc1, ss1, ll1⟩ := cat2 nm PL 40 40 lnm lPL
    have HZ1 := Lib.hid hz1
    clear hz1
    go_wp2
    go_ret
    refine ⟨ret_bs ?_, hb⟩
    rw [HZ1.out, HT.out, HNM.out, HPL.out, HDP.out]
    exact (txt_10 dn sn tn un an kn pn).symm

end Go.Proofs.YtgbblpmdoacinaaDoor
