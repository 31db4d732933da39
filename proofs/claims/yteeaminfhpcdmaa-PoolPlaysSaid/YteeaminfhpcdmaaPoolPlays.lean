/- For every two ints and every list of calls: PoolPlays returns true, so whatever nodes are taken and come back, by whatever handles, each answer, and what is out, is what the document says; no condition. -/
import Derived.Test.YteeaminfhpcdmaaPoolBoth
import Derived.Test.YteeaminfhpcdmaaRecs
import Derived.Deep.DeepCutAuto
import Derived.Deep.LoopGhost
import Derived.WalkKit
import Derived.ProofKit
import Derived.OpenShut
import Derived.ChangeOld
namespace Go.Proofs.Yteeaminfhpcdmaa.poolPlays
open Go.ChangeShapes Go.WideShapes Go.ChangeAt Go.RowKit
set_option linter.unusedVariables false

theorem own : ownKnob Try.prog.godebug = none := by kernel_rfl
theorem laidOut : laidOutB Try.prog = true := by kernel_rfl

/-- What the cells of a call are: Back, T, Own, H. -/
def Cell2 (j : Nat) (u : Value) : Prop :=
  match j with
  | 0 => ∃ b, u = .bool b
  | 1 => ∃ x, u = .int .i64 x ∧ (Lit.int .i64 x).wf = true
  | 2 => ∃ x, u = .int .i64 x ∧ (Lit.int .i64 x).wf = true
  | 3 => ∃ x, u = .int .u32 x ∧ (Lit.int .u32 x).wf = true
  | _ => True

theorem flip {P : Program} {f : FuncId} {args : Array Value} {w : World} {X : Ending} (h : Calls P f args w fun e w' => e = X ∧ w = w') : Calls P f args w fun e w' => e = X ∧ w' = w := h.mono fun _ _ ⟨a, b⟩ => ⟨a, b.symm⟩

set_option maxHeartbeats 4000000 in
set_option maxRecDepth 100000 in
theorem walk (x0 x1 : Int) (a2 : Option Addr) (len cap2 : Nat) (w : World) (w0 : (Lit.int .i64 x0).wf = true) (w1 : (Lit.int .i64 x1).wf = true) (g2 : Recs w a2 len 4 Cell2) (hm : len ≤ maxLen) :
    Calls Try.prog 3 #[.int .i64 x0, .int .i64 x1, .slice a2 len cap2] w fun e w' => e = .returned (.bool true) ∧ Below w.heap.size w w' := by
  unfold maxLen at hm
  by_cases h100 : 100 < len
  · go_enter Try.func3, Try.ntmps3
    go_wp2_with fail
    refine (lAwake _).mono ?_
    rintro e w2 ⟨rfl, hw2⟩
    go_wp2
    go_ret
    exact ⟨rfl, below_of_grown hw2⟩
  by_cases hbad : x0 < 1 ∨ 64 < x0 ∨ x1 < 0 ∨ 8 < x1
  · have HB := Lib.hid hbad
    clear hbad
    go_enter Try.func3, Try.ntmps3
    go_wp2_with fail
    refine (pNewBad x0 x1 HB.out _).mono ?_
    rintro e w2 ⟨rfl, rfl⟩
    go_wp2_with fail
    refine (rNewBad05 x0 x1 HB.out _).mono ?_
    rintro e w2 ⟨rfl, rfl⟩
    go_wp2_with fail
    refine (lAwake _).mono ?_
    rintro e w2 ⟨rfl, hw2⟩
    go_wp2
    go_ret
    exact ⟨rfl, below_of_grown hw2⟩
  obtain ⟨n, rfl⟩ := Int.eq_ofNat_of_zero_le (show 0 ≤ x0 by omega)
  obtain ⟨each, rfl⟩ := Int.eq_ofNat_of_zero_le (show 0 ≤ x1 by omega)
  have hn1 : 1 ≤ n := by omega
  have hn2 : n ≤ 64 := by omega
  have he8 : each ≤ 8 := by omega
  clear hbad w0 w1
  go_enter Try.func3, Try.ntmps3
  go_wp2_with fail
  refine (plNew n each hn1 hn2 he8 w).mono ?_
  rintro e wA ⟨p, M, rfl, hpl, hgA, hMA, hpA, hgg⟩
  go_wp2_with fail
  refine (rfNew n each hn1 hn2 he8 wA).mono ?_
  rintro e wB ⟨x, R, rfl, hmk⟩
  have hSt : St w p x n each (.slice none 0 0) [] wB := by
    have hs := hgA.size
    refine ⟨M, R, _, _, _, _, _, _, hpl.grown hmk.gr, hmk.rf, same_new n each hn2 he8, Lst.nil _ _ _, fun z hz => (by simp at hz), fun g e => (by cases e), grown_then hgA hmk.gr (.inl rfl), hMA, fun i hi => ?_⟩
    have := hmk.new i hi
    omega
  clear hpl hgA hMA hpA hgg hmk
  have HSt := Lib.hid hSt
  clear hSt
  go_wp2
  go_loopg [10, 59] len (fun gk v j wr => ∃ (k : Nat) (hv : Value) (had : List Int), k ≤ len ∧ gk = len - k ∧ j = .int .i64 k ∧ v = hv ∧ had.length ≤ k ∧ St w p x n each hv had wr)
  case atStart => exact ⟨0, _, [], Nat.zero_le _, rfl, rfl, rfl, Nat.le_refl _, HSt.out⟩
  case round =>
    clear HSt
    obtain ⟨k, hv, had, hk, rfl, rfl, rfl, hhl, hSt⟩ := hrel
    generalize u10 = hv at *
    by_cases hlt : k < len
    · obtain ⟨M, R, free, gen, out, fr, os, c, hp, hr, hsm, hh⟩ := hSt.ex
      obtain ⟨bb, off, rfl, hcs⟩ := g2.at_ hlt (below_of_grown hh.gr)
      obtain ⟨_, r0, is, rfl⟩ := hcs 0 (by omega)
      obtain ⟨_, r1, T, rfl, hT⟩ := hcs 1 (by omega)
      obtain ⟨_, r2, W, rfl, hW⟩ := hcs 2 (by omega)
      obtain ⟨_, r3, H, rfl, hH⟩ := hcs 3 (by omega)
      clear hcs hSt
      rw [Nat.add_zero] at r0
      obtain ⟨H0, H1⟩ := u32_bounds hH
      have hB := Bk.made wr 33 #[.bool is, .int .i64 T, .int .i64 W, .int .u32 H]
      have hA := grown_made wr (.cells #[.bool is, .int .i64 T, .int .i64 W, .int .u32 H] 33) none
      have hB0 := hB.cell 0
      have hB3 := hB.cell 3
      simp only [List.getElem?_toArray, List.getElem?_cons_zero, List.getElem?_cons_succ] at hB0 hB3
      go_upto_if 66 with fail
      clear r0 r1 r2 r3 hB0 hB3 g2
      have hpA := hp.grown hA
      have hrA := hr.grown hA
      have hhA := hh.grown hA
      have hxq : wr.heap.size < (wr.alloc (.cells #[.bool is, .int .i64 T, .int .i64 W, .int .u32 H] 33)).heap.size := by simp
      clear hp hr hh hA
      generalize wr.alloc (.cells #[.bool is, .int .i64 T, .int .i64 W, .int .u32 H] 33) = wa at hB hpA hrA hhA hxq ⊢
      generalize wr.heap.size = qb at hB hxq ⊢
      clear hxq
      go_cut [10, 13] (fun v h wx => ∃ (hv2 : Value) (had2 : List Int) (y : Int), v = hv2 ∧ h = .int .u32 y ∧ 0 ≤ y ∧ y < 4294967296 ∧ had2.length ≤ k + 1 ∧ St w p x n each hv2 had2 wx ∧ Bk wx qb 33 #[.bool is, .int .i64 T, .int .i64 W, .int .u32 H])
      case first =>
       as_aux_lemma =>
        have hN := hsm.le
        have hlG := hsm.lenG
        have hlO := hsm.lenO
        have hB0 := hB.cell 0
        have hB1 := hB.cell 1
        have hB2 := hB.cell 2
        simp only [List.getElem?_toArray, List.getElem?_cons_zero, List.getElem?_cons_succ] at hB0 hB1 hB2
        cases is with
        | true =>
          obtain ⟨ha, hcap, hvE, hvc, hvm, hvat⟩ := hhA.lst.is
          subst hvE
          have HB := Lib.hid hB
          clear hB
          obtain ⟨y, y0, y1, hown⟩ : ∃ y : Int, 0 ≤ y ∧ y < 4294967296 ∧ ((W < 1 ∧ y = H) ∨ (1 ≤ W ∧ (had.length : Int) < W ∧ y = H) ∨ ∃ z : Nat, W = (z : Int) + 1 ∧ z < had.length ∧ nth had z = y) := by
            rcases (show W < 1 ∨ (1 ≤ W ∧ (had.length : Int) < W) ∨ (1 ≤ W ∧ W ≤ had.length) by omega) with h | ⟨h, h'⟩ | ⟨h, h'⟩
            · exact ⟨H, H0, H1, .inl ⟨h, rfl⟩⟩
            · exact ⟨H, H0, H1, .inr (.inl ⟨h, h', rfl⟩)⟩
            · exact ⟨nth had (W - 1).toNat, (hhA.u32.at_ _).1, (hhA.u32.at_ _).2, .inr (.inr ⟨(W - 1).toNat, by omega, by omega, rfl⟩)⟩
          have hI := plIs hpA y y0 y1
          have hJ := rfIs hrA hlG hlO hN hsm.gens hsm.outs y y0 y1
          have hos := hsm.oss y y0 y1
          rw [hos] at hI
          generalize hbI : isO (n * each) gen out y = bI at hI hJ hos
          have HBI := Lib.hid hbI
          have HOS := Lib.hid hos
          have HI := Lib.hid hI
          have HJ := Lib.hid hJ
          clear hbI hos hI hJ
          rcases hown with ⟨hW1, hyH⟩ | ⟨hW1, hW2, hyH⟩ | ⟨z, rfl, hzl, hzy⟩
          case' inl =>
            subst hyH
            go_wp2_with fail
          case' inr.inl =>
            subst hyH
            go_wp2_with fail
          case' inr.inr =>
            obtain ⟨g, rfl, _, _, hcell⟩ := hvat (by omega)
            have hcz := hcell z hzl
            rw [hzy] at hcz
            have HZ := Lib.hid hzy
            have b1 : (z : Int) < had.length := by omega
            have d1 : decide ((1 : Int) ≤ (z : Int) + 1) = true := by simp; omega
            have d2 : decide ((z : Int) + 1 ≤ (had.length : Int)) = true := by simp; omega
            clear hcell hvat hzy
            go_wp2_with fail
          all_goals
            refine HI.out.mono ?_
            rintro e w2 ⟨rfl, rfl⟩
            go_wp2_with fail
            refine HJ.out.mono ?_
            rintro e w2 ⟨rfl, rfl⟩
            rcases (show y = 0 ∨ (y ≠ 0 ∧ bI = false) ∨ (y ≠ 0 ∧ bI = true) by cases bI <;> simp <;> omega) with hy | ⟨hy, hbI⟩ | ⟨hy, hbI⟩
            · subst hy
              have hSt : St w p x n each _ had wa := ⟨_, _, _, _, _, _, _, _, hpA, hrA, hsm, hhA⟩
              have HSt := Lib.hid hSt
              clear hSt HBI HOS HI HJ hsm
              go_wp2_with fail
              refine plFree0.mono ?_
              rintro e w2 ⟨rfl, rfl⟩
              go_wp2_with fail
              refine rfBack0.mono ?_
              rintro e w2 ⟨rfl, rfl⟩
              go_wp2_with fail
              go_meet
              exact ⟨_, had, 0, rfl, rfl, by omega, by omega, by omega, HSt.out, HB.out⟩
            · subst hbI
              have hF := plFreeNo hpA y y0 y1 HOS.out hy
              have hK := fun m => rfBackNo (hrA.drewN m) hlG hlO hN hsm.gens hsm.outs y y0 y1 HBI.out hy
              have HSt := Lib.hid (fun m => (⟨_, _, _, _, _, _, _, _, hpA.drewN m, hrA.drewN m, hsm, hhA.drewN m⟩ : St w p x n each _ had (wa.drewN m)))
              have HF := Lib.hid hF
              have HK := Lib.hid hK
              clear hF hK HBI HOS HI HJ hsm
              go_wp2_with fail
              refine HF.out.mono ?_
              rintro e w2 ⟨rfl, m, rfl⟩
              go_wp2_with fail
              refine (HK.out m).mono ?_
              rintro e w2 ⟨rfl, rfl⟩
              go_wp2_with fail
              go_meet
              exact ⟨_, had, y, rfl, rfl, y0, y1, by omega, HSt.out m, HB.out.drewN m⟩
            · subst hbI
              obtain ⟨t, i, ht, hi, he, hlen, hc1, hsm2⟩ := hsm.back y0 y1 HOS.out
              have hF := plFree hpA y y0 y1 HOS.out hi ht he hlen
              have hlf : (free t).length ≤ 8 := by
                have h1 := hsm.frs t ht
                rw [h1, List.length_map] at hlen
                omega
              have hqN : t * each + i < n * each := hsm.in_ ht (by omega)
              have HG := Lib.hid hsm.gens
              have HO := Lib.hid hsm.outs
              have HF := Lib.hid hF
              have HM := Lib.hid hsm2
              have HE := Lib.hid he
              have HQN := Lib.hid hqN
              clear hF hsm hsm2 HOS HI HJ he hlen hqN
              go_wp2_with fail
              refine HF.out.mono ?_
              clear HF
              rintro e w2 ⟨M2, rfl, hp2, s2⟩
              have hr2 := hrA.stays hpA s2
              have hh2 := hhA.stays s2
              have hB2' := HB.out.within s2.2.1 (hpA.not_has HB.out (by decide) (by decide))
              have HB2 := Lib.hid hB2'
              clear hpA hrA hhA s2 hB0 hB1 hB2 hB2'
              go_wp2_with fail
              refine (rfBack hr2 hn2 he8 hlG hlO hN HG.out HO.out y y0 y1 HBI.out ht hi HQN.out HE.out hlf).mono ?_
              rintro e w3 ⟨R3, rfl, hr3, s3⟩
              have hSt : St w p x n each _ had w3 := ⟨_, _, _, _, _, _, _, _, hp2.rstays hr2 s3, hr3, HM.out, hh2.rstays hr2 s3⟩
              have hB3' := HB2.out.within s3.1 (hr2.not_has HB2.out (by decide) (by decide))
              have HB3 := Lib.hid hB3'
              have HSt := Lib.hid hSt
              clear hp2 hr2 hh2 s3 hB3' hSt hr3
              go_wp2_with fail
              go_meet
              exact ⟨_, had, y, rfl, rfl, y0, y1, by omega, HSt.out, HB3.out⟩
        | false =>
          rcases (show (T < 0 ∨ n ≤ T) ∨ (0 ≤ T ∧ T < n) by omega) with hbad | ⟨hT0, hT1⟩
          · have hlt6 : had.length < 1000000 := by omega
            have HB := Lib.hid hB
            have HM := Lib.hid hsm
            have HBAD := Lib.hid hbad
            clear hB hsm hbad
            go_wp2_with fail
            refine (plTakeNo hpA T HBAD.out).mono ?_
            rintro e w2 ⟨rfl, rfl⟩
            go_wp2_with fail
            refine (rfTakeNo hrA hn1 T HBAD.out).mono ?_
            rintro e w2 ⟨rfl, rfl⟩
            go_wp2_with (first | (at_builtin; refine wpLstApp rfl _ _ 30 rfl 4 Try.underlying30 u32info (by omega) hhA.lst rfl 0 rfl hlt6 ?_))
            intro hv2 w4 hL4 g4 loc4
            have hSt : St w p x n each hv2 (had ++ [0]) w4 := ⟨_, _, _, _, _, _, _, _, hhA.pl hpA g4, hhA.rf hrA g4, HM.out, hhA.more hpA (by omega) (by omega) g4 hL4 loc4⟩
            have hB4 := hhA.bk g4 HB.out (by decide)
            have HSt := Lib.hid hSt
            have HB4 := Lib.hid hB4
            clear hSt hB4 hL4 g4 loc4 hpA hrA hhA
            go_wp2_with fail
            go_meet
            exact ⟨hv2, _, 0, rfl, rfl, by omega, by omega, by simp; omega, HSt.out, HB4.out⟩
          · obtain ⟨t, rfl⟩ := Int.eq_ofNat_of_zero_le hT0
            have ht : t < n := by omega
            have hlt6 : had.length < 1000000 := by omega
            have HB := Lib.hid hB
            clear hB hT0 hT1 hT
            cases hft : free t with
            | nil =>
              have hfr0 : fr t = [] := by rw [hsm.frs t ht, hft]; rfl
              have HFR := Lib.hid hfr0
              have HFT := Lib.hid hft
              have HM := Lib.hid hsm
              clear hsm hfr0 hft
              go_wp2_with fail
              refine (plTakeNone hpA t ht HFR.out).mono ?_
              rintro e w2 ⟨rfl, rfl⟩
              go_wp2_with fail
              refine (rfTakeNone hrA hn2 t ht HFT.out).mono ?_
              rintro e w2 ⟨rfl, rfl⟩
              go_wp2_with (first | (at_builtin; refine wpLstApp rfl _ _ 30 rfl 4 Try.underlying30 u32info (by omega) hhA.lst rfl 0 rfl hlt6 ?_))
              intro hv2 w4 hL4 g4 loc4
              have hSt : St w p x n each hv2 (had ++ [0]) w4 := ⟨_, _, _, _, _, _, _, _, hhA.pl hpA g4, hhA.rf hrA g4, HM.out, hhA.more hpA (by omega) (by omega) g4 hL4 loc4⟩
              have hB4 := hhA.bk g4 HB.out (by decide)
              have HSt := Lib.hid hSt
              have HB4 := Lib.hid hB4
              clear hSt hB4 hL4 g4 loc4 hpA hrA hhA
              go_wp2_with fail
              go_meet
              exact ⟨hv2, _, 0, rfl, rfl, by omega, by omega, by simp; omega, HSt.out, HB4.out⟩
            | cons q rest =>
              obtain ⟨hq, _, hfr, hos, hsm2⟩ := hsm.take ht hft
              obtain ⟨y0, y1, _, _⟩ := hdl_facts hsm.gens (q := q) (by omega)
              have hcn : c < 1000000 := by
                have h1 := hsm.cnt
                have h2 := (sumTo_le hsm.outs (n * each)).2
                omega
              have HG := Lib.hid hsm.gens
              have HM := Lib.hid hsm2
              have HT := Lib.hid (plTake hpA hcn t ht hfr (by omega) y1 hos)
              have HFT := Lib.hid hft
              clear hsm hsm2 hfr hos hft
              go_wp2_with fail
              refine HT.out.mono ?_
              clear HT
              rintro e w2 ⟨M2, rfl, hp2, s2⟩
              have hr2 := hrA.stays hpA s2
              have hh2 := hhA.stays s2
              have hB2' := HB.out.within s2.2.1 (hpA.not_has HB.out (by decide) (by decide))
              clear hpA hrA hhA s2 hB0 hB1 hB2
              have hC1 := hB2'.cell 1
              simp only [List.getElem?_toArray, List.getElem?_cons_zero, List.getElem?_cons_succ] at hC1
              have HB2 := Lib.hid hB2'
              clear hB2'
              go_wp2_with fail
              refine (rfTake hr2 hn2 t ht HFT.out hlG hlO hN HG.out hq).mono ?_
              rintro e w3 ⟨R3, rfl, hr3, s3⟩
              have hp3 := hp2.rstays hr2 s3
              have hh3 := hh2.rstays hr2 s3
              have hB3' := HB2.out.within s3.1 (hr2.not_has HB2.out (by decide) (by decide))
              have HB3 := Lib.hid hB3'
              clear hp2 hr2 hh2 s3 hC1 hB3'
              generalize hY : hdl gen q = y at y0 y1 ⊢
              have HY := Lib.hid hY
              clear hY
              go_wp2_with (first | (at_builtin; refine wpLstApp rfl _ _ 30 rfl 4 Try.underlying30 u32info (by omega) hh3.lst rfl y rfl hlt6 ?_))
              intro hv2 w4 hL4 g4 loc4
              have hSt : St w p x n each hv2 (had ++ [y]) w4 := ⟨_, _, _, _, _, _, _, _, hh3.pl hp3 g4, hh3.rf hr3 g4, HM.out, hh3.more hp3 (by omega) y1 g4 hL4 loc4⟩
              have hB4 := hh3.bk g4 HB3.out (by decide)
              have HSt := Lib.hid hSt
              have HB4 := Lib.hid hB4
              clear hSt hB4 hL4 g4 loc4 hp3 hr3 hh3
              go_wp2_with fail
              go_meet
              exact ⟨hv2, _, y, rfl, rfl, by omega, y1, by simp; omega, HSt.out, HB4.out⟩
      case rest =>
       as_aux_lemma =>
        clear hpA hrA hhA hsm hB hhl
        obtain ⟨hv2, had2, y, rfl, rfl, y0, y1, hl2, hSt2, hB2⟩ := hcut
        generalize u10 = hv2 at *
        clear M R free gen out fr os c
        obtain ⟨M, R, free, gen, out, fr, os, c, hp, hr, hsm, hh⟩ := hSt2.ex
        have hN := hsm.le
        have hlG := hsm.lenG
        have hlO := hsm.lenO
        have HSt := Lib.hid hSt2
        have HG := Lib.hid hsm.gens
        have HO := Lib.hid hsm.outs
        have HLE := Lib.hid (sumTo_le hsm.outs)
        have HC := Lib.hid hsm.cnt
        have HS := Lib.hid hsm
        have HR := Lib.hid hr
        have HP := Lib.hid hp
        have hsame : os y = isO (n * each) gen out y := hsm.oss y y0 y1
        have HOS := Lib.hid hsame
        clear hSt2 hsm hh hsame
        have c0 := hr.c0
        have c3 := hr.c3
        obtain ⟨aO, capO, eO, o1, o2, o3⟩ := hr.ovIs
        rw [eO] at c3
        rw [hlO] at c3 o1 o3
        obtain ⟨hnode⟩ : Nonempty ((y % 4096 < 1) ∨ (1 ≤ y % 4096 ∧ ((n * each : Nat) : Int) < y % 4096) ∨ ∃ t' i' : Nat, t' < n ∧ i' < each ∧ y % 4096 = ((t' * each + i' + 1 : Nat) : Int)) := by
          by_cases hno : NoNode n each y
          · unfold NoNode at hno
            exact ⟨by omega⟩
          · obtain ⟨t', i', ht', hi', hx'⟩ := node_or n each y hno
            exact ⟨.inr (.inr ⟨t', i', ht', hi', hx'⟩)⟩
        clear hr eO
        rcases hnode with hA | ⟨hA1, hA2⟩ | ⟨t', i', ht', hi', hx'⟩
        case' inl =>
          have HOw := Lib.hid (plOwnerNo hp y y0 y1 (.inl hA))
          generalize n * each = N at *
          clear hp
          go_wp2_with fail
          refine (rIndex y y0 y1 _).mono ?_
          rintro e w2 ⟨rfl, rfl⟩
          go_wp2_with fail
          refine HOw.out.mono ?_
          rintro e w2 ⟨rfl, m, rfl⟩
          go_wp2_with fail
        case' inr.inl =>
          have HOw := Lib.hid (plOwnerNo hp y y0 y1 (.inr hA2))
          generalize n * each = N at *
          clear hp
          go_wp2_with fail
          refine (rIndex y y0 y1 _).mono ?_
          rintro e w2 ⟨rfl, rfl⟩
          go_wp2_with fail
          refine HOw.out.mono ?_
          rintro e w2 ⟨rfl, m, rfl⟩
          go_wp2_with fail
        case' inr.inr =>
          have HOw := Lib.hid (plOwner hp y y0 y1 hi' ht' hx')
          have hquo : (((t' * each + i' : Nat) : Int)).tdiv (each : Int) = (t' : Int) := by
            rw [← Int.ofNat_tdiv, Nat.mul_comm, Nat.mul_add_div (by omega), Nat.div_eq_of_lt hi', Nat.add_zero]
          have hqN : t' * each + i' < n * each := HS.out.in_ ht' (by omega)
          have hez : ¬ (each : Int) = 0 := by omega
          have hIx : ∀ W, Calls Try.prog 16 #[.int .u32 y] W fun e w' => e = .returned (.int .i64 (((t' * each + i' : Nat) : Int) + 1)) ∧ W = w' := fun W => by
            have := rIndex y y0 y1 W
            rw [show y % 4096 = ((t' * each + i' : Nat) : Int) + 1 by omega] at this
            exact this
          have HIx := Lib.hid hIx
          clear hx' hIx
          generalize t' * each + i' = Q at *
          generalize n * each = N at *
          have d1 : decide ((1 : Int) ≤ (Q : Int) + 1) = true := by simp; omega
          have d2 : decide ((Q : Int) + 1 ≤ (N : Int)) = true := by simp; omega
          clear hp
          go_wp2_with fail
          refine (HIx.out _).mono ?_
          rintro e w2 ⟨rfl, rfl⟩
          go_wp2_with fail
          refine HOw.out.mono ?_
          rintro e w2 ⟨rfl, m, rfl⟩
          go_wp2_with fail
        all_goals
          clear c0 c3 HOw
          go_loopw [22, 175] (fun s i wq => ∃ j : Nat, j ≤ N ∧ i = .int .i64 j ∧ s = .int .i64 (sumTo out j) ∧ wq = wc.drewN m) (fun _ i _ => N - (intOf i).toNat)
          case atStart => exact ⟨0, Nat.zero_le _, rfl, rfl, rfl⟩
          case round =>
            obtain ⟨j, hj, rfl, rfl, rfl⟩ := hrel
            by_cases hjN : j < N
            · obtain ⟨O, rfl, _, _, cO⟩ := o3 (by omega)
              have hcj : (wc.drewN m).cell? ⟨O, j, none⟩ = some (.int .i64 (nth out j)) := cO j hjN
              have h1 := HLE.out j
              have h2 := HO.out j
              have h3 : sumTo out (j + 1) = sumTo out j + nth out j := rfl
              generalize sumTo out j = s at *
              generalize nth out j = z at *
              have HT3 := Lib.hid h3
              clear cO o3 h3
              go_wp2
              go_roundw
              case rel => exact ⟨j + 1, by omega, by go_num, by first | (rw [HT3.out]; done) | (rw [HT3.out]; go_num), trivial⟩
              case measure => simp [intOf]; omega
            · obtain rfl : j = N := by omega
              have hpd := HP.out.drewN m
              have hrd := HR.out.drewN m
              have hBd := hB2.drewN m
              have hSd : St w p x n each hv2 had2 (wc.drewN m) := by
                obtain ⟨M', R', f', g', o', fr', os', c', q1, q2, q3, q4⟩ := HSt.out.ex
                exact ⟨M', R', f', g', o', fr', os', c', q1.drewN m, q2.drewN m, q3, q4.drewN m⟩
              have hB1 := hBd.cell 1
              simp only [List.getElem?_toArray, List.getElem?_cons_zero, List.getElem?_cons_succ] at hB1
              clear o3 hB2 HR HP HSt HLE
              generalize wc.drewN m = wd at *
              have hTo := fun m => flip (plTotal (hpd.drewN m))
              rw [HC.out] at hTo
              have hI1 := fun m => flip (plIs (hpd.drewN m) y y0 y1)
              rw [HOS.out] at hI1
              have hI2 := fun m => flip (rfIs (hrd.drewN m) hlG hlO hN HG.out HO.out y y0 y1)
              generalize sumTo out j = s at *
              generalize isO j gen out y = bI at *
              have HTo := Lib.hid hTo
              have HI1 := Lib.hid hI1
              have HI2 := Lib.hid hI2
              clear hTo hI1 hI2
              have HSd := Lib.hid hSd
              clear hSd
              obtain ⟨V, hO1, hO2⟩ : ∃ V : Int, (∀ m, Calls Try.prog 19 #[.pointer (some ⟨p, 0, none⟩), .int .i64 T] (wd.drewN m) fun e w' => e = .returned (.int .i64 V) ∧ ∃ m', w' = (wd.drewN m).drewN m') ∧
                  (∀ m, Calls Try.prog 20 #[.pointer (some ⟨x, 0, none⟩), .int .i64 T] (wd.drewN m) fun e w' => e = .returned (.int .i64 V) ∧ ∃ m', w' = (wd.drewN m).drewN m') := by
                rcases (show (T < 0 ∨ n ≤ T) ∨ (0 ≤ T ∧ T < n) by omega) with hbad | ⟨hT0, hT1⟩
                · exact ⟨0, fun m => (plOutNo (hpd.drewN m) T hbad).mono fun e w' ⟨h1, h2⟩ => ⟨h1, 0, h2.symm⟩, fun m => (rfManyNo (hrd.drewN m) hn1 T hbad).mono fun e w' ⟨h1, h2⟩ => ⟨h1, 0, h2.symm⟩⟩
                · obtain ⟨t, rfl⟩ := Int.eq_ofNat_of_zero_le hT0
                  have ht : t < n := by omega
                  have hle : (fr t).length = (free t).length := by rw [HS.out.frs t ht, List.length_map]
                  have hl8 : (free t).length ≤ each := nodup_len each (t * each) (free t) (HS.out.dup t ht) (fun q hq => by have := HS.out.own t ht q hq; omega)
                  refine ⟨((each - (free t).length : Nat) : Int), fun m => ?_, fun m => rfMany (hrd.drewN m) hn2 he8 t ht hl8⟩
                  have := plOut (hpd.drewN m) t ht
                  rw [hle] at this
                  exact this
              have HO1 := Lib.hid hO1
              have HO2 := Lib.hid hO2
              clear hO1 hO2 hpd hrd HS HG HO hBd HC HOS
              go_wp2
              go_quiet (first | (go_at_call 18; exact Calls.quiet_of_same (HTo.out _)) | (go_at_call 19; exact Calls.quiet_of (HO1.out _)) | (go_at_call 20; exact Calls.quiet_of (HO2.out _)) | (go_at_call 10; exact Calls.quiet_of_same (HI1.out _)) | (go_at_call 11; exact Calls.quiet_of_same (HI2.out _)))
              clear HTo HO1 HO2 HI1 HI2 hB1
              go_wp2
              go_roundg (len - (k + 1))
              case measure => omega
              case rel =>
                refine ⟨k + 1, hv2, had2, by omega, rfl, by go_num, rfl, hl2, ?_⟩
                obtain ⟨M', R', f', g', o', fr', os', c', q1, q2, q3, q4⟩ := HSd.out.ex
                exact ⟨M', R', f', g', o', fr', os', c', q1.drewN _, q2.drewN _, q3, q4.drewN _⟩
    · obtain rfl : k = len := by omega
      obtain ⟨M', R', f', g', o', fr', os', c', q1, q2, q3, q4⟩ := hSt.ex
      have hg := q4.gr
      clear hSt q1 q2 q3 q4 g2
      go_wp2_with fail
      refine (lAwake _).mono ?_
      rintro e w5 ⟨rfl, hw5⟩
      go_wp2
      go_ret
      exact ⟨rfl, below_of_grown (grown_then hg hw5 (.inl rfl))⟩

set_option maxRecDepth 100000 in
theorem lifted (os : Os) (started : os.Started) (H : Type) (enc : TypeId × Value → H) :
    ReturnsInHanded {} Try.checked os 3 .any (Rows.poolPlaysSpec.pre6 enc Try.prog Try.f3 Rows.poolPlaysRow.domain false) (Rows.poolPlaysSpec.post enc Try.prog Try.f3 false true false false) := by
  refine returnsInHanded_of_change (C := Try.checked) own started (by kernel_rfl) Try.func3
    (ChangeSpec.witness6 (enc := enc) (C := Try.checked) false ⟨#[], #[.int .i64 0, .int .i64 0, .slice none 0 0], []⟩ 8 (by kernel_rfl) (by kernel_rfl) (by kernel_rfl) (by kernel_rfl)) ?_
  intro W base args ds gs before hval0 hW hcnd _
  have hval : ∀ (j : Nat) t v, Try.f3.params[j]? = some t → args[j]? = some v → Value.okWide Try.prog W .any base t v := hval0
  have hW' := hW
  obtain ⟨p, q, hA0, hV, rfl, hfz, hnd⟩ := hW
  have hA : DataW.TrodAll enc Try.prog W 0 (fun _ => true) true Try.f3.params.toList args.toList ds p := hA0
  rw [Try.params3] at hA hval
  obtain ⟨v0, vs0, d0, ds0, p0, q0, hargs, rfl, rfl, h0, r0⟩ := trodAll_cons hA
  obtain ⟨v1, vs1, d1, ds1, p1, q1, rfl, rfl, rfl, h1, r1⟩ := trodAll_cons r0
  obtain ⟨v2, vs2, d2, ds2, p2, q2, rfl, rfl, rfl, h2, r2⟩ := trodAll_cons r1
  obtain ⟨rfl, rfl, rfl⟩ := trodAll_nil r2
  obtain rfl : args = #[v0, v1, v2] := by cases args; simp_all
  obtain ⟨rfl, rfl⟩ := trodVars_none hV
  obtain ⟨x0, rfl, rfl, rfl, w0⟩ := open_int Try.underlying3 (hval 0 3 v0 rfl rfl) h0
  obtain ⟨x1, rfl, rfl, rfl, w1⟩ := open_int Try.underlying3 (hval 1 3 v1 rfl rfl) h1
  obtain ⟨a2, len2, cap2, rfl⟩ := okWide_slice Try.underlying22 (hval 2 22 v2 rfl rfl)
  have k2 := h2
  have lt2 : ∀ x ∈ p2, x.block < W.heap.size := by obtain ⟨m, hm⟩ := k2; exact DataW.trod_lt m _ _ _ hm
  obtain ⟨hb2, g2⟩ : len2 ≤ maxLen ∧ Recs W a2 len2 4 Cell2 := by
    obtain ⟨fuel, hf⟩ := h2
    obtain ⟨hle, hr⟩ := open_recs Try.underlying22 Try.underlying33 (by kernel_rfl) (by kernel_rfl) (by decide) (by simpa [Value.cells] using hf)
    refine ⟨hle, fun h0 => ?_⟩
    obtain ⟨b, off, e, hlt, hc⟩ := hr h0
    refine ⟨b, off, e, hlt, fun i hi j hj => ?_⟩
    obtain ⟨u, hu, hw⟩ := hc i hi j hj
    refine ⟨u, hu, ?_⟩
    match j, hj with
    | 0, _ => obtain ⟨n, y, hy⟩ := hw _ rfl; obtain ⟨x, e, _⟩ := DataW.trod_bool Try.underlying4 hy; simp at e; subst e; exact ⟨x, rfl⟩
    | 1, _ => obtain ⟨n, y, hy⟩ := hw _ rfl; obtain ⟨x, e, _, wx⟩ := DataW.trod_int Try.underlying3 hy; simp at e; subst e; exact ⟨x, rfl, wx⟩
    | 2, _ => obtain ⟨n, y, hy⟩ := hw _ rfl; obtain ⟨x, e, _, wx⟩ := DataW.trod_int Try.underlying3 hy; simp at e; subst e; exact ⟨x, rfl, wx⟩
    | 3, _ => obtain ⟨n, y, hy⟩ := hw _ rfl; obtain ⟨x, e, _, wx⟩ := DataW.trod_int Try.underlying31 hy; simp at e; subst e; exact ⟨x, rfl, wx⟩
  clear hA0 hval0
  refine (walk x0 x1 a2 len2 cap2 W w0 w1 g2 hb2).mono fun e W' ⟨he, bel⟩ => ?_
  subst he
  exact ⟨_, rfl, _, _, _, [], _, [], hW', trodAll_mk1 (shut_bool Try.underlying4 _), (trodAll_cons_mk (shut_int Try.underlying3 w0) (trodAll_cons_mk (shut_int Try.underlying3 w1) (trodAll_cons_mk (Below.trod laidOut (by kernel_rfl) (of_decide_eq_true (by kernel_rfl)) k2 bel lt2) trodAll_mk0))), rfl, bel.frame _, fun h => by cases h⟩

theorem over : Rows.poolPlaysRow.holds Try.pinned (OpenSpec.ofChange Rows.poolPlaysSpec) :=
  OpenClaim.holds_of_wide 3 Try.f3 rfl rfl rfl rfl rfl rfl rfl ⟨rfl, rfl, rfl, rfl, rfl⟩ rfl rfl rfl rfl rfl (by kernel_rfl) Try.func3 (by kernel_rfl)
    (of_decide_eq_true (by kernel_rfl)) (by unfold Func.isWrapper; first | (rw [if_pos (by decide +kernel)]; kernel_rfl) | (rw [if_neg (by decide +kernel)]; exact ⟨rfl, rfl⟩))
    (fun os started H enc _ => lifted os started H enc)

/-- The statement. -/
theorem proved : Rows.PoolPlaysSaid := over
#print axioms proved
end Go.Proofs.Yteeaminfhpcdmaa.poolPlays
