/- For every spec and every list of calls: ExecOwn returns true, so what was handed in, and changed behind, changes nothing of a lock at work; no condition. -/
import Derived.Test.YtpinpipjlongaaaGreatKEyN
import Derived.Test.YtpinpipjlongaaaGreatKCoreM
import Derived.Deep.DeepCutAuto
import Derived.Deep.LoopGhost
import Derived.WalkKit
import Derived.ProofKit
import Derived.OpenShut
import Derived.ChangeOld
namespace Go.Proofs.YtpinpipjlongaaaGreat.execOwn
set_option maxRecDepth 100000
open Go.Joins Go.ChangeShapes Go.WideShapes Go.ChangeAt Go.RowKit Go.Deep
set_option linter.unusedVariables false

/-- What the cells of ropeline/ropelinelaw10.Op are. -/
def Cell1 (j : Nat) (u : Value) : Prop :=
  match j with
  | 0 => ∃ x, u = .int .i64 x ∧ (Lit.int .i64 x).wf = true
  | 1 => ∃ x, u = .int .i64 x ∧ (Lit.int .i64 x).wf = true
  | 2 => ∃ b, u = .bool b
  | _ => True

/-- The copy of the spec, as a value: all its rows are new. -/
def OwnV (base : Nat) (P0 : Prg) (Z0 I0 R0 : List Int) (E0 : Int) (v : Value) (W : World) : Prop :=
  ∃ q0 c0 q1 c1 q2 c2 q3 c3, v = .agg #[.slice (some ⟨q0, 0, none⟩) P0.l.length c0, .int .i64 P0.lo, .int .i64 P0.un, .slice (some ⟨q1, 0, none⟩) Z0.length c1, .slice (some ⟨q2, 0, none⟩) I0.length c2, .int .i64 E0, .slice (some ⟨q3, 0, none⟩) R0.length c3] ∧
    W.ownsRow 0 45 8 (.slice (some ⟨q0, 0, none⟩) P0.l.length c0) P0.l.length (progC P0.l) ∧ Lst .i64 3 W (.slice (some ⟨q1, 0, none⟩) Z0.length c1) Z0 ∧ Lst .u32 43 W (.slice (some ⟨q2, 0, none⟩) I0.length c2) I0 ∧ Lst .u32 43 W (.slice (some ⟨q3, 0, none⟩) R0.length c3) R0 ∧ base ≤ q0 ∧ base ≤ q1 ∧ base ≤ q2 ∧ base ≤ q3
section
variable {base : Nat} {P0 : Prg} {Z0 I0 R0 : List Int} {E0 : Int} {v : Value} {W W' : World}
theorem OwnV.within {S : Nat → Prop} (h : OwnV base P0 Z0 I0 R0 E0 v W) (hw : Within W W' S) (hS : ∀ b, S b → ∃ cs, Bk W b 28 cs) : OwnV base P0 Z0 I0 R0 E0 v W' := by
  obtain ⟨q0, c0, q1, c1, q2, c2, q3, c3, e, h0, h1, h2, h3, hge⟩ := h
  refine ⟨q0, c0, q1, c1, q2, c2, q3, c3, e, own_within h0 hw (fun g eg hs => ?_), h1.within hw (fun g eg hs => ?_), h2.within hw (fun g eg hs => ?_), h3.within hw (fun g eg hs => ?_), hge⟩
  · obtain ⟨c, hc⟩ := own_bk h0 eg; obtain ⟨d, hd⟩ := hS g hs; exact Bk.unlike hc hd (by decide) rfl
  · obtain ⟨c, hc⟩ := h1.bk eg; obtain ⟨d, hd⟩ := hS g hs; exact Bk.unlike hc hd (by decide) rfl
  · obtain ⟨c, hc⟩ := h2.bk eg; obtain ⟨d, hd⟩ := hS g hs; exact Bk.unlike hc hd (by decide) rfl
  · obtain ⟨c, hc⟩ := h3.bk eg; obtain ⟨d, hd⟩ := hS g hs; exact Bk.unlike hc hd (by decide) rfl
theorem OwnV.below (h : OwnV base P0 Z0 I0 R0 E0 v W) (hb : Below W.heap.size W W') : OwnV base P0 Z0 I0 R0 E0 v W' := h.within (within_of_below hb) (by simp)
theorem ownV_off {b : Nat} {cs : Array Value} (h : OwnV base P0 Z0 I0 R0 E0 v W) (hk : Bk W b 28 cs) (hw : Within W W' (fun i => i = b)) : OwnV base P0 Z0 I0 R0 E0 v W' := h.within hw (fun g e => by subst e; exact ⟨_, hk⟩)
theorem emp_off {b : Nat} {t t' : TypeId} {cs : Array Value} (h : Emp base t v W) (hk : Bk W b t' cs) (ht : t ≠ t') (hw : Within W W' (fun i => i = b)) : Emp base t v W' := by
  obtain ⟨q, e, h1, h2⟩ := h
  exact ⟨q, e, h1.within hw (Bk.unlike h1 hk ht), h2⟩
theorem cpy_off {b : Nat} {k : IntKind} {t t' : TypeId} {xs : List Int} {cs : Array Value} (h : Cpy base k t xs v W) (hk : Bk W b t' cs) (ht : t ≠ t') (hw : Within W W' (fun i => i = b)) : Cpy base k t xs v W' := by
  obtain ⟨q, cap, e, h1, h2⟩ := h
  subst e
  exact ⟨q, cap, rfl, h1.within hw (fun g eg hs => by obtain ⟨c, hc⟩ := h1.bk eg; exact Bk.unlike hc hk ht hs), h2⟩
theorem cpyP_off {b : Nat} {t' : TypeId} {l : List Ins} {cs : Array Value} (h : CpyP base l v W) (hk : Bk W b t' cs) (ht : 45 ≠ t') (hw : Within W W' (fun i => i = b)) : CpyP base l v W' := by
  obtain ⟨q, cap, e, h1, h2⟩ := h
  subst e
  exact ⟨q, cap, rfl, own_within h1 hw (fun g eg hs => by obtain ⟨c, hc⟩ := own_bk h1 eg; exact Bk.unlike hc hk ht hs), h2⟩
end

set_option maxHeartbeats 8000000 in
theorem walk (P0 : Prg) (Z0 I0 R0 : List Int) (E0 : Int) (v0 : Value) (a1 : Option Addr) (len1 cap1 : Nat) (w : World) (sv : Sv w v0 P0 Z0 I0 R0 E0) (pw : PrgWf P0) (ui : U32s I0) (ur : U32s R0) (g1 : Recs w a1 len1 3 Cell1) (hb1 : len1 ≤ maxLen) :
    Calls Tryz.prog 3 #[v0, .slice a1 len1 cap1] w fun e w' => e = .returned (.bool true) ∧ Below w.heap.size w w' := by
  have hpl : P0.l.length ≤ maxLen := by
    obtain ⟨_, _, _, _, _, _, _, _, _, hpv, _⟩ := sv
    obtain ⟨_, _, _, h1, h2, _⟩ := hpv
    omega
  unfold maxLen at hb1
  have HSV := Lib.hid sv
  obtain ⟨aL, cL, aS, cS, aI, cI, aR, cR, rfl, hpv, hgS, hgI, hgR, hm1, hm2, hm3⟩ := sv
  have HPL := Lib.hid hpl
  have HSL : Hid (Sli w aL P0.l) := Lib.hid (by
    obtain ⟨a', c', e', _, _, _, h⟩ := hpv
    injection e' with e'
    simp at e'
    obtain ⟨rfl, rfl⟩ := e'
    exact h)
  have HM3 := Lib.hid hm3
  have HG := Lib.hid (And.intro hgS (And.intro hgI hgR))
  clear hpv hgS hgI hgR hm1 hm2
  unfold maxLen at hm3
  have q0 := Bk.made w 28 #[.slice aL P0.l.length cL, .int .i64 P0.lo, .int .i64 P0.un, .slice aS Z0.length cS, .slice aI I0.length cI, .int .i64 E0, .slice aR R0.length cR]
  have b0 : Below w.heap.size w (w.alloc (.cells #[.slice aL P0.l.length cL, .int .i64 P0.lo, .int .i64 P0.un, .slice aS Z0.length cS, .slice aI I0.length cI, .int .i64 E0, .slice aR R0.length cR] 28)) := (Below.refl _ _).alloc (Nat.le_refl _) _
  have s0 : w.heap.size + 1 ≤ (w.alloc (.cells #[.slice aL P0.l.length cL, .int .i64 P0.lo, .int .i64 P0.un, .slice aS Z0.length cS, .slice aI I0.length cI, .int .i64 E0, .slice aR R0.length cR] 28)).heap.size := by simp
  have hS := lSmall (HSV.out.below b0) HPL.out
  go_enter Tryz.func3, Tryz.ntmps3
  go_upto_region 1 with fail
  generalize w.alloc (.cells #[.slice aL P0.l.length cL, .int .i64 P0.lo, .int .i64 P0.un, .slice aS Z0.length cS, .slice aI I0.length cI, .int .i64 E0, .slice aR R0.length cR] 28) = y at *
  have y1 : y.cell? ⟨w.heap.size, 0, none⟩ = some (.slice aL P0.l.length cL) ∧ y.cell? ⟨w.heap.size, 1, none⟩ = some (.int .i64 P0.lo) ∧ y.cell? ⟨w.heap.size, 2, none⟩ = some (.int .i64 P0.un) ∧ y.cell? ⟨w.heap.size, 3, none⟩ = some (.slice aS Z0.length cS) ∧ y.cell? ⟨w.heap.size, 4, none⟩ = some (.slice aI I0.length cI) ∧ y.cell? ⟨w.heap.size, 5, none⟩ = some (.int .i64 E0) ∧ y.cell? ⟨w.heap.size, 6, none⟩ = some (.slice aR R0.length cR) := ⟨q0.cell 0, q0.cell 1, q0.cell 2, q0.cell 3, q0.cell 4, q0.cell 5, q0.cell 6⟩
  obtain ⟨x0, x1, x2, x3, x4, x5, x6⟩ := y1
  have Q0 := Lib.hid (And.intro q0 (And.intro b0 s0))
  clear q0 b0 s0
  by_cases hsm : P0.l.length ≤ 80 ∧ Z0.length ≤ 12 ∧ I0.length ≤ 300 ∧ R0.length ≤ 80
  · obtain ⟨k1, k2, k3, k4⟩ := hsm
    simp only [k1, k2, k3, k4, decide_true, Bool.and_true] at hS
    have KS := Lib.hid (And.intro k1 k4)
    clear k1 k2 k3 k4
    go_wp2_with fail
    refine hS.mono ?_
    rintro e y2 ⟨rfl, hy2⟩
    have Q2 : Hid (Bk y2 w.heap.size 28 #[.slice aL P0.l.length cL, .int .i64 P0.lo, .int .i64 P0.un, .slice aS Z0.length cS, .slice aI I0.length cI, .int .i64 E0, .slice aR R0.length cR] ∧ Below w.heap.size w y2 ∧ w.heap.size + 1 ≤ y2.heap.size) := Lib.hid ⟨(hy2.block _ Q0.out.1.lt).trans Q0.out.1, Q0.out.2.1.trans (hy2.mono Q0.out.2.1.size), Nat.le_trans Q0.out.2.2 hy2.size⟩
    clear hS hy2 x0 x1 x2 x3 x4 x5 x6 Q0
    obtain ⟨x0, x1, x2, x3, x4, x5, x6⟩ : y2.cell? ⟨w.heap.size, 0, none⟩ = some (.slice aL P0.l.length cL) ∧ y2.cell? ⟨w.heap.size, 1, none⟩ = some (.int .i64 P0.lo) ∧ y2.cell? ⟨w.heap.size, 2, none⟩ = some (.int .i64 P0.un) ∧ y2.cell? ⟨w.heap.size, 3, none⟩ = some (.slice aS Z0.length cS) ∧ y2.cell? ⟨w.heap.size, 4, none⟩ = some (.slice aI I0.length cI) ∧ y2.cell? ⟨w.heap.size, 5, none⟩ = some (.int .i64 E0) ∧ y2.cell? ⟨w.heap.size, 6, none⟩ = some (.slice aR R0.length cR) := ⟨Q2.out.1.cell 0, Q2.out.1.cell 1, Q2.out.1.cell 2, Q2.out.1.cell 3, Q2.out.1.cell 4, Q2.out.1.cell 5, Q2.out.1.cell 6⟩
    by_cases h60 : len1 ≤ 40
    · have hRf := lRef10 (HSV.out.below Q2.out.2.1) (by have := KS.out.1; omega)
      go_wp2_with fail
      refine hRf.mono ?_
      rintro e y3 ⟨v3, rfl, hv3, hy3⟩
      have hRg := rRight10 hv3 pw.ins R0.length
      clear hRf x0 x1 x2 x3 x4 x5 x6 hv3
      go_wp2_with fail
      refine hRg.mono ?_
      rintro e y4 ⟨hy4, hcase⟩
      have Q4 : Hid (Bk y4 w.heap.size 28 #[.slice aL P0.l.length cL, .int .i64 P0.lo, .int .i64 P0.un, .slice aS Z0.length cS, .slice aI I0.length cI, .int .i64 E0, .slice aR R0.length cR] ∧ Below w.heap.size w y4 ∧ w.heap.size + 1 ≤ y4.heap.size) := by
        have hb := hy3.trans (hy4.mono hy3.size)
        exact Lib.hid ⟨(hb.block _ Q2.out.1.lt).trans Q2.out.1, Q2.out.2.1.trans (hb.mono Q2.out.2.1.size), Nat.le_trans Q2.out.2.2 hb.size⟩
      clear hRg hy3 hy4 Q2
      rcases hcase with rfl | ⟨rfl, hok⟩
      · go_wp2_with fail
        refine (lAwake10 _).mono ?_
        rintro e y5 ⟨rfl, hy5⟩
        go_wp2
        go_ret
        exact ⟨rfl, Q4.out.2.1.trans (hy5.mono Q4.out.2.1.size)⟩
      · obtain ⟨x0, x1, x2, x3, x4, x5, x6⟩ : y4.cell? ⟨w.heap.size, 0, none⟩ = some (.slice aL P0.l.length cL) ∧ y4.cell? ⟨w.heap.size, 1, none⟩ = some (.int .i64 P0.lo) ∧ y4.cell? ⟨w.heap.size, 2, none⟩ = some (.int .i64 P0.un) ∧ y4.cell? ⟨w.heap.size, 3, none⟩ = some (.slice aS Z0.length cS) ∧ y4.cell? ⟨w.heap.size, 4, none⟩ = some (.slice aI I0.length cI) ∧ y4.cell? ⟨w.heap.size, 5, none⟩ = some (.int .i64 E0) ∧ y4.cell? ⟨w.heap.size, 6, none⟩ = some (.slice aR R0.length cR) := ⟨Q4.out.1.cell 0, Q4.out.1.cell 1, Q4.out.1.cell 2, Q4.out.1.cell 3, Q4.out.1.cell 4, Q4.out.1.cell 5, Q4.out.1.cell 6⟩
        have HOK := Lib.hid hok
        have HL : Hid (0 < P0.l.length ∧ P0.l.length ≤ 80 ∧ Z0.length ≤ 100 ∧ I0.length ≤ 8192 ∧ R0.length ≤ 64) := Lib.hid (by
          have h1 := hok.code
          unfold prgB at h1
          simp only [Bool.and_eq_true, decide_eq_true_eq] at h1
          have h2 := hok.rz.1
          have h3 := hok.few
          have h4 := hok.len
          have h5 := hok.n64
          have h6 := KS.out.1
          exact ⟨by omega, h6, by omega, by omega, by omega⟩)
        clear hok
        have HSZ : Hid (∀ W, Below y4.heap.size y4 W → y4.heap.size ≤ W.heap.size) := Lib.hid fun W hW => hW.size
        have HBW : Hid (∀ W, Below y4.heap.size y4 W → Below w.heap.size w W) := Lib.hid fun W hW => Q4.out.2.1.trans (hW.mono Q4.out.2.1.size)
        have HQW : Hid (∀ W, Below y4.heap.size y4 W → Bk W w.heap.size 28 #[.slice aL P0.l.length cL, .int .i64 P0.lo, .int .i64 P0.un, .slice aS Z0.length cS, .slice aI I0.length cI, .int .i64 E0, .slice aR R0.length cR]) := Lib.hid fun W hW => (hW.block _ (Bk.lt Q4.out.1)).trans Q4.out.1
        go_upto_region 4 with fail
        refine wp_region_lay 27 28 28 #[.slice none 0 0, .int .i64 0, .int .i64 0, .slice none 0 0, .slice none 0 0, .int .i64 0, .slice none 0 0] (fun W b W' => Within W W' (fun i => i = b) ∧ ∃ v, OwnV y4.heap.size P0 Z0 I0 R0 E0 v W' ∧ ∃ c, v = .agg c ∧ Bk W' b 28 c) (fun W b => ∃ v, OwnV y4.heap.size P0 Z0 I0 R0 E0 v W ∧ ∃ c, v = .agg c ∧ Bk W b 28 c) (fun vs => { tmps := #[.agg #[.slice aL P0.l.length cL, .int .i64 P0.lo, .int .i64 P0.un, .slice aS Z0.length cS, .slice aI I0.length cI, .int .i64 E0, .slice aR R0.length cR], .slice a1 len1 cap1, .pointer (some ⟨w.heap.size, 0, none⟩), undef, .bool false, .int .i64 (R0.length : Int), vs 27, undef, undef, undef, undef, undef, undef, undef, undef, .pointer (some ⟨w.heap.size, 6, none⟩), .slice aR R0.length cR, .int .i64 (R0.length : Int), .agg #[.slice aL P0.l.length cL, .int .i64 P0.lo, .int .i64 P0.un, .slice aS Z0.length cS, .slice aI I0.length cI, .int .i64 E0, .slice aR R0.length cR], .bool true, .bool false, .bool false, .slice a1 len1 cap1, .int .i64 (len1 : Int), .bool (decide (40 < (len1 : Int))), .bool (decide (40 < (len1 : Int))), .bool (decide (40 < (len1 : Int))), .agg #[.slice aL P0.l.length cL, .int .i64 P0.lo, .int .i64 P0.un, .slice aS Z0.length cS, .slice aI I0.length cI, .int .i64 E0, .slice aR R0.length cR], v3, .int .i64 (R0.length : Int), .bool true, .bool false, .bool (decide (40 < (len1 : Int))), undef, vs 0, vs 1, vs 2, vs 3, vs 4, vs 5, vs 6, vs 7, vs 8, vs 9, vs 10, vs 11, vs 12, vs 13, vs 14, vs 15, vs 16, vs 17, vs 18, vs 19, vs 20, vs 21, vs 22, vs 23, vs 24, vs 25, vs 26, undef, undef, undef, undef, undef, undef, undef, undef, undef, undef, undef, undef, undef, undef, undef, undef, undef, undef, undef, undef, undef, undef, undef, undef, undef, undef, undef, undef, undef, undef, undef, undef, undef, undef, undef, undef, undef, undef, undef, undef, undef, undef, undef, undef, undef, undef, undef, undef, undef, undef, undef, undef, undef, undef, undef, undef, undef, undef, undef, undef, undef, undef, undef, undef, undef, undef, undef, undef, undef, undef, undef, undef, undef, undef, undef, undef, undef, undef, undef, undef, undef, undef, undef, undef, undef, undef, undef, undef, undef, undef, undef, undef, undef, undef, undef, undef, undef, undef, undef, undef, undef, undef, undef, undef, undef, undef, undef, undef, undef, undef, undef, undef], defers := [] }) (mixT [(0, (Emp y4.heap.size 45)), (4, (CpyP y4.heap.size P0.l)), (11, (fun v W => ∃ v0, v = .agg #[v0, .int .i64 P0.lo, .int .i64 P0.un] ∧ CpyP y4.heap.size P0.l v0 W)), (12, (Emp y4.heap.size 3)), (15, (Cpy y4.heap.size .i64 3 Z0)), (16, (Emp y4.heap.size 43)), (19, (Cpy y4.heap.size .u32 43 I0)), (22, (Emp y4.heap.size 43)), (25, (Cpy y4.heap.size .u32 43 R0)), (26, (OwnV y4.heap.size P0 Z0 I0 R0 E0))] [undef, .pointer (some ⟨w.heap.size, 0, none⟩), .pointer (some ⟨w.heap.size, 0, none⟩), .slice aL P0.l.length cL, undef, .pointer (some ⟨w.heap.size, 0, none⟩), .pointer (some ⟨w.heap.size, 1, none⟩), .int .i64 P0.lo, .pointer (some ⟨w.heap.size, 0, none⟩), .pointer (some ⟨w.heap.size, 2, none⟩), .int .i64 P0.un, undef, undef, .pointer (some ⟨w.heap.size, 3, none⟩), .slice aS Z0.length cS, undef, undef, .pointer (some ⟨w.heap.size, 4, none⟩), .slice aI I0.length cI, undef, .pointer (some ⟨w.heap.size, 5, none⟩), .int .i64 E0, undef, .pointer (some ⟨w.heap.size, 6, none⟩), .slice aR R0.length cR, undef, undef, undef, undef]) ?ghm ?ghr ?ghns ?ghlen ?glit ?gst ?gst2 ?gd1 ?gbel ?gdn ?gnew ?gsto ?gops ?gdone
        case ghm => kernel_rfl
        case ghr => kernel_rfl
        case ghns => kernel_rfl
        case ghlen => rfl
        case glit => intro vs; rfl
        case gst => exact mixT_stable (by
          intro p hp
          simp only [List.mem_cons, List.not_mem_nil, or_false] at hp
          rcases hp with rfl | rfl | rfl | rfl | rfl | rfl | rfl | rfl | rfl | rfl
          · exact fun v W W2 h hb => Emp.below h hb
          · exact fun v W W2 h hb => CpyP.below h hb
          · rintro v W W2 ⟨v0, e, h⟩ hb; exact ⟨v0, e, h.below hb⟩
          · exact fun v W W2 h hb => Emp.below h hb
          · exact fun v W W2 h hb => Cpy.below h hb
          · exact fun v W W2 h hb => Emp.below h hb
          · exact fun v W W2 h hb => Cpy.below h hb
          · exact fun v W W2 h hb => Emp.below h hb
          · exact fun v W W2 h hb => Cpy.below h hb
          · exact fun v W W2 h hb => OwnV.below h hb)
        case gst2 =>
          have hk := mixT_keep (R := fun W W2 => ∃ b, Bk W b 28 #[.slice none 0 0, .int .i64 0, .int .i64 0, .slice none 0 0, .slice none 0 0, .int .i64 0, .slice none 0 0] ∧ (Within W W2 (fun i => i = b) ∧ ∃ v, OwnV y4.heap.size P0 Z0 I0 R0 E0 v W2 ∧ ∃ c, v = .agg c ∧ Bk W2 b 28 c)) (ps := [(0, (Emp y4.heap.size 45)), (4, (CpyP y4.heap.size P0.l)), (11, (fun v W => ∃ v0, v = .agg #[v0, .int .i64 P0.lo, .int .i64 P0.un] ∧ CpyP y4.heap.size P0.l v0 W)), (12, (Emp y4.heap.size 3)), (15, (Cpy y4.heap.size .i64 3 Z0)), (16, (Emp y4.heap.size 43)), (19, (Cpy y4.heap.size .u32 43 I0)), (22, (Emp y4.heap.size 43)), (25, (Cpy y4.heap.size .u32 43 R0)), (26, (OwnV y4.heap.size P0 Z0 I0 R0 E0))]) (l := [undef, .pointer (some ⟨w.heap.size, 0, none⟩), .pointer (some ⟨w.heap.size, 0, none⟩), .slice aL P0.l.length cL, undef, .pointer (some ⟨w.heap.size, 0, none⟩), .pointer (some ⟨w.heap.size, 1, none⟩), .int .i64 P0.lo, .pointer (some ⟨w.heap.size, 0, none⟩), .pointer (some ⟨w.heap.size, 2, none⟩), .int .i64 P0.un, undef, undef, .pointer (some ⟨w.heap.size, 3, none⟩), .slice aS Z0.length cS, undef, undef, .pointer (some ⟨w.heap.size, 4, none⟩), .slice aI I0.length cI, undef, .pointer (some ⟨w.heap.size, 5, none⟩), .int .i64 E0, undef, .pointer (some ⟨w.heap.size, 6, none⟩), .slice aR R0.length cR, undef, undef, undef, undef]) (by
            intro p hp
            simp only [List.mem_cons, List.not_mem_nil, or_false] at hp
            rcases hp with rfl | rfl | rfl | rfl | rfl | rfl | rfl | rfl | rfl | rfl
            · rintro v W W2 h ⟨b, hk, hR⟩; exact emp_off h hk (by decide) hR.1
            · rintro v W W2 h ⟨b, hk, hR⟩; exact cpyP_off h hk (by decide) hR.1
            · rintro v W W2 ⟨v0, e, h⟩ ⟨b, hk, hR⟩; exact ⟨v0, e, cpyP_off h hk (by decide) hR.1⟩
            · rintro v W W2 h ⟨b, hk, hR⟩; exact emp_off h hk (by decide) hR.1
            · rintro v W W2 h ⟨b, hk, hR⟩; exact cpy_off h hk (by decide) hR.1
            · rintro v W W2 h ⟨b, hk, hR⟩; exact emp_off h hk (by decide) hR.1
            · rintro v W W2 h ⟨b, hk, hR⟩; exact cpy_off h hk (by decide) hR.1
            · rintro v W W2 h ⟨b, hk, hR⟩; exact emp_off h hk (by decide) hR.1
            · rintro v W W2 h ⟨b, hk, hR⟩; exact cpy_off h hk (by decide) hR.1
            · rintro v W W2 h ⟨b, hk, hR⟩; exact ownV_off h hk hR.1)
          exact fun i v W W' b h hb hR => hk i v W _ h ⟨b, hb, hR⟩
        case gd1 => exact fun W W2 b ⟨v, h, c, e, hk⟩ hb => ⟨v, h.below hb, c, e, (hb.block _ (Bk.lt hk)).trans hk⟩
        case gbel => exact fun W W2 b hb hR h => ⟨hR.1.os.trans h.os, hR.1.tape.trans h.tape, hR.1.output.trans h.output, Nat.le_trans h.size hR.1.size, fun i hi => (hR.1.block i (Nat.lt_of_lt_of_le hi h.size) (by omega)).trans (h.block i hi)⟩
        case gdn => exact fun W W2 b _ hR => hR.2
        case gnew =>
          intro o ho vs W hW
          injection ho with ho
          subst ho
          refine leaves_free rfl ?_
          go_simp
          exact ⟨⟨W.heap.size, rfl, hW.size, Bk.made W _ _⟩, (Below.refl _ _).alloc (Nat.le_refl _) _⟩
        case gsto =>
          intro o ho vs W b hW hd hb hk
          injection ho with ho
          subst ho
          have hv : OwnV y4.heap.size P0 Z0 I0 R0 E0 (vs 26) W := hd 26 (by decide) rfl
          obtain ⟨q0, c0, q1, c1, q2, c2, q3, c3, e26, h0a, h1a, h2a, h3a, hge⟩ := hv
          have zf := Bk.free hk
          obtain ⟨z0, z1, z2, z3, z4, z5, z6⟩ : W.cell? ⟨b, 0, none⟩ = some (.slice none 0 0) ∧ W.cell? ⟨b, 1, none⟩ = some (.int .i64 0) ∧ W.cell? ⟨b, 2, none⟩ = some (.int .i64 0) ∧ W.cell? ⟨b, 3, none⟩ = some (.slice none 0 0) ∧ W.cell? ⟨b, 4, none⟩ = some (.slice none 0 0) ∧ W.cell? ⟨b, 5, none⟩ = some (.int .i64 0) ∧ W.cell? ⟨b, 6, none⟩ = some (.slice none 0 0) := ⟨hk.cell 0, hk.cell 1, hk.cell 2, hk.cell 3, hk.cell 4, hk.cell 5, hk.cell 6⟩
          have hw7 := put7_within (y := W) (g := b) (.slice (some ⟨q0, 0, none⟩) P0.l.length c0) (.int .i64 P0.lo) (.int .i64 P0.un) (.slice (some ⟨q1, 0, none⟩) Z0.length c1) (.slice (some ⟨q2, 0, none⟩) I0.length c2) (.int .i64 E0) (.slice (some ⟨q3, 0, none⟩) R0.length c3)
          have hk7 := put7_bk hk (.slice (some ⟨q0, 0, none⟩) P0.l.length c0) (.int .i64 P0.lo) (.int .i64 P0.un) (.slice (some ⟨q1, 0, none⟩) Z0.length c1) (.slice (some ⟨q2, 0, none⟩) I0.length c2) (.int .i64 E0) (.slice (some ⟨q3, 0, none⟩) R0.length c3)
          have hv7 := ownV_off (v := .agg #[.slice (some ⟨q0, 0, none⟩) P0.l.length c0, .int .i64 P0.lo, .int .i64 P0.un, .slice (some ⟨q1, 0, none⟩) Z0.length c1, .slice (some ⟨q2, 0, none⟩) I0.length c2, .int .i64 E0, .slice (some ⟨q3, 0, none⟩) R0.length c3]) ⟨q0, c0, q1, c1, q2, c2, q3, c3, rfl, h0a, h1a, h2a, h3a, hge⟩ hk hw7
          have HKK := Lib.hid (And.intro hw7 (And.intro hv7 hk7))
          refine leavesIf_free rfl ?_
          clear hd h0a h1a h2a h3a hw7 hk7 hv7 hk hge
          go_simp
          exact ⟨HKK.out.1, _, HKK.out.2.1, _, rfl, HKK.out.2.2⟩
        case gops =>
          refine ⟨?_, ?_, ?_, ?_, ?_, ?_, ?_, ?_, ?_, ?_, ?_, ?_, ?_, ?_, ?_, ?_, ?_, ?_, ?_, ?_, ?_, ?_, ?_, ?_, ?_, ?_, ?_, ?_, ?_, trivial⟩
          · intro _ vs W hW hd
            refine leaves_free rfl ?_
            have hs := HSZ.out W hW
            clear hd
            go_simp
            exact ⟨⟨_, rfl, Bk.made W 45 #[], hs⟩, (Below.refl _ _).alloc (Nat.le_refl _) _⟩
          · intro _ vs W hW hd
            refine leaves_free rfl ?_
            go_simp
            exact ⟨rfl, Below.refl _ _⟩
          · intro _ vs W hW hd
            refine leaves_free rfl ?_
            have e1 : vs 1 = .pointer (some ⟨w.heap.size, 0, none⟩) := hd 1 (by decide) rfl
            go_simp
            exact ⟨rfl, Below.refl _ _⟩
          · intro _ vs W hW hd
            refine leaves_free rfl ?_
            have e2 : vs 2 = .pointer (some ⟨w.heap.size, 0, none⟩) := hd 2 (by decide) rfl
            have hq := HQW.out W hW; obtain ⟨y0, y1, y2, y3, y4, y5, y6⟩ : W.cell? ⟨w.heap.size, 0, none⟩ = some (.slice aL P0.l.length cL) ∧ W.cell? ⟨w.heap.size, 1, none⟩ = some (.int .i64 P0.lo) ∧ W.cell? ⟨w.heap.size, 2, none⟩ = some (.int .i64 P0.un) ∧ W.cell? ⟨w.heap.size, 3, none⟩ = some (.slice aS Z0.length cS) ∧ W.cell? ⟨w.heap.size, 4, none⟩ = some (.slice aI I0.length cI) ∧ W.cell? ⟨w.heap.size, 5, none⟩ = some (.int .i64 E0) ∧ W.cell? ⟨w.heap.size, 6, none⟩ = some (.slice aR R0.length cR) := ⟨hq.cell 0, hq.cell 1, hq.cell 2, hq.cell 3, hq.cell 4, hq.cell 5, hq.cell 6⟩; clear hq
            go_simp
            exact ⟨rfl, Below.refl _ _⟩
          · intro _ vs W hW hd
            refine leaves_free rfl ?_
            obtain ⟨b0, e0, hb0, hbb⟩ : (Emp y4.heap.size 45) (vs 0) W := hd 0 (by decide) rfl
            have e3 : vs 3 = .slice aL P0.l.length cL := hd 3 (by decide) rfl
            obtain ⟨v', W', hr, hk, hB'⟩ := run_cpyP (cap0 := cL) hb0 (HSL.out.below (HBW.out W hW)) HL.out.1 (by have := HL.out.2.1; omega) y4.heap.size (HSZ.out W hW)
            have HKK := Lib.hid (And.intro hk hB')
            clear hd hk hB'
            simp [execOp, resolve, invoke, builtin, Act.eval, e0, e3, hr, Result.andThen, leaves]
            exact HKK.out
          · intro _ vs W hW hd
            refine leaves_free rfl ?_
            go_simp
            exact ⟨rfl, Below.refl _ _⟩
          · intro _ vs W hW hd
            refine leaves_free rfl ?_
            have e5 : vs 5 = .pointer (some ⟨w.heap.size, 0, none⟩) := hd 5 (by decide) rfl
            go_simp
            exact ⟨rfl, Below.refl _ _⟩
          · intro _ vs W hW hd
            refine leaves_free rfl ?_
            have e6 : vs 6 = .pointer (some ⟨w.heap.size, 1, none⟩) := hd 6 (by decide) rfl
            have hq := HQW.out W hW; obtain ⟨y0, y1, y2, y3, y4, y5, y6⟩ : W.cell? ⟨w.heap.size, 0, none⟩ = some (.slice aL P0.l.length cL) ∧ W.cell? ⟨w.heap.size, 1, none⟩ = some (.int .i64 P0.lo) ∧ W.cell? ⟨w.heap.size, 2, none⟩ = some (.int .i64 P0.un) ∧ W.cell? ⟨w.heap.size, 3, none⟩ = some (.slice aS Z0.length cS) ∧ W.cell? ⟨w.heap.size, 4, none⟩ = some (.slice aI I0.length cI) ∧ W.cell? ⟨w.heap.size, 5, none⟩ = some (.int .i64 E0) ∧ W.cell? ⟨w.heap.size, 6, none⟩ = some (.slice aR R0.length cR) := ⟨hq.cell 0, hq.cell 1, hq.cell 2, hq.cell 3, hq.cell 4, hq.cell 5, hq.cell 6⟩; clear hq
            go_simp
            exact ⟨rfl, Below.refl _ _⟩
          · intro _ vs W hW hd
            refine leaves_free rfl ?_
            go_simp
            exact ⟨rfl, Below.refl _ _⟩
          · intro _ vs W hW hd
            refine leaves_free rfl ?_
            have e8 : vs 8 = .pointer (some ⟨w.heap.size, 0, none⟩) := hd 8 (by decide) rfl
            go_simp
            exact ⟨rfl, Below.refl _ _⟩
          · intro _ vs W hW hd
            refine leaves_free rfl ?_
            have e9 : vs 9 = .pointer (some ⟨w.heap.size, 2, none⟩) := hd 9 (by decide) rfl
            have hq := HQW.out W hW; obtain ⟨y0, y1, y2, y3, y4, y5, y6⟩ : W.cell? ⟨w.heap.size, 0, none⟩ = some (.slice aL P0.l.length cL) ∧ W.cell? ⟨w.heap.size, 1, none⟩ = some (.int .i64 P0.lo) ∧ W.cell? ⟨w.heap.size, 2, none⟩ = some (.int .i64 P0.un) ∧ W.cell? ⟨w.heap.size, 3, none⟩ = some (.slice aS Z0.length cS) ∧ W.cell? ⟨w.heap.size, 4, none⟩ = some (.slice aI I0.length cI) ∧ W.cell? ⟨w.heap.size, 5, none⟩ = some (.int .i64 E0) ∧ W.cell? ⟨w.heap.size, 6, none⟩ = some (.slice aR R0.length cR) := ⟨hq.cell 0, hq.cell 1, hq.cell 2, hq.cell 3, hq.cell 4, hq.cell 5, hq.cell 6⟩; clear hq
            go_simp
            exact ⟨rfl, Below.refl _ _⟩
          · intro _ vs W hW hd
            refine leaves_free rfl ?_
            have h4 : (CpyP y4.heap.size P0.l) (vs 4) W := hd 4 (by decide) rfl
            have e7 : vs 7 = .int .i64 P0.lo := hd 7 (by decide) rfl
            have e10 : vs 10 = .int .i64 P0.un := hd 10 (by decide) rfl
            obtain ⟨q, cap, e4, h4a, h4b⟩ := h4
            have HKK : Hid (CpyP y4.heap.size P0.l (.slice (some ⟨q, 0, none⟩) P0.l.length cap) W) := Lib.hid ⟨q, cap, rfl, h4a, h4b⟩
            clear hd h4a
            go_simp
            exact ⟨⟨_, rfl, HKK.out⟩, Below.refl _ _⟩
          · intro _ vs W hW hd
            refine leaves_free rfl ?_
            have hs := HSZ.out W hW
            clear hd
            go_simp
            exact ⟨⟨_, rfl, Bk.made W 3 #[], hs⟩, (Below.refl _ _).alloc (Nat.le_refl _) _⟩
          · intro _ vs W hW hd
            refine leaves_free rfl ?_
            go_simp
            exact ⟨rfl, Below.refl _ _⟩
          · intro _ vs W hW hd
            refine leaves_free rfl ?_
            have e13 : vs 13 = .pointer (some ⟨w.heap.size, 3, none⟩) := hd 13 (by decide) rfl
            have hq := HQW.out W hW; obtain ⟨y0, y1, y2, y3, y4, y5, y6⟩ : W.cell? ⟨w.heap.size, 0, none⟩ = some (.slice aL P0.l.length cL) ∧ W.cell? ⟨w.heap.size, 1, none⟩ = some (.int .i64 P0.lo) ∧ W.cell? ⟨w.heap.size, 2, none⟩ = some (.int .i64 P0.un) ∧ W.cell? ⟨w.heap.size, 3, none⟩ = some (.slice aS Z0.length cS) ∧ W.cell? ⟨w.heap.size, 4, none⟩ = some (.slice aI I0.length cI) ∧ W.cell? ⟨w.heap.size, 5, none⟩ = some (.int .i64 E0) ∧ W.cell? ⟨w.heap.size, 6, none⟩ = some (.slice aR R0.length cR) := ⟨hq.cell 0, hq.cell 1, hq.cell 2, hq.cell 3, hq.cell 4, hq.cell 5, hq.cell 6⟩; clear hq
            go_simp
            exact ⟨rfl, Below.refl _ _⟩
          · intro _ vs W hW hd
            refine leaves_free rfl ?_
            obtain ⟨b0, e12, hb0, hbb⟩ : (Emp y4.heap.size 3) (vs 12) W := hd 12 (by decide) rfl
            have e14 : vs 14 = .slice aS Z0.length cS := hd 14 (by decide) rfl
            obtain ⟨v', W', hr, hk, hB'⟩ := run_cpy (cap0 := cS) intinfo (by omega) Tryz.underlying25 hb0 (HG.out.1.below (HBW.out W hW)) (by have := HL.out.2.2.1; omega) y4.heap.size hbb (HSZ.out W hW)
            have HKK := Lib.hid (And.intro hk hB')
            clear hd hk hB'
            simp [execOp, resolve, invoke, builtin, Act.eval, e12, e14, hr, Result.andThen, leaves]
            exact HKK.out
          · intro _ vs W hW hd
            refine leaves_free rfl ?_
            have hs := HSZ.out W hW
            clear hd
            go_simp
            exact ⟨⟨_, rfl, Bk.made W 43 #[], hs⟩, (Below.refl _ _).alloc (Nat.le_refl _) _⟩
          · intro _ vs W hW hd
            refine leaves_free rfl ?_
            go_simp
            exact ⟨rfl, Below.refl _ _⟩
          · intro _ vs W hW hd
            refine leaves_free rfl ?_
            have e17 : vs 17 = .pointer (some ⟨w.heap.size, 4, none⟩) := hd 17 (by decide) rfl
            have hq := HQW.out W hW; obtain ⟨y0, y1, y2, y3, y4, y5, y6⟩ : W.cell? ⟨w.heap.size, 0, none⟩ = some (.slice aL P0.l.length cL) ∧ W.cell? ⟨w.heap.size, 1, none⟩ = some (.int .i64 P0.lo) ∧ W.cell? ⟨w.heap.size, 2, none⟩ = some (.int .i64 P0.un) ∧ W.cell? ⟨w.heap.size, 3, none⟩ = some (.slice aS Z0.length cS) ∧ W.cell? ⟨w.heap.size, 4, none⟩ = some (.slice aI I0.length cI) ∧ W.cell? ⟨w.heap.size, 5, none⟩ = some (.int .i64 E0) ∧ W.cell? ⟨w.heap.size, 6, none⟩ = some (.slice aR R0.length cR) := ⟨hq.cell 0, hq.cell 1, hq.cell 2, hq.cell 3, hq.cell 4, hq.cell 5, hq.cell 6⟩; clear hq
            go_simp
            exact ⟨rfl, Below.refl _ _⟩
          · intro _ vs W hW hd
            refine leaves_free rfl ?_
            obtain ⟨b0, e16, hb0, hbb⟩ : (Emp y4.heap.size 43) (vs 16) W := hd 16 (by decide) rfl
            have e18 : vs 18 = .slice aI I0.length cI := hd 18 (by decide) rfl
            obtain ⟨v', W', hr, hk, hB'⟩ := run_cpy (cap0 := cI) u32info (by omega) Tryz.underlying26 hb0 (HG.out.2.1.below (HBW.out W hW)) (by have := HL.out.2.2.2.1; omega) y4.heap.size hbb (HSZ.out W hW)
            have HKK := Lib.hid (And.intro hk hB')
            clear hd hk hB'
            simp [execOp, resolve, invoke, builtin, Act.eval, e16, e18, hr, Result.andThen, leaves]
            exact HKK.out
          · intro _ vs W hW hd
            refine leaves_free rfl ?_
            go_simp
            exact ⟨rfl, Below.refl _ _⟩
          · intro _ vs W hW hd
            refine leaves_free rfl ?_
            have e20 : vs 20 = .pointer (some ⟨w.heap.size, 5, none⟩) := hd 20 (by decide) rfl
            have hq := HQW.out W hW; obtain ⟨y0, y1, y2, y3, y4, y5, y6⟩ : W.cell? ⟨w.heap.size, 0, none⟩ = some (.slice aL P0.l.length cL) ∧ W.cell? ⟨w.heap.size, 1, none⟩ = some (.int .i64 P0.lo) ∧ W.cell? ⟨w.heap.size, 2, none⟩ = some (.int .i64 P0.un) ∧ W.cell? ⟨w.heap.size, 3, none⟩ = some (.slice aS Z0.length cS) ∧ W.cell? ⟨w.heap.size, 4, none⟩ = some (.slice aI I0.length cI) ∧ W.cell? ⟨w.heap.size, 5, none⟩ = some (.int .i64 E0) ∧ W.cell? ⟨w.heap.size, 6, none⟩ = some (.slice aR R0.length cR) := ⟨hq.cell 0, hq.cell 1, hq.cell 2, hq.cell 3, hq.cell 4, hq.cell 5, hq.cell 6⟩; clear hq
            go_simp
            exact ⟨rfl, Below.refl _ _⟩
          · intro _ vs W hW hd
            refine leaves_free rfl ?_
            have hs := HSZ.out W hW
            clear hd
            go_simp
            exact ⟨⟨_, rfl, Bk.made W 43 #[], hs⟩, (Below.refl _ _).alloc (Nat.le_refl _) _⟩
          · intro _ vs W hW hd
            refine leaves_free rfl ?_
            go_simp
            exact ⟨rfl, Below.refl _ _⟩
          · intro _ vs W hW hd
            refine leaves_free rfl ?_
            have e23 : vs 23 = .pointer (some ⟨w.heap.size, 6, none⟩) := hd 23 (by decide) rfl
            have hq := HQW.out W hW; obtain ⟨y0, y1, y2, y3, y4, y5, y6⟩ : W.cell? ⟨w.heap.size, 0, none⟩ = some (.slice aL P0.l.length cL) ∧ W.cell? ⟨w.heap.size, 1, none⟩ = some (.int .i64 P0.lo) ∧ W.cell? ⟨w.heap.size, 2, none⟩ = some (.int .i64 P0.un) ∧ W.cell? ⟨w.heap.size, 3, none⟩ = some (.slice aS Z0.length cS) ∧ W.cell? ⟨w.heap.size, 4, none⟩ = some (.slice aI I0.length cI) ∧ W.cell? ⟨w.heap.size, 5, none⟩ = some (.int .i64 E0) ∧ W.cell? ⟨w.heap.size, 6, none⟩ = some (.slice aR R0.length cR) := ⟨hq.cell 0, hq.cell 1, hq.cell 2, hq.cell 3, hq.cell 4, hq.cell 5, hq.cell 6⟩; clear hq
            go_simp
            exact ⟨rfl, Below.refl _ _⟩
          · intro _ vs W hW hd
            refine leaves_free rfl ?_
            obtain ⟨b0, e22, hb0, hbb⟩ : (Emp y4.heap.size 43) (vs 22) W := hd 22 (by decide) rfl
            have e24 : vs 24 = .slice aR R0.length cR := hd 24 (by decide) rfl
            obtain ⟨v', W', hr, hk, hB'⟩ := run_cpy (cap0 := cR) u32info (by omega) Tryz.underlying26 hb0 (HG.out.2.2.below (HBW.out W hW)) (by have := HL.out.2.2.2.2; omega) y4.heap.size hbb (HSZ.out W hW)
            have HKK := Lib.hid (And.intro hk hB')
            clear hd hk hB'
            simp [execOp, resolve, invoke, builtin, Act.eval, e22, e24, hr, Result.andThen, leaves]
            exact HKK.out
          · intro _ vs W hW hd
            refine leaves_free rfl ?_
            obtain ⟨v0, e11, h0⟩ : ∃ v0, vs 11 = .agg #[v0, .int .i64 P0.lo, .int .i64 P0.un] ∧ CpyP y4.heap.size P0.l v0 W := hd 11 (by decide) rfl
            have h1 : (Cpy y4.heap.size .i64 3 Z0) (vs 15) W := hd 15 (by decide) rfl
            have h2 : (Cpy y4.heap.size .u32 43 I0) (vs 19) W := hd 19 (by decide) rfl
            have h3 : (Cpy y4.heap.size .u32 43 R0) (vs 25) W := hd 25 (by decide) rfl
            have e21 : vs 21 = .int .i64 E0 := hd 21 (by decide) rfl
            obtain ⟨q0, c0, rfl, h0a, h0b⟩ := h0
            obtain ⟨q1, c1, e15, h1a, h1b⟩ := h1
            obtain ⟨q2, c2, e19, h2a, h2b⟩ := h2
            obtain ⟨q3, c3, e25, h3a, h3b⟩ := h3
            have HKK : Hid (OwnV y4.heap.size P0 Z0 I0 R0 E0 (.agg #[.slice (some ⟨q0, 0, none⟩) P0.l.length c0, .int .i64 P0.lo, .int .i64 P0.un, .slice (some ⟨q1, 0, none⟩) Z0.length c1, .slice (some ⟨q2, 0, none⟩) I0.length c2, .int .i64 E0, .slice (some ⟨q3, 0, none⟩) R0.length c3]) W) := Lib.hid ⟨q0, c0, q1, c1, q2, c2, q3, c3, rfl, h0a, h1a, h2a, h3a, h0b, h1b, h2b, h3b⟩
            clear hd h0a h1a h2a h3a
            go_simp
            exact ⟨HKK.out, Below.refl _ _⟩
          · exact fun h => absurd h (by decide)
          · exact fun h => absurd h (by decide)
        case gdone =>
          intro vs W b hW hf hgv hgb pb
          have f1 : vs 1 = .pointer (some ⟨w.heap.size, 0, none⟩) := hf 1 (by decide) rfl
          have f2 : vs 2 = .pointer (some ⟨w.heap.size, 0, none⟩) := hf 2 (by decide) rfl
          have f3 : vs 3 = .slice aL P0.l.length cL := hf 3 (by decide) rfl
          have f5 : vs 5 = .pointer (some ⟨w.heap.size, 0, none⟩) := hf 5 (by decide) rfl
          have f6 : vs 6 = .pointer (some ⟨w.heap.size, 1, none⟩) := hf 6 (by decide) rfl
          have f7 : vs 7 = .int .i64 P0.lo := hf 7 (by decide) rfl
          have f8 : vs 8 = .pointer (some ⟨w.heap.size, 0, none⟩) := hf 8 (by decide) rfl
          have f9 : vs 9 = .pointer (some ⟨w.heap.size, 2, none⟩) := hf 9 (by decide) rfl
          have f10 : vs 10 = .int .i64 P0.un := hf 10 (by decide) rfl
          have f13 : vs 13 = .pointer (some ⟨w.heap.size, 3, none⟩) := hf 13 (by decide) rfl
          have f14 : vs 14 = .slice aS Z0.length cS := hf 14 (by decide) rfl
          have f17 : vs 17 = .pointer (some ⟨w.heap.size, 4, none⟩) := hf 17 (by decide) rfl
          have f18 : vs 18 = .slice aI I0.length cI := hf 18 (by decide) rfl
          have f20 : vs 20 = .pointer (some ⟨w.heap.size, 5, none⟩) := hf 20 (by decide) rfl
          have f21 : vs 21 = .int .i64 E0 := hf 21 (by decide) rfl
          have f23 : vs 23 = .pointer (some ⟨w.heap.size, 6, none⟩) := hf 23 (by decide) rfl
          have f24 : vs 24 = .slice aR R0.length cR := hf 24 (by decide) rfl
          simp only [f1, f2, f3, f5, f6, f7, f8, f9, f10, f13, f14, f17, f18, f20, f21, f23, f24]
          simp only [hgv]
          clear hf hgv f1 f2 f3 f5 f6 f7 f8 f9 f10 f13 f14 f17 f18 f20 f21 f23 f24
          generalize vs 0 = r0 at *
          generalize vs 4 = r4 at *
          generalize vs 11 = r11 at *
          generalize vs 12 = r12 at *
          generalize vs 15 = r15 at *
          generalize vs 16 = r16 at *
          generalize vs 19 = r19 at *
          generalize vs 22 = r22 at *
          generalize vs 25 = r25 at *
          generalize vs 26 = r26 at *
          obtain ⟨v, ⟨q0, c0, q1, c1, q2, c2, q3, c3, ev, h0, h1, h2, h3, g0, g1', g2, g3⟩, c, ec, hB⟩ := pb
          rw [ev] at ec
          injection ec with ec
          subst ec
          clear ev
          have hbw := HBW.out W hW
          have hqs := HQW.out W hW
          have hy4 := Q4.out.2.2
          have hl0 : q0 < W.heap.size := (World.ownsRow.lt h0 q0 rfl).2
          have hl1 : q1 < W.heap.size := h1.lt rfl
          have hl3 : q3 < W.heap.size := h3.lt rfl
          have HQS : Hid (w.heap.size < q0 ∧ w.heap.size < q1 ∧ w.heap.size < q3 ∧ q0 < W.heap.size ∧ q1 < W.heap.size ∧ q3 < W.heap.size) := Lib.hid ⟨by omega, by omega, by omega, hl0, hl1, hl3⟩
          obtain ⟨EN, hEN⟩ := Int.eq_ofNat_of_zero_le HOK.out.e0
          obtain ⟨k, hk⟩ : ∃ k : Lk, k = ⟨P0.l, P0.lo, P0.un, Z0, EN, R0.length⟩ := ⟨_, rfl⟩
          have hkn : k.n = R0.length := by rw [hk]
          have hK : OkLk k := by
            rw [hk]
            refine ⟨HOK.out.code, fun i hi => ?_, HOK.out.rz, HOK.out.few, ?_, ?_, ?_⟩
            · have := pw.ins i hi
              exact ⟨this.k0, this.k1⟩
            · have := HOK.out.n1; simp only; omega
            · have := HOK.out.n64; simp only; omega
            · have := HOK.out.e8; simp only; omega
          have hSv : Sv W (.agg #[.slice (some ⟨q0, 0, none⟩) P0.l.length c0, .int .i64 P0.lo, .int .i64 P0.un, .slice (some ⟨q1, 0, none⟩) Z0.length c1, .slice (some ⟨q2, 0, none⟩) I0.length c2, .int .i64 E0, .slice (some ⟨q3, 0, none⟩) R0.length c3]) P0 Z0 I0 R0 E0 :=
            ⟨_, c0, _, c1, _, c2, _, c3, rfl, own_pv h0, given_lst h1, given_lst h2, given_lst h3, by have := HL.out.2.2.1; unfold maxLen; omega, by have := HL.out.2.2.2.1; unfold maxLen; omega, by have := HL.out.2.2.2.2; unfold maxLen; omega⟩
          have hN : Calls Tryz.prog 8 #[.agg #[.slice (some ⟨q0, 0, none⟩) P0.l.length c0, .int .i64 P0.lo, .int .i64 P0.un, .slice (some ⟨q1, 0, none⟩) Z0.length c1, .slice (some ⟨q2, 0, none⟩) I0.length c2, .int .i64 E0, .slice (some ⟨q3, 0, none⟩) R0.length c3], .int .i64 R0.length] W (NewX W k I0 R0) := by
            have := xNew (w := W) hK (v := .agg #[.slice (some ⟨q0, 0, none⟩) P0.l.length c0, .int .i64 P0.lo, .int .i64 P0.un, .slice (some ⟨q1, 0, none⟩) Z0.length c1, .slice (some ⟨q2, 0, none⟩) I0.length c2, .int .i64 E0, .slice (some ⟨q3, 0, none⟩) R0.length c3]) (init := I0) (r7 := R0) (by rw [hk]; simp only; rw [show ((EN : Nat) : Int) = E0 from hEN.symm]; exact hSv) (by rw [hk]; exact HOK.out.len) ui (by rw [hk]) ur
            rw [hkn] at this
            exact this
          have HK := Lib.hid (And.intro hk (And.intro hkn (And.intro hK hEN)))
          clear hk hkn hK hEN hSv hl0 hl1 hl3 hy4 g0 g1' g2 g3
          obtain ⟨o0, o1, o2, o3, o4, o5, o6⟩ : W.cell? ⟨b, 0, none⟩ = some (.slice (some ⟨q0, 0, none⟩) P0.l.length c0) ∧ W.cell? ⟨b, 1, none⟩ = some (.int .i64 P0.lo) ∧ W.cell? ⟨b, 2, none⟩ = some (.int .i64 P0.un) ∧ W.cell? ⟨b, 3, none⟩ = some (.slice (some ⟨q1, 0, none⟩) Z0.length c1) ∧ W.cell? ⟨b, 4, none⟩ = some (.slice (some ⟨q2, 0, none⟩) I0.length c2) ∧ W.cell? ⟨b, 5, none⟩ = some (.int .i64 E0) ∧ W.cell? ⟨b, 6, none⟩ = some (.slice (some ⟨q3, 0, none⟩) R0.length c3) := ⟨hB.cell 0, hB.cell 1, hB.cell 2, hB.cell 3, hB.cell 4, hB.cell 5, hB.cell 6⟩
          go_wp2_with fail
          refine hN.mono ?_
          rintro e w5 ⟨X, rfl, hX, hw5, hO⟩
          have hOw : Ow w b q0 q1 q3 P0.l.length Z0.length R0.length c0 c1 c3 #[.slice aL P0.l.length cL, .int .i64 P0.lo, .int .i64 P0.un, .slice aS Z0.length cS, .slice aI I0.length cI, .int .i64 E0, .slice aR R0.length cR] #[.slice (some ⟨q0, 0, none⟩) P0.l.length c0, .int .i64 P0.lo, .int .i64 P0.un, .slice (some ⟨q1, 0, none⟩) Z0.length c1, .slice (some ⟨q2, 0, none⟩) I0.length c2, .int .i64 E0, .slice (some ⟨q3, 0, none⟩) R0.length c3] k X (newM k I0 R0) w5 :=
            ⟨hX, hbw.trans (hw5.mono hbw.size), (hw5.block _ hqs.lt).trans hqs, (hw5.block _ (Bk.lt hB)).trans hB, ⟨_, own_below h0 hw5⟩, ⟨_, h1.within (within_of_below hw5) (by simp)⟩, ⟨_, h3.within (within_of_below hw5) (by simp)⟩, fun i hi => by have := hO i hi; have := HQS.out; omega, ⟨HQS.out.1, HQS.out.2.1, HQS.out.2.2.1⟩⟩
          have HXO : Hid (∀ i, X.Own k.n i → w.heap.size ≤ i) := Lib.hid fun i hi => Nat.le_trans hbw.size (hO i hi)
          clear hN hX hw5 hO h0 h1 h2 h3 hB hbw hqs o0 o1 o2 o3 o4 o5 o6 HQS
          have o0 : w5.cell? ⟨b, 0, none⟩ = some (.slice (some ⟨q0, 0, none⟩) P0.l.length c0) := hOw.own.cell 0
          have HP80 : P0.l.length ≤ 80 := HL.out.2.1
          go_wp2
          clear o0
          go_loopw [77] (fun iv wr => ∃ i : Nat, i ≤ P0.l.length ∧ iv = .int .i64 i ∧ Ow w b q0 q1 q3 P0.l.length Z0.length R0.length c0 c1 c3 #[.slice aL P0.l.length cL, .int .i64 P0.lo, .int .i64 P0.un, .slice aS Z0.length cS, .slice aI I0.length cI, .int .i64 E0, .slice aR R0.length cR] #[.slice (some ⟨q0, 0, none⟩) P0.l.length c0, .int .i64 P0.lo, .int .i64 P0.un, .slice (some ⟨q1, 0, none⟩) Z0.length c1, .slice (some ⟨q2, 0, none⟩) I0.length c2, .int .i64 E0, .slice (some ⟨q3, 0, none⟩) R0.length c3] k X (newM k I0 R0) wr) (fun iv _ => P0.l.length - (intOf iv).toNat)
          case atStart => exact ⟨0, Nat.zero_le _, rfl, hOw⟩
          case round =>
            clear hOw
            obtain ⟨i, hi, rfl, hOw⟩ := hrel
            by_cases hlt : i < P0.l.length
            · have o0 : wr.cell? ⟨b, 0, none⟩ = some (.slice (some ⟨q0, 0, none⟩) P0.l.length c0) := hOw.own.cell 0
              obtain ⟨hc, hf⟩ := hOw.cellsP hlt
              obtain ⟨v0, d0⟩ := hc 0 (by omega)
              obtain ⟨v1, d1⟩ := hc 1 (by omega)
              obtain ⟨v2, d2⟩ := hc 2 (by omega)
              obtain ⟨v3, d3⟩ := hc 3 (by omega)
              obtain ⟨v4, d4⟩ := hc 4 (by omega)
              obtain ⟨v5, d5⟩ := hc 5 (by omega)
              obtain ⟨v6, d6⟩ := hc 6 (by omega)
              obtain ⟨v7, d7⟩ := hc 7 (by omega)
              rw [Nat.add_zero] at d0
              have hil : (i : Int) < P0.l.length := by omega
              have HOw := Lib.hid hOw
              clear hc hOw
              go_wp2
              go_roundw
              case rel => exact ⟨i + 1, by omega, by go_num, HOw.out.prog (i * 8) (insC ⟨13, 0, 0, 0, 0, 0, 0, 0⟩)⟩
              case measure => simp [intOf]; omega
            · obtain rfl : i = P0.l.length := by omega
              generalize wr = wa at *
              have o3 : wa.cell? ⟨b, 3, none⟩ = some (.slice (some ⟨q1, 0, none⟩) Z0.length c1) := hOw.own.cell 3
              have HZ100 : Z0.length ≤ 100 := HL.out.2.2.1
              go_wp2
              clear o3
              go_loopw [90] (fun iv wr => ∃ i : Nat, i ≤ Z0.length ∧ iv = .int .i64 i ∧ Ow w b q0 q1 q3 P0.l.length Z0.length R0.length c0 c1 c3 #[.slice aL P0.l.length cL, .int .i64 P0.lo, .int .i64 P0.un, .slice aS Z0.length cS, .slice aI I0.length cI, .int .i64 E0, .slice aR R0.length cR] #[.slice (some ⟨q0, 0, none⟩) P0.l.length c0, .int .i64 P0.lo, .int .i64 P0.un, .slice (some ⟨q1, 0, none⟩) Z0.length c1, .slice (some ⟨q2, 0, none⟩) I0.length c2, .int .i64 E0, .slice (some ⟨q3, 0, none⟩) R0.length c3] k X (newM k I0 R0) wr) (fun iv _ => Z0.length - (intOf iv).toNat)
              case atStart => exact ⟨0, Nat.zero_le _, rfl, hOw⟩
              case round =>
                clear hOw
                obtain ⟨i, hi, rfl, hOw⟩ := hrel
                by_cases hlt : i < Z0.length
                · have o3 : wr.cell? ⟨b, 3, none⟩ = some (.slice (some ⟨q1, 0, none⟩) Z0.length c1) := hOw.own.cell 3
                  obtain ⟨⟨v0, d0⟩, hf⟩ := hOw.cellS hlt
                  have hil : (i : Int) < Z0.length := by omega
                  have HOw := Lib.hid hOw
                  clear hOw
                  go_wp2
                  go_roundw
                  case rel => exact ⟨i + 1, by omega, by go_num, HOw.out.size i 0⟩
                  case measure => simp [intOf]; omega
                · obtain rfl : i = Z0.length := by omega
                  generalize wr = wb at *
                  have o6 : wb.cell? ⟨b, 6, none⟩ = some (.slice (some ⟨q3, 0, none⟩) R0.length c3) := hOw.own.cell 6
                  go_wp2
                  clear o6
                  go_loopw [101] (fun iv wr => ∃ i : Nat, i ≤ R0.length ∧ iv = .int .i64 i ∧ Ow w b q0 q1 q3 P0.l.length Z0.length R0.length c0 c1 c3 #[.slice aL P0.l.length cL, .int .i64 P0.lo, .int .i64 P0.un, .slice aS Z0.length cS, .slice aI I0.length cI, .int .i64 E0, .slice aR R0.length cR] #[.slice (some ⟨q0, 0, none⟩) P0.l.length c0, .int .i64 P0.lo, .int .i64 P0.un, .slice (some ⟨q1, 0, none⟩) Z0.length c1, .slice (some ⟨q2, 0, none⟩) I0.length c2, .int .i64 E0, .slice (some ⟨q3, 0, none⟩) R0.length c3] k X (newM k I0 R0) wr) (fun iv _ => R0.length - (intOf iv).toNat)
                  case atStart => exact ⟨0, Nat.zero_le _, rfl, hOw⟩
                  case round =>
                    clear hOw
                    obtain ⟨i, hi, rfl, hOw⟩ := hrel
                    by_cases hlt : i < R0.length
                    · have o6 : wr.cell? ⟨b, 6, none⟩ = some (.slice (some ⟨q3, 0, none⟩) R0.length c3) := hOw.own.cell 6
                      obtain ⟨⟨v0, d0⟩, hf⟩ := hOw.cellR hlt
                      have hil : (i : Int) < R0.length := by omega
                      have HOw := Lib.hid hOw
                      clear hOw
                      go_wp2
                      go_roundw
                      case rel => exact ⟨i + 1, by omega, by go_num, HOw.out.reg i _⟩
                      case measure => simp [intOf]; omega
                    · obtain rfl : i = R0.length := by omega
                      generalize wr = wc at *
                      have hRf := lRef10 (HSV.out.below hOw.bel) (by have := HL.out.2.1; omega)
                      obtain ⟨x0, x1, x2, x3, x4, x5, x6⟩ : wc.cell? ⟨w.heap.size, 0, none⟩ = some (.slice aL P0.l.length cL) ∧ wc.cell? ⟨w.heap.size, 1, none⟩ = some (.int .i64 P0.lo) ∧ wc.cell? ⟨w.heap.size, 2, none⟩ = some (.int .i64 P0.un) ∧ wc.cell? ⟨w.heap.size, 3, none⟩ = some (.slice aS Z0.length cS) ∧ wc.cell? ⟨w.heap.size, 4, none⟩ = some (.slice aI I0.length cI) ∧ wc.cell? ⟨w.heap.size, 5, none⟩ = some (.int .i64 E0) ∧ wc.cell? ⟨w.heap.size, 6, none⟩ = some (.slice aR R0.length cR) := ⟨hOw.box.cell 0, hOw.box.cell 1, hOw.box.cell 2, hOw.box.cell 3, hOw.box.cell 4, hOw.box.cell 5, hOw.box.cell 6⟩
                      have HOw := Lib.hid hOw
                      clear hOw
                      go_wp2_with fail
                      refine hRf.mono ?_
                      rintro e w6 ⟨v6, rfl, hv6, hw6⟩
                      have hNy : Calls Tryz.prog 9 #[v6, .int .i64 R0.length] w6 (NewYP w6 wc.heap.size k I0 R0) := by
                        have h9 := yNew (w := w6) (base := wc.heap.size) (v := v6) (init := I0) (r7 := R0) hw6.size HK.out.2.2.1 (by rw [HK.out.1]; simp only; rw [show ((EN : Nat) : Int) = E0 from HK.out.2.2.2.symm]; exact hv6) (by rw [HK.out.1]; exact HOK.out.len) ui (by rw [HK.out.1]) ur
                        rw [HK.out.2.1] at h9
                        exact h9
                      clear hRf hv6 x0 x1 x2 x3 x4 x5 x6
                      go_wp2_with fail
                      refine hNy.mono ?_
                      rintro e w7 ⟨Y, rfl, hY, hw7, hYo⟩
                      have hT : Two w k X Y (newM k I0 R0) (newM k I0 R0) w7 := by
                        have hb7 := hw6.trans (hw7.mono hw6.size)
                        exact ⟨HOw.out.ex.below hb7, hY, HOw.out.bel.trans (hb7.mono HOw.out.bel.size), fun i hi hy => by have := HOw.out.ex.lt hi; have := hYo i hy; omega, fun i hi => by have := HXO.out i hi; omega, fun i hi => Nat.le_trans HOw.out.bel.size (hYo i hi)⟩
                      have HT := Lib.hid hT
                      clear hNy hY hw7 hYo hw6 HOw hT
                      go_wp2
                      go_loopw [118] (fun j wr => ∃ (i : Nat) (M : PM) (Y' : YP) (m : Mc), i ≤ len1 ∧ j = .int .i64 i ∧ Y'.y = Y.y ∧ Two w k { X with M := M } Y' m m wr) (fun j _ => len1 - (intOf j).toNat)
                      case atStart => exact ⟨0, X.M, Y, _, Nat.zero_le _, rfl, rfl, HT.out⟩
                      case round =>
                        clear HT
                        obtain ⟨i, M, Y', m, hi, rfl, hyy, hT⟩ := hrel
                        have HT := Lib.hid (And.intro hT hyy)
                        clear hT hyy
                        by_cases hlt : i < len1
                        · obtain ⟨bb, off, rfl, hcs⟩ := g1.at_ hlt HT.out.1.bel
                          obtain ⟨_, r0', kd, rfl, wkd⟩ := hcs 0 (by omega)
                          obtain ⟨_, r1', T, rfl, wT⟩ := hcs 1 (by omega)
                          obtain ⟨_, r2', lt, rfl⟩ := hcs 2 (by omega)
                          clear hcs wkd wT
                          rw [Nat.add_zero] at r0'
                          have hBq := Bk.made wr 49 #[.int .i64 kd, .int .i64 T, .bool lt]
                          have hA : Below wr.heap.size wr (wr.alloc (.cells #[.int .i64 kd, .int .i64 T, .bool lt] 49)) := (Below.refl _ _).alloc (Nat.le_refl _) _
                          have HO := Lib.hid (And.intro hBq (And.intro (HT.out.1.below hA) (And.intro (fun i (hi : XP.Own { X with M := M } k.n i) => HT.out.1.ex.lt hi) (And.intro HT.out.2 (fun i (hi : Y'.Own k.n i) => HT.out.1.ey.lt hi)))))
                          clear hBq hA HT
                          go_upto_region 27 with fail
                          generalize wr.alloc (.cells #[.int .i64 kd, .int .i64 T, .bool lt] 49) = wd at HO ⊢
                          generalize wr.heap.size = qb at HO ⊢
                          clear r0' r1' r2'
                          obtain ⟨s0, s1, s2⟩ : wd.cell? ⟨qb, 0, none⟩ = some (.int .i64 kd) ∧ wd.cell? ⟨qb, 1, none⟩ = some (.int .i64 T) ∧ wd.cell? ⟨qb, 2, none⟩ = some (.bool lt) := ⟨HO.out.1.cell 0, HO.out.1.cell 1, HO.out.1.cell 2⟩
                          have hF0 := HO.out.2.1
                          by_cases hT0 : 0 ≤ T
                          · by_cases hT1 : T < R0.length
                            · obtain ⟨t, rfl⟩ := Int.eq_ofNat_of_zero_le hT0
                              have ht : t < k.n := by have := HK.out.2.1; omega
                              clear hT0 hF0
                              by_cases hk12 : kd = 1 ∨ kd = 2
                              · rcases hk12 with rfl | rfl
                                · have hBg := xBegin HO.out.2.1.ex t ht false
                                  go_wp2_with fail
                                  refine hBg.mono ?_
                                  rintro e w3 ⟨vv3, M3, rfl, -, hX3, hs3⟩
                                  have h3 := HO.out.2.1.x hX3 hs3
                                  have hq3 : Bk w3 qb 49 #[.int .i64 1, .int .i64 t, .bool lt] := Bk.within HO.out.1 hs3.1 (fun e => by have := HO.out.2.2.1 _ (XP.has_own e); omega)
                                  obtain ⟨p0, p1⟩ : w3.cell? ⟨qb, 0, none⟩ = some (.int .i64 1) ∧ w3.cell? ⟨qb, 1, none⟩ = some (.int .i64 t) := ⟨hq3.cell 0, hq3.cell 1⟩
                                  have hYb : Calls Tryz.prog 11 #[.pointer (some ⟨Y.y, 0, none⟩), .int .i64 t, .int .i64 0] w3 (CameY w3 Y' k (beginM k m t false)) := by
                                    rw [← HO.out.2.2.2.1]
                                    exact yBegin h3.ey t ht false
                                  clear hBg hX3 hs3 hq3 s0 s1 s2
                                  unfold otV
                                  go_wp2_with fail
                                  refine hYb.mono ?_
                                  rintro e w4 ⟨v4, Y4, rfl, -, hE4, hs4⟩
                                  have hF := h3.y hE4 hs4
                                  have hyF := hs4.2.2.trans HO.out.2.2.2.1
                                  clear hYb h3 hE4 hs4 p0 p1
                                  unfold otR
                                  go_wp2
                                  go_roundw
                                  case rel => exact ⟨i + 1, M3, Y4, _, by omega, by go_num, hyF, hF⟩
                                  case measure => simp [intOf]; omega
                                · have hBg := xBegin HO.out.2.1.ex t ht true
                                  go_wp2_with fail
                                  refine hBg.mono ?_
                                  rintro e w3 ⟨vv3, M3, rfl, -, hX3, hs3⟩
                                  have h3 := HO.out.2.1.x hX3 hs3
                                  have hq3 : Bk w3 qb 49 #[.int .i64 2, .int .i64 t, .bool lt] := Bk.within HO.out.1 hs3.1 (fun e => by have := HO.out.2.2.1 _ (XP.has_own e); omega)
                                  obtain ⟨p0, p1⟩ : w3.cell? ⟨qb, 0, none⟩ = some (.int .i64 2) ∧ w3.cell? ⟨qb, 1, none⟩ = some (.int .i64 t) := ⟨hq3.cell 0, hq3.cell 1⟩
                                  have hYb : Calls Tryz.prog 11 #[.pointer (some ⟨Y.y, 0, none⟩), .int .i64 t, .int .i64 1] w3 (CameY w3 Y' k (beginM k m t true)) := by
                                    rw [← HO.out.2.2.2.1]
                                    exact yBegin h3.ey t ht true
                                  clear hBg hX3 hs3 hq3 s0 s1 s2
                                  unfold otV
                                  go_wp2_with fail
                                  refine hYb.mono ?_
                                  rintro e w4 ⟨v4, Y4, rfl, -, hE4, hs4⟩
                                  have hF := h3.y hE4 hs4
                                  have hyF := hs4.2.2.trans HO.out.2.2.2.1
                                  clear hYb h3 hE4 hs4 p0 p1
                                  unfold otR
                                  go_wp2
                                  go_roundw
                                  case rel => exact ⟨i + 1, M3, Y4, _, by omega, by go_num, hyF, hF⟩
                                  case measure => simp [intOf]; omega
                              · have hk1 : kd ≠ 1 := fun e => hk12 (.inl e)
                                have hk2 : kd ≠ 2 := fun e => hk12 (.inr e)
                                have b1 : (kd == 1) = false := by simpa using hk1
                                have b2 : (kd == 2) = false := by simpa using hk2
                                clear hk12 hk1 hk2
                                have hSt := xStep HO.out.2.1.ex t ht lt
                                go_wp2_with fail
                                refine hSt.mono ?_
                                rintro e w3 ⟨vv3, M3, rfl, -, hX3, hs3⟩
                                have h3 := HO.out.2.1.x hX3 hs3
                                have hq3 : Bk w3 qb 49 #[.int .i64 kd, .int .i64 t, .bool lt] := Bk.within HO.out.1 hs3.1 (fun e => by have := HO.out.2.2.1 _ (XP.has_own e); omega)
                                have HY32 : Hid (∀ W, Below w3.heap.size w3 W → Calls Tryz.prog 13 #[.pointer (some ⟨Y.y, 0, none⟩), .int .i64 t, .int .i64 (one01 lt)] W fun e zz => ∃ v9 Y9, e = .returned v9 ∧ Y9.y = Y.y ∧ Two w k { X with M := M3 } Y9 (stepM k m t lt).1 (stepM k m t lt).1 zz ∧ Bk zz qb 49 #[.int .i64 kd, .int .i64 t, .bool lt]) := Lib.hid fun W hW => by
                                  have h4 := h3.below hW
                                  have h9 := yStep h4.ey t ht lt
                                  rw [HO.out.2.2.2.1] at h9
                                  exact h9.mono fun e zz ⟨v9, Y9, e9, _, hE9, hs9⟩ => ⟨_, Y9, e9, hs9.2.2.trans HO.out.2.2.2.1, h4.y hE9 hs9, Bk.within ((hW.block _ (Bk.lt hq3)).trans hq3) hs9.1 (fun e => by have := HO.out.2.2.2.2 _ e; omega)⟩
                                clear hSt hX3 hs3 h3 s0 s1 s2
                                unfold otV
                                go_upto_region 32 with fail
                                refine wp_region_flow [6] (fun j W => Bk W qb 49 #[.int .i64 kd, .int .i64 t, .bool lt] ∧ (match j with | 0 => Below w3.heap.size w3 W | _ => ∃ Y9 : YP, Y9.y = Y.y ∧ Two w k { X with M := M3 } Y9 (stepM k m t lt).1 (stepM k m t lt).1 W)) (fun _ _ _ => True) (fun vs => { tmps := #[.agg #[.slice aL P0.l.length cL, .int .i64 P0.lo, .int .i64 P0.un, .slice aS Z0.length cS, .slice aI I0.length cI, .int .i64 E0, .slice aR R0.length cR], .slice (some ⟨bb, off, none⟩) len1 cap1, .pointer (some ⟨w.heap.size, 0, none⟩), undef, .bool false, .int .i64 (R0.length : Int), .pointer (some ⟨b, 0, none⟩), .pointer (some ⟨X.x, 0, none⟩), .int .i64 0, u9, u10, u11, .pointer (some ⟨Y.y, 0, none⟩), undef, .pointer (some ⟨qb, 0, none⟩), .pointer (some ⟨w.heap.size, 6, none⟩), .slice aR R0.length cR, .int .i64 (R0.length : Int), .agg #[.slice aL P0.l.length cL, .int .i64 P0.lo, .int .i64 P0.un, .slice aS Z0.length cS, .slice aI I0.length cI, .int .i64 E0, .slice aR R0.length cR], .bool true, .bool false, .bool false, .slice (some ⟨bb, off, none⟩) len1 cap1, .int .i64 (len1 : Int), .bool (decide (40 < (len1 : Int))), .bool (decide (40 < (len1 : Int))), .bool (decide (40 < (len1 : Int))), .agg #[.slice aL P0.l.length cL, .int .i64 P0.lo, .int .i64 P0.un, .slice aS Z0.length cS, .slice aI I0.length cI, .int .i64 E0, .slice aR R0.length cR], v3, .int .i64 (R0.length : Int), .bool true, .bool false, .bool (decide (40 < (len1 : Int))), undef, r0, .pointer (some ⟨w.heap.size, 0, none⟩), .pointer (some ⟨w.heap.size, 0, none⟩), .slice aL P0.l.length cL, r4, .pointer (some ⟨w.heap.size, 0, none⟩), .pointer (some ⟨w.heap.size, 1, none⟩), .int .i64 P0.lo, .pointer (some ⟨w.heap.size, 0, none⟩), .pointer (some ⟨w.heap.size, 2, none⟩), .int .i64 P0.un, r11, r12, .pointer (some ⟨w.heap.size, 3, none⟩), .slice aS Z0.length cS, r15, r16, .pointer (some ⟨w.heap.size, 4, none⟩), .slice aI I0.length cI, r19, .pointer (some ⟨w.heap.size, 5, none⟩), .int .i64 E0, r22, .pointer (some ⟨w.heap.size, 6, none⟩), .slice aR R0.length cR, r25, r26, .tuple #[.pointer (some ⟨X.x, 0, none⟩), .int .i64 0], .agg #[.slice (some ⟨q0, 0, none⟩) P0.l.length c0, .int .i64 P0.lo, .int .i64 P0.un, .slice (some ⟨q1, 0, none⟩) Z0.length c1, .slice (some ⟨q2, 0, none⟩) I0.length c2, .int .i64 E0, .slice (some ⟨q3, 0, none⟩) R0.length c3], .int .i64 (R0.length : Int), .tuple #[.pointer (some ⟨X.x, 0, none⟩), .int .i64 0], .pointer (some ⟨X.x, 0, none⟩), .int .i64 0, .int .i64 0, .bool false, .bool false, .pointer (some ⟨X.x, 0, none⟩), .bool false, .bool false, .pointer (some ⟨b, 0, none⟩), .pointer (some ⟨b, 0, none⟩), .slice (some ⟨q0, 0, none⟩) P0.l.length c0, .int .i64 (P0.l.length : Int), .int .i64 (P0.l.length : Int), .bool false, u79, u80, u81, u82, u83, u84, u85, u86, .pointer (some ⟨b, 3, none⟩), .slice (some ⟨q1, 0, none⟩) Z0.length c1, .int .i64 (Z0.length : Int), .int .i64 (Z0.length : Int), .bool false, u92, u93, u94, u95, u96, u97, .pointer (some ⟨b, 6, none⟩), .slice (some ⟨q3, 0, none⟩) R0.length c3, .int .i64 (R0.length : Int), .int .i64 (R0.length : Int), .bool false, u103, u104, u105, u106, u107, u108, u109, u110, u111, .agg #[.slice aL P0.l.length cL, .int .i64 P0.lo, .int .i64 P0.un, .slice aS Z0.length cS, .slice aI I0.length cI, .int .i64 E0, .slice aR R0.length cR], v6, .int .i64 (R0.length : Int), .pointer (some ⟨Y.y, 0, none⟩), .slice (some ⟨bb, off, none⟩) len1 cap1, .int .i64 (len1 : Int), .int .i64 (i : Int), .bool true, .pointer (some ⟨bb, off + i * 3, none⟩), .agg #[.int .i64 kd, .int .i64 (t : Int), .bool lt], .pointer (some ⟨qb, 1, none⟩), .int .i64 (t : Int), .bool (decide ((t : Int) < 0)), .bool (decide ((t : Int) < 0)), .pointer (some ⟨qb, 1, none⟩), .int .i64 (t : Int), .int .i64 (R0.length : Int), .bool false, .bool (decide ((t : Int) < 0)), .pointer (some ⟨qb, 0, none⟩), .int .i64 kd, .bool false, .bool false, .pointer (some ⟨qb, 0, none⟩), .int .i64 kd, .bool false, .bool false, u139, u140, u141, u142, u143, u144, u145, u146, u147, u148, u149, u150, u151, u152, .pointer (some ⟨X.x, 0, none⟩), .pointer (some ⟨qb, 1, none⟩), .int .i64 (t : Int), .pointer (some ⟨qb, 2, none⟩), .bool lt, .agg #[vv3, .int .i64 (stepM k m t lt).snd.done, .int .i64 (stepM k m t lt).snd.addr, .bool (stepM k m t lt).snd.wrote, .bool (stepM k m t lt).snd.stay, .int .i64 (stepM k m t lt).snd.e], vs 0, vs 1, vs 2, vs 3, vs 4, vs 5, vs 6, u166, undef, undef, undef, undef, undef, undef], defers := [] }) (mixT [(6, (fun _ _ => True))] [.pointer (some ⟨Y.y, 0, none⟩), .pointer (some ⟨qb, 1, none⟩), .int .i64 t, .pointer (some ⟨qb, 2, none⟩), .bool lt, .int .i64 (one01 lt), undef]) ?ghm ?ghr ?ghc ?ghnd ?ghlit ?gh0 ?ghW ?ghF ?ghS ?gops ?gdone
                                case ghm => kernel_rfl
                                case ghr => kernel_rfl
                                case ghc => kernel_rfl
                                case ghnd => decide
                                case ghlit => intro vs; rfl
                                case gh0 => exact ⟨hq3, Below.refl _ _⟩
                                case ghW => exact fun kk W W2 h hb => match kk, h with
                                  | 0, h => ⟨(hb.block _ (Bk.lt h.1)).trans h.1, h.2.trans (hb.mono h.2.size)⟩
                                  | _ + 1, ⟨q9, Y9, h1, h2⟩ => ⟨(hb.block _ (Bk.lt q9)).trans q9, Y9, h1, h2.below hb⟩
                                case ghF => exact mixT_stable (by
                                  intro p0 hp
                                  simp only [List.mem_cons, List.not_mem_nil, or_false] at hp
                                  rcases hp with rfl
                                  exact fun _ _ _ _ _ => trivial)
                                case ghS => exact fun kk W W2 _ hs i v h => mixT_keep (R := fun _ _ => True) (ps := [(6, (fun _ _ => True))]) (l := [.pointer (some ⟨Y.y, 0, none⟩), .pointer (some ⟨qb, 1, none⟩), .int .i64 t, .pointer (some ⟨qb, 2, none⟩), .bool lt, .int .i64 (one01 lt), undef]) (by
                                  intro p0 hp
                                  simp only [List.mem_cons, List.not_mem_nil, or_false] at hp
                                  rcases hp with rfl
                                  exact fun _ _ _ _ _ => trivial) i v W W2 h trivial
                                case gops =>
                                  refine ⟨?_, ?_, ?_, ?_, ?_, ?_, ?_, trivial⟩
                                  · intro vs W kk h1 h2 hW hd
                                    obtain rfl : kk = 0 := Nat.le_zero.1 h2
                                    refine leaves_free rfl ?_
                                    clear hd
                                    go_simp
                                    exact ⟨rfl, Below.refl _ _⟩
                                  · intro vs W kk h1 h2 hW hd
                                    refine leaves_free rfl ?_
                                    clear hd
                                    go_simp
                                    exact ⟨rfl, Below.refl _ _⟩
                                  · intro vs W kk h1 h2 hW hd
                                    obtain rfl : kk = 0 := Nat.le_zero.1 h2
                                    refine leaves_free rfl ?_
                                    have e1 : vs 1 = .pointer (some ⟨qb, 1, none⟩) := hd 1 (by decide)
                                    have hq := hW.1; have y1 : W.cell? ⟨qb, 1, none⟩ = some (.int .i64 t) := hq.cell 1; have y2 : W.cell? ⟨qb, 2, none⟩ = some (.bool lt) := hq.cell 2; clear hq
                                    clear hd
                                    go_simp
                                    exact ⟨rfl, Below.refl _ _⟩
                                  · intro vs W kk h1 h2 hW hd
                                    refine leaves_free rfl ?_
                                    clear hd
                                    go_simp
                                    exact ⟨rfl, Below.refl _ _⟩
                                  · intro vs W kk h1 h2 hW hd
                                    refine leaves_free rfl ?_
                                    have e3 : vs 3 = .pointer (some ⟨qb, 2, none⟩) := hd 3 (by decide)
                                    have hq := hW.1; have y1 : W.cell? ⟨qb, 1, none⟩ = some (.int .i64 t) := hq.cell 1; have y2 : W.cell? ⟨qb, 2, none⟩ = some (.bool lt) := hq.cell 2; clear hq
                                    clear hd
                                    go_simp
                                    exact ⟨rfl, Below.refl _ _⟩
                                  · intro vs W kk h1 h2 hW hd
                                    obtain rfl : kk = 0 := Nat.le_zero.1 h2
                                    refine leaves_free rfl ?_
                                    have e4 : vs 4 = .bool lt := hd 4 (by decide)
                                    have e4 : vs 4 = .bool lt := hd 4 (by decide)
                                    clear hd
                                    go_simp
                                    refine (lOne _ lt).mono ?_
                                    rintro e zz ⟨rfl, rfl⟩
                                    exact ⟨_, rfl, rfl, Below.refl _ _⟩
                                  · intro vs W hW hd
                                    have e0 : vs 0 = .pointer (some ⟨Y.y, 0, none⟩) := hd 0 (by decide)
                                    have e2 : vs 2 = .int .i64 t := hd 2 (by decide)
                                    have e5 : vs 5 = .int .i64 (one01 lt) := hd 5 (by decide)
                                    have hq := hW.1; have y1 : W.cell? ⟨qb, 1, none⟩ = some (.int .i64 t) := hq.cell 1; have y2 : W.cell? ⟨qb, 2, none⟩ = some (.bool lt) := hq.cell 2; clear hq
                                    refine leavesIf_free rfl ?_
                                    clear hd
                                    go_simp
                                    refine (HY32.out W hW.2).mono ?_
                                    rintro e zz ⟨v9, Y9, rfl, h1, h2, q9⟩
                                    exact ⟨_, rfl, by first | exact ⟨trivial, ⟨q9, Y9, h1, h2⟩, trivial⟩ | exact ⟨⟨q9, Y9, h1, h2⟩, trivial⟩ | exact ⟨q9, Y9, h1, h2⟩ | exact ⟨trivial, q9, Y9, h1, h2⟩⟩
                                case gdone =>
                                  intro vs W hW hf
                                  have f0 : vs 0 = .pointer (some ⟨Y.y, 0, none⟩) := hf 0 (by decide)
                                  have f1 : vs 1 = .pointer (some ⟨qb, 1, none⟩) := hf 1 (by decide)
                                  have f2 : vs 2 = .int .i64 t := hf 2 (by decide)
                                  have f3 : vs 3 = .pointer (some ⟨qb, 2, none⟩) := hf 3 (by decide)
                                  have f4 : vs 4 = .bool lt := hf 4 (by decide)
                                  have f5 : vs 5 = .int .i64 (one01 lt) := hf 5 (by decide)
                                  simp only [f0, f1, f2, f3, f4, f5]
                                  clear f0 f1 f2 f3 f4 f5
                                  obtain ⟨-, Y9, h1, h2⟩ : Bk W qb _ _ ∧ ∃ Y9 : YP, Y9.y = Y.y ∧ Two w k { X with M := M3 } Y9 (stepM k m t lt).1 (stepM k m t lt).1 W := hW
                                  generalize vs 6 = r6 at *
                                  clear hf
                                  go_wp2
                                  go_roundw
                                  case rel => exact ⟨i + 1, M3, Y9, _, by omega, by go_num, h1, h2⟩
                                  case measure => simp [intOf]; omega
                            · go_wp2
                              go_roundw
                              case rel => exact ⟨i + 1, M, Y', m, by omega, by go_num, HO.out.2.2.2.1, hF0⟩
                              case measure => simp [intOf]; omega
                          · go_wp2
                            go_roundw
                            case rel => exact ⟨i + 1, M, Y', m, by omega, by go_num, HO.out.2.2.2.1, hF0⟩
                            case measure => simp [intOf]; omega
                        · obtain rfl : i = len1 := by omega
                          have hAl : Calls Tryz.prog 15 #[.pointer (some ⟨X.x, 0, none⟩), .pointer (some ⟨Y.y, 0, none⟩)] wr fun e w' => e = .returned (.bool true) ∧ Below wr.heap.size wr w' := by
                            rw [← HT.out.2]
                            exact lAlike (X := { X with M := M }) HT.out.1.ex HT.out.1.ey
                          go_wp2_with fail
                          refine hAl.mono ?_
                          rintro e w8 ⟨rfl, hw8⟩
                          clear hAl
                          go_wp2_with fail
                          refine (lAwake10 _).mono ?_
                          rintro e w9 ⟨rfl, hw9⟩
                          have hF := HT.out.1.bel.trans ((hw8.trans (hw9.mono hw8.size)).mono HT.out.1.bel.size)
                          go_wp2
                          go_ret
                          exact ⟨rfl, hF⟩
    · go_wp2_with fail
      refine (lAwake10 _).mono ?_
      rintro e y3 ⟨rfl, hy3⟩
      go_wp2
      go_ret
      exact ⟨rfl, Q2.out.2.1.trans (hy3.mono Q2.out.2.1.size)⟩
  · have hf : (decide (P0.l.length ≤ 80) && (decide (Z0.length ≤ 12) && (decide (I0.length ≤ 300) && decide (R0.length ≤ 80)))) = false := by
      rw [Bool.eq_false_iff]
      intro e
      simp only [Bool.and_eq_true, decide_eq_true_eq] at e
      exact hsm e
    rw [hf] at hS
    clear hf hsm
    go_wp2_with fail
    refine hS.mono ?_
    rintro e y2 ⟨rfl, hy2⟩
    clear hS
    go_wp2_with fail
    refine (lAwake10 _).mono ?_
    rintro e y3 ⟨rfl, hy3⟩
    go_wp2
    go_ret
    exact ⟨rfl, Q0.out.2.1.trans ((hy2.trans (hy3.mono hy2.size)).mono Q0.out.2.1.size)⟩

set_option maxRecDepth 100000 in
theorem lifted (os : Os) (started : os.Started) (H : Type) (enc : TypeId × Value → H) :
    ReturnsInHanded {} Tryz.checked os 3 .any (Rows.execOwnSpec.pre6 enc Tryz.prog Tryz.f3 Rows.execOwnRow.domain false) (Rows.execOwnSpec.post enc Tryz.prog Tryz.f3 false true false false) := by
  refine returnsInHanded_of_change (C := Tryz.checked) own started (by kernel_rfl) Tryz.func3
    (ChangeSpec.witness6 (enc := enc) (C := Tryz.checked) false ⟨#[], #[.agg #[.slice none 0 0, .int .i64 0, .int .i64 0, .slice none 0 0, .slice none 0 0, .int .i64 0, .slice none 0 0], .slice none 0 0], []⟩ 8 (by kernel_rfl) (by kernel_rfl) (by kernel_rfl) (by kernel_rfl)) ?_
  intro W base args ds gs before hval0 hW hcnd _
  have hval : ∀ (j : Nat) t v, Tryz.f3.params[j]? = some t → args[j]? = some v → Value.okWide Tryz.prog W .any base t v := hval0
  have hW' := hW
  obtain ⟨p, q, hA0, hV, rfl, hfz, hnd⟩ := hW
  have hA : DataW.TrodAll enc Tryz.prog W 0 (fun _ => true) true Tryz.f3.params.toList args.toList ds p := hA0
  rw [Tryz.params3] at hA hval
  obtain ⟨v0, vs0, d0, ds0, p0, q0, hargs, rfl, rfl, h0, r0⟩ := trodAll_cons hA
  obtain ⟨v1, vs1, d1, ds1, p1, q1, rfl, rfl, rfl, h1, r1⟩ := trodAll_cons r0
  obtain ⟨rfl, rfl, rfl⟩ := trodAll_nil r1
  obtain rfl : args = #[v0, v1] := by cases args; simp_all
  obtain ⟨rfl, rfl⟩ := trodVars_none hV
  have k0 := h0
  have lt0 : ∀ x ∈ p0, x.block < W.heap.size := by obtain ⟨m, hm⟩ := k0; exact DataW.trod_lt m _ _ _ hm
  obtain ⟨P0, Z0, I0, R0, E0, sv0, pw0, ui0, ur0⟩ := open_spec (hval 0 28 v0 rfl rfl) h0
  obtain ⟨a1, len1, cap1, rfl⟩ := okWide_slice Tryz.underlying29 (hval 1 29 v1 rfl rfl)
  have k1 := h1
  have lt1 : ∀ x ∈ p1, x.block < W.heap.size := by obtain ⟨m, hm⟩ := k1; exact DataW.trod_lt m _ _ _ hm
  obtain ⟨hb1, g1⟩ : len1 ≤ maxLen ∧ Recs W a1 len1 3 Cell1 := by
    obtain ⟨fuel, hf⟩ := h1
    obtain ⟨hle, hr⟩ := open_recs Tryz.underlying29 Tryz.underlying49 (by kernel_rfl) (by kernel_rfl) (by decide) (by simpa [Value.cells] using hf)
    refine ⟨hle, fun h0 => ?_⟩
    obtain ⟨b, off, e, hlt, hc⟩ := hr h0
    refine ⟨b, off, e, hlt, fun i hi j hj => ?_⟩
    obtain ⟨u, hu, hw⟩ := hc i hi j hj
    refine ⟨u, hu, ?_⟩
    match j, hj with
    | 0, _ => obtain ⟨n, y, hy⟩ := hw _ rfl; obtain ⟨x, e, _, wx⟩ := DataW.trod_int Tryz.underlying3 hy; simp at e; subst e; exact ⟨x, rfl, wx⟩
    | 1, _ => obtain ⟨n, y, hy⟩ := hw _ rfl; obtain ⟨x, e, _, wx⟩ := DataW.trod_int Tryz.underlying3 hy; simp at e; subst e; exact ⟨x, rfl, wx⟩
    | 2, _ => obtain ⟨n, y, hy⟩ := hw _ rfl; obtain ⟨x, e, _⟩ := DataW.trod_bool Tryz.underlying4 hy; simp at e; subst e; exact ⟨x, rfl⟩
  clear hA0 hval0
  refine (walk P0 Z0 I0 R0 E0 v0 a1 len1 cap1 W sv0 pw0 ui0 ur0 g1 hb1).mono fun e W' ⟨he, bel⟩ => ?_
  subst he
  exact ⟨_, rfl, _, _, _, [], _, [], hW', trodAll_mk1 (shut_bool Tryz.underlying4 _), (trodAll_cons_mk (Below.trod laidOut (by kernel_rfl) (of_decide_eq_true (by kernel_rfl)) k0 bel lt0) (trodAll_cons_mk (Below.trod laidOut (by kernel_rfl) (of_decide_eq_true (by kernel_rfl)) k1 bel lt1) trodAll_mk0)), rfl, bel.frame _, fun h => by cases h⟩

theorem over : Rows.execOwnRow.holds Tryz.pinned (OpenSpec.ofChange Rows.execOwnSpec) :=
  OpenClaim.holds_of_wide 3 Tryz.f3 rfl rfl rfl rfl rfl rfl rfl ⟨rfl, rfl, rfl, rfl, rfl⟩ rfl rfl rfl rfl rfl (by kernel_rfl) Tryz.func3 (by kernel_rfl)
    (of_decide_eq_true (by kernel_rfl)) (by unfold Func.isWrapper; first | (rw [if_pos (by decide +kernel)]; kernel_rfl) | (rw [if_neg (by decide +kernel)]; exact ⟨rfl, rfl⟩))
    (fun os started H enc _ => lifted os started H enc)

/-- The statement. -/
theorem proved : Rows.ExecOwnSaid := over
#print axioms proved
end Go.Proofs.YtpinpipjlongaaaGreat.execOwn
