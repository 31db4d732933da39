/- The law ExecStays of layer 10, walked. -/
import Derived.Test.YtpinpipjlongaaaExW
import Derived.Test.YtpinpipjlongaaaCoreM
import Derived.Deep.DeepCutAuto
import Derived.Deep.LoopGhost
import Derived.WalkKit
import Derived.ProofKit
import Derived.OpenShut
import Derived.ChangeOld
namespace Go.Proofs.Ytpinpipjlongaaa.execStays
set_option maxRecDepth 100000
open Go.Joins Go.ChangeShapes Go.WideShapes Go.ChangeAt Go.RowKit Go.Deep
set_option linter.unusedVariables false

/-- A lock at work behind a law's start: nothing old has changed, the lock is all new, and the law's spec lies where it lay. -/
structure Live (w : World) (sc : List Value) (k : Lk) (X : XP) (m : Mc) (wr : World) : Prop where
  ex : Ex wr X k m
  bel : Below w.heap.size w wr
  own : ∀ i, X.Own k.n i → w.heap.size + 1 ≤ i
  box : Bk wr w.heap.size 28 sc.toArray
section
variable {w wr wr' : World} {sc : List Value} {k : Lk} {X X' : XP} {m m' : Mc}
theorem Live.below (h : Live w sc k X m wr) (hb : Below wr.heap.size wr wr') : Live w sc k X m wr' := ⟨h.ex.below hb, h.bel.trans (hb.mono h.bel.size), h.own, (hb.block _ h.box.lt).trans h.box⟩
theorem Live.came (h : Live w sc k X m wr) (e : Ex wr' X' k m') (s : XStays wr k.n X wr' X') : Live w sc k X' m' wr' :=
  ⟨e, (stays_below h.bel (fun i hi => by have := h.own i hi; omega) s).1, fun i hi => by
    rcases s.2.1 i hi with q | q
    · exact h.own i q
    · have := h.box.lt; omega, (s.1.block _ h.box.lt (fun e => by have := h.own _ (XP.has_own e); omega)).trans h.box⟩
end
theorem Sv.below {w w' : World} {v : Value} {c : Prg} {zs init r7 : List Int} {each : Int} (h : Sv w v c zs init r7 each) (hb : Below w.heap.size w w') : Sv w' v c zs init r7 each := by
  obtain ⟨aL, cL, aS, cS, aI, cI, aR, cR, e, h1, h2, h3, h4, h5⟩ := h
  exact ⟨aL, cL, aS, cS, aI, cI, aR, cR, e, h1.below hb, h2.below hb, h3.below hb, h4.below hb, h5⟩

/-- Behind a step that stayed: the operation, the words as they were, and what it came to lie where they lie. -/
structure Mid (w : World) (sc : List Value) (k : Lk) (X : XP) (m : Mc) (qb : Nat) (kd : Int) (t : Nat) (lt : Bool) (qw : Nat) (ws : List Int) (qo : Nat) (a3 : Option Addr) (c3 a : Nat) (W : World) : Prop where
  live : Live w sc k X m W
  op : Bk W qb 44 #[.int .i64 kd, .int .i64 t, .bool lt]
  ws : Bk W qw 49 (words ws)
  out : Bk W qo 46 #[.slice a3 0 c3, .int .i64 (-1), .int .i64 a, .bool false, .bool true, .int .i64 0]
  apart : ∀ i, X.Own k.n i → i ≠ qb
  old : ∀ i, X.Own k.n i → i < qo
theorem Mid.below {w : World} {sc : List Value} {k : Lk} {X : XP} {m : Mc} {qb : Nat} {kd : Int} {t : Nat} {lt : Bool} {qw : Nat} {ws : List Int} {qo : Nat} {a3 : Option Addr} {c3 a : Nat} {W W' : World} (h : Mid w sc k X m qb kd t lt qw ws qo a3 c3 a W) (hb : Below W.heap.size W W') : Mid w sc k X m qb kd t lt qw ws qo a3 c3 a W' :=
  ⟨h.live.below hb, (hb.block _ h.op.lt).trans h.op, (hb.block _ h.ws.lt).trans h.ws, (hb.block _ h.out.lt).trans h.out, h.apart, h.old⟩

theorem run_neC (xs : List Int) (p : Int) (hx : xs.length = 8) (w : World) : (binOp .neq 52 (cv xs p) (cv xs p)).run Try.prog w = .ok (.bool false) w := by
  obtain ⟨x0, x1, x2, x3, x4, x5, x6, x7, rfl⟩ := eight_cons hx
  unfold cv
  simp only [corC, List.map_cons, List.map_nil, List.cons_append, List.nil_append]
  have hu := Try.underlying52
  have hs := fun W => same8_u32 x0 x1 x2 x3 x4 x5 x6 x7 9997 W
  simp only [Nat.reduceAdd] at hs
  go_simp

/-- What the cells of ropeline/ropelinelaw10.Op are. -/
def Cell1 (j : Nat) (u : Value) : Prop :=
  match j with
  | 0 => ∃ x, u = .int .i64 x ∧ (Lit.int .i64 x).wf = true
  | 1 => ∃ x, u = .int .i64 x ∧ (Lit.int .i64 x).wf = true
  | 2 => ∃ b, u = .bool b
  | _ => True

set_option maxHeartbeats 8000000 in
theorem walk (P0 : Prg) (Z0 I0 R0 : List Int) (E0 : Int) (v0 : Value) (a1 : Option Addr) (len1 cap1 : Nat) (w : World) (sv : Sv w v0 P0 Z0 I0 R0 E0) (pw : PrgWf P0) (ui : U32s I0) (ur : U32s R0) (g1 : Recs w a1 len1 3 Cell1) (hb1 : len1 ≤ maxLen) :
    Calls Try.prog 3 #[v0, .slice a1 len1 cap1] w fun e w' => e = .returned (.bool true) ∧ Below w.heap.size w w' := by
  have hpl : P0.l.length ≤ maxLen := by
    obtain ⟨_, _, _, _, _, _, _, _, _, hpv, _⟩ := sv
    obtain ⟨_, _, _, h1, h2, _⟩ := hpv
    omega
  unfold maxLen at hb1
  have HSV := Lib.hid sv
  obtain ⟨aL, cL, aS, cS, aI, cI, aR, cR, rfl, hpv, hgS, hgI, hgR, hm1, hm2, hm3⟩ := sv
  have HPL := Lib.hid hpl
  have HSL : Hid (Sli w aL P0.l) := Lib.hid (by
    obtain ⟨a', c', e', _, _, _, h⟩ := hpv
    injection e' with e'
    simp at e'
    obtain ⟨rfl, rfl⟩ := e'
    exact h)
  have HM3 := Lib.hid hm3
  clear hpv hgS hgI hgR hm1 hm2
  unfold maxLen at hm3
  have q0 := Bk.made w 28 #[.slice aL P0.l.length cL, .int .i64 P0.lo, .int .i64 P0.un, .slice aS Z0.length cS, .slice aI I0.length cI, .int .i64 E0, .slice aR R0.length cR]
  have b0 : Below w.heap.size w (w.alloc (.cells #[.slice aL P0.l.length cL, .int .i64 P0.lo, .int .i64 P0.un, .slice aS Z0.length cS, .slice aI I0.length cI, .int .i64 E0, .slice aR R0.length cR] 28)) := (Below.refl _ _).alloc (Nat.le_refl _) _
  have s0 : w.heap.size + 1 ≤ (w.alloc (.cells #[.slice aL P0.l.length cL, .int .i64 P0.lo, .int .i64 P0.un, .slice aS Z0.length cS, .slice aI I0.length cI, .int .i64 E0, .slice aR R0.length cR] 28)).heap.size := by simp
  have hS := lSmall (HSV.out.below b0) HPL.out
  go_enter Try.func3, Try.ntmps3
  go_upto_region 1 with fail
  generalize w.alloc (.cells #[.slice aL P0.l.length cL, .int .i64 P0.lo, .int .i64 P0.un, .slice aS Z0.length cS, .slice aI I0.length cI, .int .i64 E0, .slice aR R0.length cR] 28) = y at *
  have y1 : y.cell? ⟨w.heap.size, 0, none⟩ = some (.slice aL P0.l.length cL) ∧ y.cell? ⟨w.heap.size, 1, none⟩ = some (.int .i64 P0.lo) ∧ y.cell? ⟨w.heap.size, 2, none⟩ = some (.int .i64 P0.un) ∧ y.cell? ⟨w.heap.size, 3, none⟩ = some (.slice aS Z0.length cS) ∧ y.cell? ⟨w.heap.size, 4, none⟩ = some (.slice aI I0.length cI) ∧ y.cell? ⟨w.heap.size, 5, none⟩ = some (.int .i64 E0) ∧ y.cell? ⟨w.heap.size, 6, none⟩ = some (.slice aR R0.length cR) := ⟨q0.cell 0, q0.cell 1, q0.cell 2, q0.cell 3, q0.cell 4, q0.cell 5, q0.cell 6⟩
  obtain ⟨x0, x1, x2, x3, x4, x5, x6⟩ := y1
  have Q0 := Lib.hid (And.intro q0 (And.intro b0 s0))
  clear q0 b0 s0
  by_cases hsm : P0.l.length ≤ 80 ∧ Z0.length ≤ 12 ∧ I0.length ≤ 300 ∧ R0.length ≤ 80
  · obtain ⟨k1, k2, k3, k4⟩ := hsm
    simp only [k1, k2, k3, k4, decide_true, Bool.and_true] at hS
    have KS := Lib.hid (And.intro k1 k4)
    clear k1 k2 k3 k4
    go_wp2_with fail
    refine hS.mono ?_
    rintro e y2 ⟨rfl, hy2⟩
    have Q2 : Hid (Bk y2 w.heap.size 28 #[.slice aL P0.l.length cL, .int .i64 P0.lo, .int .i64 P0.un, .slice aS Z0.length cS, .slice aI I0.length cI, .int .i64 E0, .slice aR R0.length cR] ∧ Below w.heap.size w y2 ∧ w.heap.size + 1 ≤ y2.heap.size) := Lib.hid ⟨(hy2.block _ Q0.out.1.lt).trans Q0.out.1, Q0.out.2.1.trans (hy2.mono Q0.out.2.1.size), Nat.le_trans Q0.out.2.2 hy2.size⟩
    clear hS hy2 x0 x1 x2 x3 x4 x5 x6 Q0
    obtain ⟨x0, x1, x2, x3, x4, x5, x6⟩ : y2.cell? ⟨w.heap.size, 0, none⟩ = some (.slice aL P0.l.length cL) ∧ y2.cell? ⟨w.heap.size, 1, none⟩ = some (.int .i64 P0.lo) ∧ y2.cell? ⟨w.heap.size, 2, none⟩ = some (.int .i64 P0.un) ∧ y2.cell? ⟨w.heap.size, 3, none⟩ = some (.slice aS Z0.length cS) ∧ y2.cell? ⟨w.heap.size, 4, none⟩ = some (.slice aI I0.length cI) ∧ y2.cell? ⟨w.heap.size, 5, none⟩ = some (.int .i64 E0) ∧ y2.cell? ⟨w.heap.size, 6, none⟩ = some (.slice aR R0.length cR) := ⟨Q2.out.1.cell 0, Q2.out.1.cell 1, Q2.out.1.cell 2, Q2.out.1.cell 3, Q2.out.1.cell 4, Q2.out.1.cell 5, Q2.out.1.cell 6⟩
    by_cases h60 : len1 ≤ 60
    · have hRf := lRef10 (HSV.out.below Q2.out.2.1) (by have := KS.out.1; omega)
      go_wp2_with fail
      refine hRf.mono ?_
      rintro e y3 ⟨v3, rfl, hv3, hy3⟩
      have hRg := rRight10 hv3 pw.ins R0.length
      clear hRf x0 x1 x2 x3 x4 x5 x6 hv3
      go_wp2_with fail
      refine hRg.mono ?_
      rintro e y4 ⟨hy4, hcase⟩
      have Q4 : Hid (Bk y4 w.heap.size 28 #[.slice aL P0.l.length cL, .int .i64 P0.lo, .int .i64 P0.un, .slice aS Z0.length cS, .slice aI I0.length cI, .int .i64 E0, .slice aR R0.length cR] ∧ Below w.heap.size w y4 ∧ w.heap.size + 1 ≤ y4.heap.size) := by
        have hb := hy3.trans (hy4.mono hy3.size)
        exact Lib.hid ⟨(hb.block _ Q2.out.1.lt).trans Q2.out.1, Q2.out.2.1.trans (hb.mono Q2.out.2.1.size), Nat.le_trans Q2.out.2.2 hb.size⟩
      clear hRg hy3 hy4 Q2
      rcases hcase with rfl | ⟨rfl, hok⟩
      · go_wp2_with fail
        refine (lAwake10 _).mono ?_
        rintro e y5 ⟨rfl, hy5⟩
        go_wp2
        go_ret
        exact ⟨rfl, Q4.out.2.1.trans (hy5.mono Q4.out.2.1.size)⟩
      · obtain ⟨x0, x1, x2, x3, x4, x5, x6⟩ : y4.cell? ⟨w.heap.size, 0, none⟩ = some (.slice aL P0.l.length cL) ∧ y4.cell? ⟨w.heap.size, 1, none⟩ = some (.int .i64 P0.lo) ∧ y4.cell? ⟨w.heap.size, 2, none⟩ = some (.int .i64 P0.un) ∧ y4.cell? ⟨w.heap.size, 3, none⟩ = some (.slice aS Z0.length cS) ∧ y4.cell? ⟨w.heap.size, 4, none⟩ = some (.slice aI I0.length cI) ∧ y4.cell? ⟨w.heap.size, 5, none⟩ = some (.int .i64 E0) ∧ y4.cell? ⟨w.heap.size, 6, none⟩ = some (.slice aR R0.length cR) := ⟨Q4.out.1.cell 0, Q4.out.1.cell 1, Q4.out.1.cell 2, Q4.out.1.cell 3, Q4.out.1.cell 4, Q4.out.1.cell 5, Q4.out.1.cell 6⟩
        obtain ⟨EN, hEN⟩ := Int.eq_ofNat_of_zero_le hok.e0
        obtain ⟨k, hk⟩ : ∃ k : Lk, k = ⟨P0.l, P0.lo, P0.un, Z0, EN, R0.length⟩ := ⟨_, rfl⟩
        have hkl : k.l = P0.l := by rw [hk]
        have hkn : k.n = R0.length := by rw [hk]
        have hK : OkLk k := by
          rw [hk]
          refine ⟨hok.code, fun i hi => ?_, hok.rz, hok.few, ?_, ?_, ?_⟩
          · have := pw.ins i hi
            exact ⟨this.k0, this.k1⟩
          · have := hok.n1; simp only; omega
          · have := hok.n64; simp only; omega
          · have := hok.e8; simp only; omega
        have hN : Calls Try.prog 8 #[.agg #[.slice aL P0.l.length cL, .int .i64 P0.lo, .int .i64 P0.un, .slice aS Z0.length cS, .slice aI I0.length cI, .int .i64 E0, .slice aR R0.length cR], .int .i64 R0.length] y4 (NewX y4 k I0 R0) := by
          have := xNew (w := y4) hK (v := .agg #[.slice aL P0.l.length cL, .int .i64 P0.lo, .int .i64 P0.un, .slice aS Z0.length cS, .slice aI I0.length cI, .int .i64 E0, .slice aR R0.length cR]) (init := I0) (r7 := R0) (by rw [hk]; simp only; rw [show ((EN : Nat) : Int) = E0 from hEN.symm]; exact HSV.out.below Q4.out.2.1) (by rw [hk]; exact hok.len) ui (by rw [hk]) ur
          rw [hkn] at this
          exact this
        have HK := Lib.hid (And.intro hkl (And.intro hkn (And.intro hK hok.n64)))
        clear hok hEN hk hkl hkn hK
        go_wp2_with fail
        refine hN.mono ?_
        rintro e y5 ⟨X, rfl, hX, hy5, hO⟩
        have hL : Hid (∃ m, Live w [.slice aL P0.l.length cL, .int .i64 P0.lo, .int .i64 P0.un, .slice aS Z0.length cS, .slice aI I0.length cI, .int .i64 E0, .slice aR R0.length cR] k X m y5) := Lib.hid ⟨_, hX, Q4.out.2.1.trans (hy5.mono Q4.out.2.1.size), fun i hi => Nat.le_trans Q4.out.2.2 (hO i hi), (hy5.block _ Q4.out.1.lt).trans Q4.out.1⟩
        clear hN hX hy5 hO Q4 x0 x1 x2 x3 x4 x5 x6
        go_wp2
        go_loopw [50] (fun j wr => ∃ (i : Nat) (M : PM) (m : Mc), i ≤ len1 ∧ j = .int .i64 i ∧ Live w [.slice aL P0.l.length cL, .int .i64 P0.lo, .int .i64 P0.un, .slice aS Z0.length cS, .slice aI I0.length cI, .int .i64 E0, .slice aR R0.length cR] k { X with M := M } m wr) (fun j _ => len1 - (intOf j).toNat)
        case atStart =>
          obtain ⟨m, hm⟩ := hL.out
          exact ⟨0, X.M, m, Nat.zero_le _, rfl, hm⟩
        case round =>
          clear hL
          obtain ⟨i, M, m, hi, rfl, hL⟩ := hrel
          have HL := Lib.hid hL
          clear hL
          by_cases hlt : i < len1
          · have hnn := HK.out.2.2.2
            have hkn := HK.out.2.1
            have hkn64 : R0.length ≤ 64 := by omega
            obtain ⟨bb, off, rfl, hcs⟩ := g1.at_ hlt HL.out.bel
            obtain ⟨_, r0, kd, rfl, wkd⟩ := hcs 0 (by omega)
            obtain ⟨_, r1, T, rfl, wT⟩ := hcs 1 (by omega)
            obtain ⟨_, r2, lt, rfl⟩ := hcs 2 (by omega)
            clear hcs wkd wT
            rw [Nat.add_zero] at r0
            have hB := Bk.made wr 44 #[.int .i64 kd, .int .i64 T, .bool lt]
            have hA : Below wr.heap.size wr (wr.alloc (.cells #[.int .i64 kd, .int .i64 T, .bool lt] 44)) := (Below.refl _ _).alloc (Nat.le_refl _) _
            have HO := Lib.hid (And.intro hB (And.intro (HL.out.below hA) (fun i (hi : XP.Own { X with M := M } k.n i) => HL.out.ex.lt hi)))
            clear hB hA HL
            go_upto_region 10 with fail
            generalize wr.alloc (.cells #[.int .i64 kd, .int .i64 T, .bool lt] 44) = wa at HO ⊢
            generalize wr.heap.size = qb at HO ⊢
            clear r0 r1 r2
            obtain ⟨s0, s1, s2⟩ : wa.cell? ⟨qb, 0, none⟩ = some (.int .i64 kd) ∧ wa.cell? ⟨qb, 1, none⟩ = some (.int .i64 T) ∧ wa.cell? ⟨qb, 2, none⟩ = some (.bool lt) := ⟨HO.out.1.cell 0, HO.out.1.cell 1, HO.out.1.cell 2⟩
            by_cases hT0 : 0 ≤ T
            · by_cases hT1 : T < R0.length
              · obtain ⟨t, rfl⟩ := Int.eq_ofNat_of_zero_le hT0
                have ht : t < k.n := by omega
                have HT := Lib.hid ht
                clear ht hT0 hkn hnn
                by_cases hk12 : kd = 1 ∨ kd = 2
                · rcases hk12 with rfl | rfl
                  · have hBg := xBegin HO.out.2.1.ex t HT.out false
                    go_wp2_with fail
                    refine hBg.mono ?_
                    rintro e w3 ⟨v3, M3, rfl, -, hX3, hs3⟩
                    have hF := HO.out.2.1.came hX3 hs3
                    clear hBg hX3 hs3
                    unfold otV
                    go_wp2
                    go_roundw
                    case rel => exact ⟨i + 1, M3, _, by omega, by go_num, hF⟩
                    case measure => simp [intOf]; omega
                  · have hBg := xBegin HO.out.2.1.ex t HT.out true
                    go_wp2_with fail
                    refine hBg.mono ?_
                    rintro e w3 ⟨v3, M3, rfl, -, hX3, hs3⟩
                    have hF := HO.out.2.1.came hX3 hs3
                    clear hBg hX3 hs3
                    unfold otV
                    go_wp2
                    go_roundw
                    case rel => exact ⟨i + 1, M3, _, by omega, by go_num, hF⟩
                    case measure => simp [intOf]; omega
                · have hk1 : kd ≠ 1 := fun e => hk12 (.inl e)
                  have hk2 : kd ≠ 2 := fun e => hk12 (.inr e)
                  have b1 : (kd == 1) = false := by simpa using hk1
                  have b2 : (kd == 2) = false := by simpa using hk2
                  clear hk12 hk1 hk2
                  have hWd := xWords HO.out.2.1.ex
                  go_wp2_with fail
                  refine hWd.mono ?_
                  rintro e wb ⟨qw, rfl, hqw, -, hqn, hgb⟩
                  have hbb := below_of_grown hgb
                  have H2 := Lib.hid (And.intro (HO.out.2.1.below hbb) (And.intro hqw (And.intro hqn ((hbb.block _ HO.out.1.lt).trans HO.out.1))))
                  have HW2 := Lib.hid (Nat.lt_of_lt_of_le HO.out.1.lt hbb.size)
                  have HO2 := Lib.hid (HO.out.2.1.ex)
                  clear hWd hgb hqw hqn s0 s1 s2
                  obtain ⟨s0, s1, s2⟩ : wb.cell? ⟨qb, 0, none⟩ = some (.int .i64 kd) ∧ wb.cell? ⟨qb, 1, none⟩ = some (.int .i64 t) ∧ wb.cell? ⟨qb, 2, none⟩ = some (.bool lt) := ⟨Bk.cell H2.out.2.2.2 0, Bk.cell H2.out.2.2.2 1, Bk.cell H2.out.2.2.2 2⟩
                  have hSt := xStep H2.out.1.ex t HT.out lt
                  clear hbb
                  go_wp2_with fail
                  refine hSt.mono ?_
                  rintro e wc ⟨v3, M3, rfl, hl3, hX3, hs3⟩
                  obtain ⟨a3, c3, e3, -⟩ := hl3.is
                  subst e3
                  have hL3 := H2.out.1.came hX3 hs3
                  clear hSt hl3
                  have hq1 : wc.heap[qb]? = wb.heap[qb]? := hs3.1.block qb HW2.out (fun e => by have := HO.out.2.2 qb (XP.has_own e); omega)
                  have hq2 : wc.heap[qw]? = wb.heap[qw]? := hs3.1.block qw (Bk.lt H2.out.2.1) (fun e => by have := HO2.out.lt (XP.has_own e); have := H2.out.2.2.1; omega)
                  have hq3 : ∀ i, XP.Own { X with M := M3 } k.n i → i ≠ qb := fun i hi => by
                    rcases hs3.2.1 i hi with e | e
                    · have := HO.out.2.2 i e; omega
                    · have := HW2.out; omega
                  cases hst : (stepM k m t lt).2.stay with
                  | false =>
                    have HF := Lib.hid hL3
                    clear hX3 hs3 hL3 s0 s1 s2 hq1 hq2 hq3
                    generalize (stepM k m t lt).1 = m2 at *
                    unfold otV
                    rw [hst]
                    generalize (stepM k m t lt).2 = o2 at *
                    have hb := Bk.made wc 46 #[.slice a3 o2.ms.length c3, .int .i64 o2.done, .int .i64 o2.addr, .bool o2.wrote, .bool false, .int .i64 o2.e]
                    have hA : Below wc.heap.size wc (wc.alloc (.cells #[.slice a3 o2.ms.length c3, .int .i64 o2.done, .int .i64 o2.addr, .bool o2.wrote, .bool false, .int .i64 o2.e] 46)) := (Below.refl _ _).alloc (Nat.le_refl _) _
                    have hF := HF.out.below hA
                    have hb4 := hb.cell 4
                    simp only [List.getElem?_toArray, List.getElem?_cons_zero, List.getElem?_cons_succ] at hb4
                    clear hA hb HF
                    go_upto_region 15 with fail
                    generalize wc.alloc (.cells #[.slice a3 o2.ms.length c3, .int .i64 o2.done, .int .i64 o2.addr, .bool o2.wrote, .bool false, .int .i64 o2.e] 46) = wd at *
                    go_wp2
                    go_roundw
                    case rel => exact ⟨i + 1, M3, m2, by omega, by go_num, hF⟩
                    case measure => simp [intOf]; omega
                  | true =>
                    have hK := HK.out.2.2.1
                    obtain ⟨ins, a, hmi, -, -, -, -, hse⟩ := stay_is hK hst
                    have E1 : (stepM k m t lt).2 = ⟨[], -1, a, false, true, 0⟩ := by rw [hse]
                    have E2 : (stepM k m t lt).1.ws = m.ws := by rw [hse]
                    have E3 : ((stepM k m t lt).1.cs t).pc = (m.cs t).pc := by rw [hse]; simp [updN_same]
                    have E4 : ins.d ≠ ins.s → ins.d ≠ ins.t → (stepM k (stepM k m t lt).1 t lt).2 = ⟨[], -1, a, false, true, 0⟩ ∧ (stepM k (stepM k m t lt).1 t lt).1.cs t = (stepM k m t lt).1.cs t := fun h1 h2 => by
                      rw [← E1]
                      exact stay_again hK (HO2.out.mc.cs t HT.out).1 hst hmi h1 h2
                    obtain ⟨p0, p1, p2, -⟩ := memI_is hmi
                    clear hse hst hmi hs3 hX3
                    rw [E1]
                    clear E1
                    generalize (stepM k m t lt).1 = m2 at *
                    unfold otV
                    simp only [List.length_nil]
                    have hb := Bk.made wc 46 #[.slice a3 0 c3, .int .i64 (-1), .int .i64 a, .bool false, .bool true, .int .i64 0]
                    have hA : Below wc.heap.size wc (wc.alloc (.cells #[.slice a3 0 c3, .int .i64 (-1), .int .i64 a, .bool false, .bool true, .int .i64 0] 46)) := (Below.refl _ _).alloc (Nat.le_refl _) _
                    have HM : Hid (Mid w [.slice aL P0.l.length cL, .int .i64 P0.lo, .int .i64 P0.un, .slice aS Z0.length cS, .slice aI I0.length cI, .int .i64 E0, .slice aR R0.length cR] k { X with M := M3 } m2 qb kd t lt qw m.ws wc.heap.size a3 c3 a (wc.alloc (.cells #[.slice a3 0 c3, .int .i64 (-1), .int .i64 a, .bool false, .bool true, .int .i64 0] 46))) := Lib.hid
                      ⟨hL3.below hA, (hA.block qb (by have := Bk.lt (hq1.trans H2.out.2.2.2); omega)).trans (hq1.trans H2.out.2.2.2), (hA.block qw (by have := Bk.lt (hq2.trans H2.out.2.1); omega)).trans (hq2.trans H2.out.2.1), hb, hq3, fun i hi => hL3.ex.lt hi⟩
                    clear hA hb hL3 hq1 hq2 hq3 s0 s1 s2
                    go_upto_region 15 with fail
                    generalize wc.alloc (.cells #[.slice a3 0 c3, .int .i64 (-1), .int .i64 a, .bool false, .bool true, .int .i64 0] 46) = wd at *
                    generalize wc.heap.size = qo at *
                    clear H2 HW2 HO2 HO
                    obtain ⟨o0, o1, o2, o3, o4, o5⟩ : wd.cell? ⟨qo, 0, none⟩ = some (.slice a3 0 c3) ∧ wd.cell? ⟨qo, 1, none⟩ = some (.int .i64 (-1)) ∧ wd.cell? ⟨qo, 2, none⟩ = some (.int .i64 a) ∧ wd.cell? ⟨qo, 3, none⟩ = some (.bool false) ∧ wd.cell? ⟨qo, 4, none⟩ = some (.bool true) ∧ wd.cell? ⟨qo, 5, none⟩ = some (.int .i64 0) := ⟨HM.out.out.cell 0, HM.out.out.cell 1, HM.out.out.cell 2, HM.out.out.cell 3, HM.out.out.cell 4, HM.out.out.cell 5⟩
                    have hWd := xWords HM.out.live.ex
                    rw [E2] at hWd
                    go_wp2_with fail
                    refine hWd.mono ?_
                    rintro e we ⟨qx, rfl, hqx, -, hqn, hgb⟩
                    have hbb := below_of_grown hgb
                    have HN := Lib.hid (HM.out.below hbb)
                    have HQ := Lib.hid hqx
                    clear hWd hgb hqx hqn hbb HM o0 o1 o2 o3 o4 o5
                    have hlen : m.ws.length ≤ 8192 := by
                      have h1 := HN.out.live.ex.mc.len
                      have h2 := HN.out.live.ex.lk.few
                      rw [E2] at h1
                      omega
                    generalize m.ws = ws at *
                    rw [HK.out.1] at p1 p2
                    generalize (m.cs t).pc = pcm at *
                    go_wp2
                    go_loopw [110] (fun j W => ∃ (q : Nat) (wz : World), wz = W ∧ q ≤ ws.length ∧ j = .int .i64 q ∧ Mid w [.slice aL P0.l.length cL, .int .i64 P0.lo, .int .i64 P0.un, .slice aS Z0.length cS, .slice aI I0.length cI, .int .i64 E0, .slice aR R0.length cR] k { X with M := M3 } m2 qb kd t lt qw ws qo a3 c3 a wz ∧ Bk wz qx 49 (words ws)) (fun j _ => ws.length - (intOf j).toNat)
                    case atStart => exact ⟨0, _, rfl, Nat.zero_le _, rfl, HN.out, HQ.out⟩
                    case round =>
                      clear HN HQ
                      obtain ⟨q, wz, ez, hq, rfl, hM, hQ⟩ := hrel
                      subst ez
                      have HM := Lib.hid hM
                      have HQ := Lib.hid hQ
                      clear hM hQ
                      by_cases hqi : q < ws.length
                      · have c1 : wz.cell? ⟨qx, q, none⟩ = some (.int .u32 (nth ws q)) := by rw [Bk.cell HQ.out, words_at _ _ hqi]
                        have c2 : wz.cell? ⟨qw, q, none⟩ = some (.int .u32 (nth ws q)) := by rw [Bk.cell HM.out.ws, words_at _ _ hqi]
                        generalize nth ws q = vq at *
                        go_wp2
                        go_roundw
                        case rel => exact ⟨q + 1, _, rfl, by omega, by go_num, HM.out, HQ.out⟩
                        case measure => simp [intOf]; omega
                      · obtain rfl : q = ws.length := by omega
                        have hC := xCore HM.out.live.ex t HT.out
                        obtain ⟨r0, r1, r2, r3, r4, r5, r6, r7, pcx, ec⟩ := HM.out.live.ex.core_cons HT.out
                        have hpc : pcx = pcm := by rw [← E3, ec]
                        subst hpc
                        obtain ⟨pn, rfl⟩ := Int.eq_ofNat_of_zero_le p0
                        rw [ec] at hC E4
                        clear E3 p0
                        unfold cv at hC
                        simp only [corC, List.map_cons, List.map_nil, List.cons_append, List.nil_append] at hC
                        obtain ⟨s0, s1, s2⟩ : wz.cell? ⟨qb, 0, none⟩ = some (.int .i64 kd) ∧ wz.cell? ⟨qb, 1, none⟩ = some (.int .i64 t) ∧ wz.cell? ⟨qb, 2, none⟩ = some (.bool lt) := ⟨Bk.cell HM.out.op 0, Bk.cell HM.out.op 1, Bk.cell HM.out.op 2⟩
                        go_wp2_with fail
                        refine hC.mono ?_
                        rintro e wf ⟨rfl, hyf⟩
                        have hM := HM.out.below hyf
                        clear hC hyf s0 s1 s2 HQ HM
                        have hb := Bk.made wf 52 #[.int .u32 r0, .int .u32 r1, .int .u32 r2, .int .u32 r3, .int .u32 r4, .int .u32 r5, .int .u32 r6, .int .u32 r7, .int .i64 pn]
                        have hA : Below wf.heap.size wf (wf.alloc (.cells #[.int .u32 r0, .int .u32 r1, .int .u32 r2, .int .u32 r3, .int .u32 r4, .int .u32 r5, .int .u32 r6, .int .u32 r7, .int .i64 pn] 52)) := (Below.refl _ _).alloc (Nat.le_refl _) _
                        have HC := Lib.hid (And.intro hb (fun i (hi : XP.Own { X with M := M3 } k.n i) => hM.live.ex.lt hi))
                        have HM := Lib.hid (hM.below hA)
                        clear hA hb hM
                        go_upto_region 25 with fail
                        generalize wf.alloc (.cells #[.int .u32 r0, .int .u32 r1, .int .u32 r2, .int .u32 r3, .int .u32 r4, .int .u32 r5, .int .u32 r6, .int .u32 r7, .int .i64 pn] 52) = wg at *
                        generalize wf.heap.size = qc at *
                        have g8 : wg.cell? ⟨qc, 8, none⟩ = some (.int .i64 pn) := Bk.cell HC.out.1 8
                        have x0 : wg.cell? ⟨w.heap.size, 0, none⟩ = some (.slice aL P0.l.length cL) := Bk.cell HM.out.live.box 0
                        have hpl2 := HPL.out
                        unfold maxLen at hpl2
                        simp only [Int.toNat_natCast] at p2
                        obtain ⟨bL, oL, rfl, -, i0, i1, i2, i3, i4, i5, i6, i7⟩ := (HSL.out.below HM.out.live.bel).at_ p2
                        go_upto_region 28 with fail
                        have hb := Bk.made wg 55 #[.int .i64 ins.op, .int .i64 ins.d, .int .i64 ins.s, .int .i64 ins.t, .int .i64 ins.u, .int .i64 ins.a, .int .u32 ins.k, .int .i64 ins.pl]
                        have hA : Below wg.heap.size wg (wg.alloc (.cells #[.int .i64 ins.op, .int .i64 ins.d, .int .i64 ins.s, .int .i64 ins.t, .int .i64 ins.u, .int .i64 ins.a, .int .u32 ins.k, .int .i64 ins.pl] 55)) := (Below.refl _ _).alloc (Nat.le_refl _) _
                        have HC2 := Lib.hid (And.intro ((hA.block _ HC.out.1.lt).trans HC.out.1) HC.out.2)
                        have HM2 := Lib.hid (HM.out.below hA)
                        have HI := Lib.hid hb
                        clear hA hb HM HC g8 x0 i0 i1 i2 i3 i4 i5 i6 i7
                        generalize wg.alloc (.cells #[.int .i64 ins.op, .int .i64 ins.d, .int .i64 ins.s, .int .i64 ins.t, .int .i64 ins.u, .int .i64 ins.a, .int .u32 ins.k, .int .i64 ins.pl] 55) = wh at *
                        generalize wg.heap.size = qi at *
                        obtain ⟨i1, i2, i3⟩ : wh.cell? ⟨qi, 1, none⟩ = some (.int .i64 ins.d) ∧ wh.cell? ⟨qi, 2, none⟩ = some (.int .i64 ins.s) ∧ wh.cell? ⟨qi, 3, none⟩ = some (.int .i64 ins.t) := ⟨Bk.cell HI.out 1, Bk.cell HI.out 2, Bk.cell HI.out 3⟩
                        by_cases hds : ins.d = ins.s
                        · have b3 : (ins.d == ins.s) = true := by simpa using hds
                          have hF := HM2.out.live
                          clear hds
                          go_wp2
                          go_roundw
                          case rel => exact ⟨i + 1, M3, m2, by omega, by go_num, hF⟩
                          case measure => simp [intOf]; omega
                        · by_cases hdt : ins.d = ins.t
                          · have b3 : (ins.d == ins.s) = false := by simpa using hds
                            have b4 : (ins.d == ins.t) = true := by simpa using hdt
                            have hF := HM2.out.live
                            clear hds hdt
                            go_wp2
                            go_roundw
                            case rel => exact ⟨i + 1, M3, m2, by omega, by go_num, hF⟩
                            case measure => simp [intOf]; omega
                          · have b3 : (ins.d == ins.s) = false := by simpa using hds
                            have b4 : (ins.d == ins.t) = false := by simpa using hdt
                            obtain ⟨E5, E6⟩ := E4 hds hdt
                            clear hds hdt E4
                            obtain ⟨s0, s1, s2⟩ : wh.cell? ⟨qb, 0, none⟩ = some (.int .i64 kd) ∧ wh.cell? ⟨qb, 1, none⟩ = some (.int .i64 t) ∧ wh.cell? ⟨qb, 2, none⟩ = some (.bool lt) := ⟨Bk.cell HM2.out.op 0, Bk.cell HM2.out.op 1, Bk.cell HM2.out.op 2⟩
                            have hSt := xStep HM2.out.live.ex t HT.out lt
                            go_wp2_with fail
                            refine hSt.mono ?_
                            rintro e wi ⟨v5, M5, rfl, hl5, hX5, hs5⟩
                            rw [E5] at hl5 ⊢
                            obtain ⟨a5, c5, e5, -⟩ := hl5.is
                            subst e5
                            have hL5 := HM2.out.live.came hX5 hs5
                            unfold otV
                            simp only [List.length_nil]
                            clear hSt hl5 i1 i2 i3 s0 s1 s2 b3 b4
                            have hq1 : wi.heap[qb]? = wh.heap[qb]? := hs5.1.block qb (Bk.lt HM2.out.op) (fun e => HM2.out.apart _ (XP.has_own e) rfl)
                            have hq2 : wi.heap[qo]? = wh.heap[qo]? := hs5.1.block qo (Bk.lt HM2.out.out) (fun e => by have := HM2.out.old _ (XP.has_own e); omega)
                            have hq3 : wi.heap[qc]? = wh.heap[qc]? := hs5.1.block qc (Bk.lt HC2.out.1) (fun e => by have := HC2.out.2 _ (XP.has_own e); omega)
                            have hb := Bk.made wi 46 #[.slice a5 0 c5, .int .i64 (-1), .int .i64 a, .bool false, .bool true, .int .i64 0]
                            have hA : Below wi.heap.size wi (wi.alloc (.cells #[.slice a5 0 c5, .int .i64 (-1), .int .i64 a, .bool false, .bool true, .int .i64 0] 46)) := (Below.refl _ _).alloc (Nat.le_refl _) _
                            have k1 := hq1.trans HM2.out.op
                            have k2 := hq2.trans HM2.out.out
                            have k3 := hq3.trans HC2.out.1
                            have HZ := Lib.hid (And.intro (hL5.below hA) (And.intro ((hA.block _ (Bk.lt k1)).trans k1) (And.intro ((hA.block _ (Bk.lt k2)).trans k2) (And.intro ((hA.block _ (Bk.lt k3)).trans k3) hb))))
                            clear hA hb k1 k2 k3 hq1 hq2 hq3 hs5 hX5 hL5 E5 HM2 HC2 HI
                            go_upto_region 30 with fail
                            generalize wi.alloc (.cells #[.slice a5 0 c5, .int .i64 (-1), .int .i64 a, .bool false, .bool true, .int .i64 0] 46) = wj at *
                            generalize wi.heap.size = qp at *
                            generalize (stepM k m2 t lt).1 = m5 at *
                            obtain ⟨hY1, hY2, hY3, hY4, hY5⟩ := HZ.out
                            have HY : Hid (∀ W, Below wj.heap.size wj W → Bk W qb 44 #[.int .i64 kd, .int .i64 t, .bool lt] ∧ Bk W qo 46 #[.slice a3 0 c3, .int .i64 (-1), .int .i64 a, .bool false, .bool true, .int .i64 0] ∧ Bk W qc 52 #[.int .u32 r0, .int .u32 r1, .int .u32 r2, .int .u32 r3, .int .u32 r4, .int .u32 r5, .int .u32 r6, .int .u32 r7, .int .i64 pn] ∧ Bk W qp 46 #[.slice a5 0 c5, .int .i64 (-1), .int .i64 a, .bool false, .bool true, .int .i64 0] ∧ Ex W { X with M := M5 } k m5) := Lib.hid fun W hW => ⟨(hW.block _ (Bk.lt hY2)).trans hY2, (hW.block _ (Bk.lt hY3)).trans hY3, (hW.block _ (Bk.lt hY4)).trans hY4, (hW.block _ (Bk.lt hY5)).trans hY5, hY1.ex.below hW⟩
                            clear hY1 hY2 hY3 hY4 hY5
                            have heq : ∀ W, (binOp .neq 52 (.agg #[.int .u32 r0, .int .u32 r1, .int .u32 r2, .int .u32 r3, .int .u32 r4, .int .u32 r5, .int .u32 r6, .int .u32 r7, .int .i64 pn]) (.agg #[.int .u32 r0, .int .u32 r1, .int .u32 r2, .int .u32 r3, .int .u32 r4, .int .u32 r5, .int .u32 r6, .int .u32 r7, .int .i64 pn])).run Try.prog W = .ok (.bool false) W := fun W => run_neC [r0, r1, r2, r3, r4, r5, r6, r7] pn rfl W
                            refine wp_region_flow [] (fun _ W => Below wj.heap.size wj W) (fun _ _ _ => True) (fun vs => { tmps := #[.agg #[.slice (some ⟨bL, oL, none⟩) P0.l.length cL, .int .i64 P0.lo, .int .i64 P0.un, .slice aS Z0.length cS, .slice aI I0.length cI, .int .i64 E0, .slice aR R0.length cR], .slice (some ⟨bb, off, none⟩) len1 cap1, .pointer (some ⟨w.heap.size, 0, none⟩), undef, u4, .int .i64 (R0.length : Int), .pointer (some ⟨X.x, 0, none⟩), .int .i64 0, undef, .pointer (some ⟨qb, 0, none⟩), .slice (some ⟨qw, 0, none⟩) ws.length ws.length, .pointer (some ⟨qo, 0, none⟩), u12, u13, .pointer (some ⟨qc, 0, none⟩), .pointer (some ⟨qi, 0, none⟩), .pointer (some ⟨qp, 0, none⟩), .pointer (some ⟨w.heap.size, 6, none⟩), .slice aR R0.length cR, .int .i64 (R0.length : Int), .agg #[.slice (some ⟨bL, oL, none⟩) P0.l.length cL, .int .i64 P0.lo, .int .i64 P0.un, .slice aS Z0.length cS, .slice aI I0.length cI, .int .i64 E0, .slice aR R0.length cR], .bool true, .bool false, .bool false, .slice (some ⟨bb, off, none⟩) len1 cap1, .int .i64 (len1 : Int), .bool (decide (60 < (len1 : Int))), .bool (decide (60 < (len1 : Int))), .bool (decide (60 < (len1 : Int))), .agg #[.slice (some ⟨bL, oL, none⟩) P0.l.length cL, .int .i64 P0.lo, .int .i64 P0.un, .slice aS Z0.length cS, .slice aI I0.length cI, .int .i64 E0, .slice aR R0.length cR], v3, .int .i64 (R0.length : Int), .bool true, .bool false, .bool (decide (60 < (len1 : Int))), undef, .tuple #[.pointer (some ⟨X.x, 0, none⟩), .int .i64 0], .agg #[.slice (some ⟨bL, oL, none⟩) P0.l.length cL, .int .i64 P0.lo, .int .i64 P0.un, .slice aS Z0.length cS, .slice aI I0.length cI, .int .i64 E0, .slice aR R0.length cR], .int .i64 (R0.length : Int), .tuple #[.pointer (some ⟨X.x, 0, none⟩), .int .i64 0], .pointer (some ⟨X.x, 0, none⟩), .int .i64 0, .int .i64 0, .bool false, .bool false, .pointer (some ⟨X.x, 0, none⟩), .bool false, .bool false, .slice (some ⟨bb, off, none⟩) len1 cap1, .int .i64 (len1 : Int), .int .i64 (i : Int), .bool true, .pointer (some ⟨bb, off + i * 3, none⟩), .agg #[.int .i64 kd, .int .i64 (t : Int), .bool lt], .pointer (some ⟨qb, 1, none⟩), .int .i64 (t : Int), .bool (decide ((t : Int) < 0)), .bool (decide ((t : Int) < 0)), .pointer (some ⟨qb, 1, none⟩), .int .i64 (t : Int), .int .i64 (R0.length : Int), .bool false, .bool (decide ((t : Int) < 0)), .pointer (some ⟨qb, 0, none⟩), .int .i64 kd, .bool false, .bool false, .pointer (some ⟨qb, 0, none⟩), .int .i64 kd, .bool false, .bool false, u71, u72, u73, u74, u75, u76, u77, .pointer (some ⟨X.x, 0, none⟩), .slice (some ⟨qw, 0, none⟩) ws.length ws.length, .pointer (some ⟨X.x, 0, none⟩), .pointer (some ⟨qb, 1, none⟩), .int .i64 (t : Int), .pointer (some ⟨qb, 2, none⟩), .bool lt, .agg #[.slice a3 0 c3, .int .i64 (-1), .int .i64 (a : Int), .bool false, .bool true, .int .i64 0], .pointer (some ⟨qo, 4, none⟩), .bool true, .bool false, .pointer (some ⟨qo, 0, none⟩), .slice a3 0 c3, .int .i64 0, .bool false, .bool false, .pointer (some ⟨qo, 1, none⟩), .int .i64 (-1), .bool false, .bool false, .bool false, .pointer (some ⟨qo, 3, none⟩), .bool false, .bool false, .bool false, .pointer (some ⟨qo, 5, none⟩), .int .i64 0, .bool false, .bool false, .pointer (some ⟨X.x, 0, none⟩), .slice (some ⟨qx, 0, none⟩) ws.length ws.length, .int .i64 (ws.length : Int), .int .i64 (ws.length : Int), .bool false, u112, u113, u114, u115, u116, u117, u118, u119, u120, u121, u122, u123, u124, u125, u126, u127, .pointer (some ⟨X.x, 0, none⟩), .pointer (some ⟨qb, 1, none⟩), .int .i64 (t : Int), .agg #[.int .u32 r0, .int .u32 r1, .int .u32 r2, .int .u32 r3, .int .u32 r4, .int .u32 r5, .int .u32 r6, .int .u32 r7, .int .i64 (pn : Int)], .pointer (some ⟨qc, 8, none⟩), .int .i64 (pn : Int), .bool (decide ((pn : Int) < 0)), .bool (decide ((pn : Int) < 0)), .pointer (some ⟨qc, 8, none⟩), .int .i64 (pn : Int), .pointer (some ⟨w.heap.size, 0, none⟩), .pointer (some ⟨w.heap.size, 0, none⟩), .slice (some ⟨bL, oL, none⟩) P0.l.length cL, .int .i64 (P0.l.length : Int), .bool false, .bool (decide ((pn : Int) < 0)), .pointer (some ⟨w.heap.size, 0, none⟩), .pointer (some ⟨w.heap.size, 0, none⟩), .slice (some ⟨bL, oL, none⟩) P0.l.length cL, .pointer (some ⟨qc, 8, none⟩), .int .i64 (pn : Int), .pointer (some ⟨bL, oL + pn * 8, none⟩), .agg #[.int .i64 ins.op, .int .i64 ins.d, .int .i64 ins.s, .int .i64 ins.t, .int .i64 ins.u, .int .i64 ins.a, .int .u32 ins.k, .int .i64 ins.pl], .pointer (some ⟨qi, 1, none⟩), .int .i64 ins.d, .pointer (some ⟨qi, 2, none⟩), .int .i64 ins.s, .bool false, .bool false, .pointer (some ⟨qi, 1, none⟩), .int .i64 ins.d, .pointer (some ⟨qi, 3, none⟩), .int .i64 ins.t, .bool false, .bool false, .pointer (some ⟨X.x, 0, none⟩), .pointer (some ⟨qb, 1, none⟩), .int .i64 (t : Int), .pointer (some ⟨qb, 2, none⟩), .bool lt, .agg #[.slice a5 0 c5, .int .i64 (-1), .int .i64 (a : Int), .bool false, .bool true, .int .i64 0], vs 0, vs 1, vs 2, vs 3, vs 4, vs 5, vs 6, vs 7, vs 8, vs 9, vs 10, vs 11, vs 12, vs 13, vs 14, vs 15, vs 16, vs 17, u187, undef], defers := [] }) (valT [.pointer (some ⟨qp, 4, none⟩), .bool true, .bool false, .bool false, .pointer (some ⟨qp, 2, none⟩), .int .i64 a, .pointer (some ⟨qo, 2, none⟩), .int .i64 a, .bool false, .bool false, .bool false, .pointer (some ⟨X.x, 0, none⟩), .pointer (some ⟨qb, 1, none⟩), .int .i64 t, .agg #[.int .u32 r0, .int .u32 r1, .int .u32 r2, .int .u32 r3, .int .u32 r4, .int .u32 r5, .int .u32 r6, .int .u32 r7, .int .i64 pn], .agg #[.int .u32 r0, .int .u32 r1, .int .u32 r2, .int .u32 r3, .int .u32 r4, .int .u32 r5, .int .u32 r6, .int .u32 r7, .int .i64 pn], .bool false, .bool false]) ?ghm ?ghr ?ghc ?ghnd ?ghlit ?gh0 ?ghW ?ghF ?ghS ?gops ?gdone
                            case ghm => kernel_rfl
                            case ghr => kernel_rfl
                            case ghc => kernel_rfl
                            case ghnd => decide
                            case ghlit => intro vs; rfl
                            case gh0 => exact Below.refl _ _
                            case ghW => exact fun kk W W2 h hb => h.trans (hb.mono h.size)
                            case ghF => exact valT_stable
                            case ghS => exact fun k W W2 _ _ i v h => h
                            case gops =>
                              refine ⟨?_, ?_, ?_, ?_, ?_, ?_, ?_, ?_, ?_, ?_, ?_, ?_, ?_, ?_, ?_, ?_, ?_, ?_, trivial⟩
                              · intro vs W kk h1 h2 hW hd
                                obtain rfl : kk = 0 := Nat.le_zero.1 h2
                                refine leaves_free rfl ?_
                                clear hd
                                go_simp
                                exact ⟨rfl, Below.refl _ _⟩
                              · intro vs W kk h1 h2 hW hd
                                obtain rfl : kk = 0 := Nat.le_zero.1 h2
                                refine leaves_free rfl ?_
                                have e0 : vs 0 = .pointer (some ⟨qp, 4, none⟩) := hd 0 (by decide)
                                obtain ⟨k1, k2, k3, k4, -⟩ := HY.out W hW; have y1 : W.cell? ⟨qb, 1, none⟩ = some (.int .i64 t) := Bk.cell k1 1; have y2 : W.cell? ⟨qo, 2, none⟩ = some (.int .i64 a) := Bk.cell k2 2; have y3 : W.cell? ⟨qp, 2, none⟩ = some (.int .i64 a) := Bk.cell k4 2; have y4 : W.cell? ⟨qp, 4, none⟩ = some (.bool true) := Bk.cell k4 4; have g0 : W.cell? ⟨qc, 0, none⟩ = some (.int .u32 r0) := Bk.cell k3 0; have g1 : W.cell? ⟨qc, 1, none⟩ = some (.int .u32 r1) := Bk.cell k3 1; have g2 : W.cell? ⟨qc, 2, none⟩ = some (.int .u32 r2) := Bk.cell k3 2; have g3 : W.cell? ⟨qc, 3, none⟩ = some (.int .u32 r3) := Bk.cell k3 3; have g4 : W.cell? ⟨qc, 4, none⟩ = some (.int .u32 r4) := Bk.cell k3 4; have g5 : W.cell? ⟨qc, 5, none⟩ = some (.int .u32 r5) := Bk.cell k3 5; have g6 : W.cell? ⟨qc, 6, none⟩ = some (.int .u32 r6) := Bk.cell k3 6; have g7 : W.cell? ⟨qc, 7, none⟩ = some (.int .u32 r7) := Bk.cell k3 7; have g8 : W.cell? ⟨qc, 8, none⟩ = some (.int .i64 pn) := Bk.cell k3 8; clear k1 k2 k3 k4
                                clear hd
                                go_simp
                                exact ⟨rfl, Below.refl _ _⟩
                              · intro vs W kk h1 h2 hW hd
                                obtain rfl : kk = 0 := Nat.le_zero.1 h2
                                refine leaves_free rfl ?_
                                have e1 : vs 1 = .bool true := hd 1 (by decide)
                                clear hd
                                go_simp
                                exact ⟨rfl, Below.refl _ _⟩
                              · intro vs W kk h1 h2 hW hd
                                obtain rfl : kk = 0 := Nat.le_zero.1 h2
                                refine leaves_free rfl ?_
                                have e2 : vs 2 = .bool false := hd 2 (by decide)
                                clear hd
                                go_simp
                                exact ⟨rfl, Below.refl _ _⟩
                              · intro vs W kk h1 h2 hW hd
                                obtain rfl : kk = 0 := Nat.le_zero.1 h2
                                have eg : vs 3 = .bool false := hd 3 (by decide)
                                refine leaves_guard rfl (by show (match some (vs 3) with | some (.bool b) => some b | _ => none) = some false; rw [eg]) ?_
                                clear eg
                                clear hd
                                go_simp
                                exact ⟨rfl, Below.refl _ _⟩
                              · intro vs W kk h1 h2 hW hd
                                obtain rfl : kk = 0 := Nat.le_zero.1 h2
                                have eg : vs 3 = .bool false := hd 3 (by decide)
                                refine leaves_guard rfl (by show (match some (vs 3) with | some (.bool b) => some b | _ => none) = some false; rw [eg]) ?_
                                clear eg
                                have e4 : vs 4 = .pointer (some ⟨qp, 2, none⟩) := hd 4 (by decide)
                                obtain ⟨k1, k2, k3, k4, -⟩ := HY.out W hW; have y1 : W.cell? ⟨qb, 1, none⟩ = some (.int .i64 t) := Bk.cell k1 1; have y2 : W.cell? ⟨qo, 2, none⟩ = some (.int .i64 a) := Bk.cell k2 2; have y3 : W.cell? ⟨qp, 2, none⟩ = some (.int .i64 a) := Bk.cell k4 2; have y4 : W.cell? ⟨qp, 4, none⟩ = some (.bool true) := Bk.cell k4 4; have g0 : W.cell? ⟨qc, 0, none⟩ = some (.int .u32 r0) := Bk.cell k3 0; have g1 : W.cell? ⟨qc, 1, none⟩ = some (.int .u32 r1) := Bk.cell k3 1; have g2 : W.cell? ⟨qc, 2, none⟩ = some (.int .u32 r2) := Bk.cell k3 2; have g3 : W.cell? ⟨qc, 3, none⟩ = some (.int .u32 r3) := Bk.cell k3 3; have g4 : W.cell? ⟨qc, 4, none⟩ = some (.int .u32 r4) := Bk.cell k3 4; have g5 : W.cell? ⟨qc, 5, none⟩ = some (.int .u32 r5) := Bk.cell k3 5; have g6 : W.cell? ⟨qc, 6, none⟩ = some (.int .u32 r6) := Bk.cell k3 6; have g7 : W.cell? ⟨qc, 7, none⟩ = some (.int .u32 r7) := Bk.cell k3 7; have g8 : W.cell? ⟨qc, 8, none⟩ = some (.int .i64 pn) := Bk.cell k3 8; clear k1 k2 k3 k4
                                clear hd
                                go_simp
                                exact ⟨rfl, Below.refl _ _⟩
                              · intro vs W kk h1 h2 hW hd
                                obtain rfl : kk = 0 := Nat.le_zero.1 h2
                                have eg : vs 3 = .bool false := hd 3 (by decide)
                                refine leaves_guard rfl (by show (match some (vs 3) with | some (.bool b) => some b | _ => none) = some false; rw [eg]) ?_
                                clear eg
                                clear hd
                                go_simp
                                exact ⟨rfl, Below.refl _ _⟩
                              · intro vs W kk h1 h2 hW hd
                                obtain rfl : kk = 0 := Nat.le_zero.1 h2
                                have eg : vs 3 = .bool false := hd 3 (by decide)
                                refine leaves_guard rfl (by show (match some (vs 3) with | some (.bool b) => some b | _ => none) = some false; rw [eg]) ?_
                                clear eg
                                have e6 : vs 6 = .pointer (some ⟨qo, 2, none⟩) := hd 6 (by decide)
                                obtain ⟨k1, k2, k3, k4, -⟩ := HY.out W hW; have y1 : W.cell? ⟨qb, 1, none⟩ = some (.int .i64 t) := Bk.cell k1 1; have y2 : W.cell? ⟨qo, 2, none⟩ = some (.int .i64 a) := Bk.cell k2 2; have y3 : W.cell? ⟨qp, 2, none⟩ = some (.int .i64 a) := Bk.cell k4 2; have y4 : W.cell? ⟨qp, 4, none⟩ = some (.bool true) := Bk.cell k4 4; have g0 : W.cell? ⟨qc, 0, none⟩ = some (.int .u32 r0) := Bk.cell k3 0; have g1 : W.cell? ⟨qc, 1, none⟩ = some (.int .u32 r1) := Bk.cell k3 1; have g2 : W.cell? ⟨qc, 2, none⟩ = some (.int .u32 r2) := Bk.cell k3 2; have g3 : W.cell? ⟨qc, 3, none⟩ = some (.int .u32 r3) := Bk.cell k3 3; have g4 : W.cell? ⟨qc, 4, none⟩ = some (.int .u32 r4) := Bk.cell k3 4; have g5 : W.cell? ⟨qc, 5, none⟩ = some (.int .u32 r5) := Bk.cell k3 5; have g6 : W.cell? ⟨qc, 6, none⟩ = some (.int .u32 r6) := Bk.cell k3 6; have g7 : W.cell? ⟨qc, 7, none⟩ = some (.int .u32 r7) := Bk.cell k3 7; have g8 : W.cell? ⟨qc, 8, none⟩ = some (.int .i64 pn) := Bk.cell k3 8; clear k1 k2 k3 k4
                                clear hd
                                go_simp
                                exact ⟨rfl, Below.refl _ _⟩
                              · intro vs W kk h1 h2 hW hd
                                obtain rfl : kk = 0 := Nat.le_zero.1 h2
                                have eg : vs 3 = .bool false := hd 3 (by decide)
                                refine leaves_guard rfl (by show (match some (vs 3) with | some (.bool b) => some b | _ => none) = some false; rw [eg]) ?_
                                clear eg
                                have e5 : vs 5 = .int .i64 a := hd 5 (by decide)
                                have e7 : vs 7 = .int .i64 a := hd 7 (by decide)
                                clear hd
                                go_simp
                                exact ⟨rfl, Below.refl _ _⟩
                              · intro vs W kk h1 h2 hW hd
                                obtain rfl : kk = 0 := Nat.le_zero.1 h2
                                refine leaves_free rfl ?_
                                have e3 : vs 3 = .bool false := hd 3 (by decide)
                                have e8 : vs 8 = .bool false := hd 8 (by decide)
                                clear hd
                                go_simp
                                exact ⟨rfl, Below.refl _ _⟩
                              · intro vs W kk h1 h2 hW hd
                                obtain rfl : kk = 0 := Nat.le_zero.1 h2
                                refine leaves_free rfl ?_
                                have e9 : vs 9 = .bool false := hd 9 (by decide)
                                clear hd
                                go_simp
                                exact ⟨rfl, Below.refl _ _⟩
                              · intro vs W kk h1 h2 hW hd
                                obtain rfl : kk = 0 := Nat.le_zero.1 h2
                                have eg : vs 10 = .bool false := hd 10 (by decide)
                                refine leaves_guard rfl (by show (match some (vs 10) with | some (.bool b) => some b | _ => none) = some false; rw [eg]) ?_
                                clear eg
                                clear hd
                                go_simp
                                exact ⟨rfl, Below.refl _ _⟩
                              · intro vs W kk h1 h2 hW hd
                                obtain rfl : kk = 0 := Nat.le_zero.1 h2
                                have eg : vs 10 = .bool false := hd 10 (by decide)
                                refine leaves_guard rfl (by show (match some (vs 10) with | some (.bool b) => some b | _ => none) = some false; rw [eg]) ?_
                                clear eg
                                clear hd
                                go_simp
                                exact ⟨rfl, Below.refl _ _⟩
                              · intro vs W kk h1 h2 hW hd
                                obtain rfl : kk = 0 := Nat.le_zero.1 h2
                                have eg : vs 10 = .bool false := hd 10 (by decide)
                                refine leaves_guard rfl (by show (match some (vs 10) with | some (.bool b) => some b | _ => none) = some false; rw [eg]) ?_
                                clear eg
                                have e12 : vs 12 = .pointer (some ⟨qb, 1, none⟩) := hd 12 (by decide)
                                obtain ⟨k1, k2, k3, k4, -⟩ := HY.out W hW; have y1 : W.cell? ⟨qb, 1, none⟩ = some (.int .i64 t) := Bk.cell k1 1; have y2 : W.cell? ⟨qo, 2, none⟩ = some (.int .i64 a) := Bk.cell k2 2; have y3 : W.cell? ⟨qp, 2, none⟩ = some (.int .i64 a) := Bk.cell k4 2; have y4 : W.cell? ⟨qp, 4, none⟩ = some (.bool true) := Bk.cell k4 4; have g0 : W.cell? ⟨qc, 0, none⟩ = some (.int .u32 r0) := Bk.cell k3 0; have g1 : W.cell? ⟨qc, 1, none⟩ = some (.int .u32 r1) := Bk.cell k3 1; have g2 : W.cell? ⟨qc, 2, none⟩ = some (.int .u32 r2) := Bk.cell k3 2; have g3 : W.cell? ⟨qc, 3, none⟩ = some (.int .u32 r3) := Bk.cell k3 3; have g4 : W.cell? ⟨qc, 4, none⟩ = some (.int .u32 r4) := Bk.cell k3 4; have g5 : W.cell? ⟨qc, 5, none⟩ = some (.int .u32 r5) := Bk.cell k3 5; have g6 : W.cell? ⟨qc, 6, none⟩ = some (.int .u32 r6) := Bk.cell k3 6; have g7 : W.cell? ⟨qc, 7, none⟩ = some (.int .u32 r7) := Bk.cell k3 7; have g8 : W.cell? ⟨qc, 8, none⟩ = some (.int .i64 pn) := Bk.cell k3 8; clear k1 k2 k3 k4
                                clear hd
                                go_simp
                                exact ⟨rfl, Below.refl _ _⟩
                              · intro vs W kk h1 h2 hW hd
                                obtain rfl : kk = 0 := Nat.le_zero.1 h2
                                have eg : vs 10 = .bool false := hd 10 (by decide)
                                refine leaves_guard rfl (by show (match some (vs 10) with | some (.bool b) => some b | _ => none) = some false; rw [eg]) ?_
                                clear eg
                                have e11 : vs 11 = .pointer (some ⟨X.x, 0, none⟩) := hd 11 (by decide)
                                have e13 : vs 13 = .int .i64 t := hd 13 (by decide)
                                clear hd
                                have hC := xCore (HY.out W hW).2.2.2.2 t HT.out
                                rw [E6] at hC
                                unfold cv at hC
                                simp only [corC, List.map_cons, List.map_nil, List.cons_append, List.nil_append] at hC
                                go_simp
                                refine hC.mono ?_
                                rintro e zz ⟨rfl, hz⟩
                                exact ⟨_, rfl, rfl, hz⟩
                              · intro vs W kk h1 h2 hW hd
                                obtain rfl : kk = 0 := Nat.le_zero.1 h2
                                have eg : vs 10 = .bool false := hd 10 (by decide)
                                refine leaves_guard rfl (by show (match some (vs 10) with | some (.bool b) => some b | _ => none) = some false; rw [eg]) ?_
                                clear eg
                                obtain ⟨k1, k2, k3, k4, -⟩ := HY.out W hW; have y1 : W.cell? ⟨qb, 1, none⟩ = some (.int .i64 t) := Bk.cell k1 1; have y2 : W.cell? ⟨qo, 2, none⟩ = some (.int .i64 a) := Bk.cell k2 2; have y3 : W.cell? ⟨qp, 2, none⟩ = some (.int .i64 a) := Bk.cell k4 2; have y4 : W.cell? ⟨qp, 4, none⟩ = some (.bool true) := Bk.cell k4 4; have g0 : W.cell? ⟨qc, 0, none⟩ = some (.int .u32 r0) := Bk.cell k3 0; have g1 : W.cell? ⟨qc, 1, none⟩ = some (.int .u32 r1) := Bk.cell k3 1; have g2 : W.cell? ⟨qc, 2, none⟩ = some (.int .u32 r2) := Bk.cell k3 2; have g3 : W.cell? ⟨qc, 3, none⟩ = some (.int .u32 r3) := Bk.cell k3 3; have g4 : W.cell? ⟨qc, 4, none⟩ = some (.int .u32 r4) := Bk.cell k3 4; have g5 : W.cell? ⟨qc, 5, none⟩ = some (.int .u32 r5) := Bk.cell k3 5; have g6 : W.cell? ⟨qc, 6, none⟩ = some (.int .u32 r6) := Bk.cell k3 6; have g7 : W.cell? ⟨qc, 7, none⟩ = some (.int .u32 r7) := Bk.cell k3 7; have g8 : W.cell? ⟨qc, 8, none⟩ = some (.int .i64 pn) := Bk.cell k3 8; clear k1 k2 k3 k4
                                clear hd
                                go_simp
                                exact ⟨rfl, Below.refl _ _⟩
                              · intro vs W kk h1 h2 hW hd
                                obtain rfl : kk = 0 := Nat.le_zero.1 h2
                                have eg : vs 10 = .bool false := hd 10 (by decide)
                                refine leaves_guard rfl (by show (match some (vs 10) with | some (.bool b) => some b | _ => none) = some false; rw [eg]) ?_
                                clear eg
                                have e14 : vs 14 = .agg #[.int .u32 r0, .int .u32 r1, .int .u32 r2, .int .u32 r3, .int .u32 r4, .int .u32 r5, .int .u32 r6, .int .u32 r7, .int .i64 pn] := hd 14 (by decide)
                                have e15 : vs 15 = .agg #[.int .u32 r0, .int .u32 r1, .int .u32 r2, .int .u32 r3, .int .u32 r4, .int .u32 r5, .int .u32 r6, .int .u32 r7, .int .i64 pn] := hd 15 (by decide)
                                clear hd
                                go_simp
                                exact ⟨rfl, Below.refl _ _⟩
                              · intro vs W kk h1 h2 hW hd
                                obtain rfl : kk = 0 := Nat.le_zero.1 h2
                                refine leaves_free rfl ?_
                                have e10 : vs 10 = .bool false := hd 10 (by decide)
                                have e16 : vs 16 = .bool false := hd 16 (by decide)
                                clear hd
                                go_simp
                                exact ⟨rfl, Below.refl _ _⟩
                            case gdone =>
                              intro vs W hW hf
                              have f0 : vs 0 = .pointer (some ⟨qp, 4, none⟩) := hf 0 (by decide)
                              have f1 : vs 1 = .bool true := hf 1 (by decide)
                              have f2 : vs 2 = .bool false := hf 2 (by decide)
                              have f3 : vs 3 = .bool false := hf 3 (by decide)
                              have f4 : vs 4 = .pointer (some ⟨qp, 2, none⟩) := hf 4 (by decide)
                              have f5 : vs 5 = .int .i64 a := hf 5 (by decide)
                              have f6 : vs 6 = .pointer (some ⟨qo, 2, none⟩) := hf 6 (by decide)
                              have f7 : vs 7 = .int .i64 a := hf 7 (by decide)
                              have f8 : vs 8 = .bool false := hf 8 (by decide)
                              have f9 : vs 9 = .bool false := hf 9 (by decide)
                              have f10 : vs 10 = .bool false := hf 10 (by decide)
                              have f11 : vs 11 = .pointer (some ⟨X.x, 0, none⟩) := hf 11 (by decide)
                              have f12 : vs 12 = .pointer (some ⟨qb, 1, none⟩) := hf 12 (by decide)
                              have f13 : vs 13 = .int .i64 t := hf 13 (by decide)
                              have f14 : vs 14 = .agg #[.int .u32 r0, .int .u32 r1, .int .u32 r2, .int .u32 r3, .int .u32 r4, .int .u32 r5, .int .u32 r6, .int .u32 r7, .int .i64 pn] := hf 14 (by decide)
                              have f15 : vs 15 = .agg #[.int .u32 r0, .int .u32 r1, .int .u32 r2, .int .u32 r3, .int .u32 r4, .int .u32 r5, .int .u32 r6, .int .u32 r7, .int .i64 pn] := hf 15 (by decide)
                              have f16 : vs 16 = .bool false := hf 16 (by decide)
                              have f17 : vs 17 = .bool false := hf 17 (by decide)
                              simp only [f0, f1, f2, f3, f4, f5, f6, f7, f8, f9, f10, f11, f12, f13, f14, f15, f16, f17]
                              clear f0 f1 f2 f3 f4 f5 f6 f7 f8 f9 f10 f11 f12 f13 f14 f15 f16 f17
                              have hF := HZ.out.1.below hW
                              clear hW hf heq
                              go_wp2
                              go_roundw
                              case rel => exact ⟨i + 1, M5, m5, by omega, by go_num, hF⟩
                              case measure => simp [intOf]; omega
              · have hF := (HO.out).2.1
                go_wp2
                go_roundw
                case rel => exact ⟨i + 1, M, m, by omega, by go_num, hF⟩
                case measure => simp [intOf]; omega
            · have hF := (HO.out).2.1
              go_wp2
              go_roundw
              case rel => exact ⟨i + 1, M, m, by omega, by go_num, hF⟩
              case measure => simp [intOf]; omega
          · obtain rfl : i = len1 := by omega
            go_wp2_with fail
            refine (lAwake10 _).mono ?_
            rintro e y7 ⟨rfl, hy7⟩
            go_wp2
            go_ret
            exact ⟨rfl, (HL.out.below hy7).bel⟩
    · go_wp2_with fail
      refine (lAwake10 _).mono ?_
      rintro e y3 ⟨rfl, hy3⟩
      go_wp2
      go_ret
      exact ⟨rfl, Q2.out.2.1.trans (hy3.mono Q2.out.2.1.size)⟩
  · have hf : (decide (P0.l.length ≤ 80) && (decide (Z0.length ≤ 12) && (decide (I0.length ≤ 300) && decide (R0.length ≤ 80)))) = false := by
      rw [Bool.eq_false_iff]
      intro e
      simp only [Bool.and_eq_true, decide_eq_true_eq] at e
      exact hsm e
    rw [hf] at hS
    clear hf hsm
    go_wp2_with fail
    refine hS.mono ?_
    rintro e y2 ⟨rfl, hy2⟩
    clear hS
    go_wp2_with fail
    refine (lAwake10 _).mono ?_
    rintro e y3 ⟨rfl, hy3⟩
    go_wp2
    go_ret
    exact ⟨rfl, Q0.out.2.1.trans ((hy2.trans (hy3.mono hy2.size)).mono Q0.out.2.1.size)⟩

set_option maxRecDepth 100000 in
theorem lifted (os : Os) (started : os.Started) (H : Type) (enc : TypeId × Value → H) :
    ReturnsInHanded {} Try.checked os 3 .any (Rows.execStaysSpec.pre6 enc Try.prog Try.f3 Rows.execStaysRow.domain false) (Rows.execStaysSpec.post enc Try.prog Try.f3 false true false false) := by
  refine returnsInHanded_of_change (C := Try.checked) own started (by kernel_rfl) Try.func3
    (ChangeSpec.witness6 (enc := enc) (C := Try.checked) false ⟨#[], #[.agg #[.slice none 0 0, .int .i64 0, .int .i64 0, .slice none 0 0, .slice none 0 0, .int .i64 0, .slice none 0 0], .slice none 0 0], []⟩ 8 (by kernel_rfl) (by kernel_rfl) (by kernel_rfl) (by kernel_rfl)) ?_
  intro W base args ds gs before hval0 hW hcnd _
  have hval : ∀ (j : Nat) t v, Try.f3.params[j]? = some t → args[j]? = some v → Value.okWide Try.prog W .any base t v := hval0
  have hW' := hW
  obtain ⟨p, q, hA0, hV, rfl, hfz, hnd⟩ := hW
  have hA : DataW.TrodAll enc Try.prog W 0 (fun _ => true) true Try.f3.params.toList args.toList ds p := hA0
  rw [Try.params3] at hA hval
  obtain ⟨v0, vs0, d0, ds0, p0, q0, hargs, rfl, rfl, h0, r0⟩ := trodAll_cons hA
  obtain ⟨v1, vs1, d1, ds1, p1, q1, rfl, rfl, rfl, h1, r1⟩ := trodAll_cons r0
  obtain ⟨rfl, rfl, rfl⟩ := trodAll_nil r1
  obtain rfl : args = #[v0, v1] := by cases args; simp_all
  obtain ⟨rfl, rfl⟩ := trodVars_none hV
  have k0 := h0
  have lt0 : ∀ x ∈ p0, x.block < W.heap.size := by obtain ⟨m, hm⟩ := k0; exact DataW.trod_lt m _ _ _ hm
  obtain ⟨P0, Z0, I0, R0, E0, sv0, pw0, ui0, ur0⟩ := open_spec (hval 0 28 v0 rfl rfl) h0
  obtain ⟨a1, len1, cap1, rfl⟩ := okWide_slice Try.underlying29 (hval 1 29 v1 rfl rfl)
  have k1 := h1
  have lt1 : ∀ x ∈ p1, x.block < W.heap.size := by obtain ⟨m, hm⟩ := k1; exact DataW.trod_lt m _ _ _ hm
  obtain ⟨hb1, g1⟩ : len1 ≤ maxLen ∧ Recs W a1 len1 3 Cell1 := by
    obtain ⟨fuel, hf⟩ := h1
    obtain ⟨hle, hr⟩ := open_recs Try.underlying29 Try.underlying44 (by kernel_rfl) (by kernel_rfl) (by decide) (by simpa [Value.cells] using hf)
    refine ⟨hle, fun h0 => ?_⟩
    obtain ⟨b, off, e, hlt, hc⟩ := hr h0
    refine ⟨b, off, e, hlt, fun i hi j hj => ?_⟩
    obtain ⟨u, hu, hw⟩ := hc i hi j hj
    refine ⟨u, hu, ?_⟩
    match j, hj with
    | 0, _ => obtain ⟨n, y, hy⟩ := hw _ rfl; obtain ⟨x, e, _, wx⟩ := DataW.trod_int Try.underlying3 hy; simp at e; subst e; exact ⟨x, rfl, wx⟩
    | 1, _ => obtain ⟨n, y, hy⟩ := hw _ rfl; obtain ⟨x, e, _, wx⟩ := DataW.trod_int Try.underlying3 hy; simp at e; subst e; exact ⟨x, rfl, wx⟩
    | 2, _ => obtain ⟨n, y, hy⟩ := hw _ rfl; obtain ⟨x, e, _⟩ := DataW.trod_bool Try.underlying4 hy; simp at e; subst e; exact ⟨x, rfl⟩
  clear hA0 hval0
  refine (walk P0 Z0 I0 R0 E0 v0 a1 len1 cap1 W sv0 pw0 ui0 ur0 g1 hb1).mono fun e W' ⟨he, bel⟩ => ?_
  subst he
  exact ⟨_, rfl, _, _, _, [], _, [], hW', trodAll_mk1 (shut_bool Try.underlying4 _), (trodAll_cons_mk (Below.trod laidOut (by kernel_rfl) (of_decide_eq_true (by kernel_rfl)) k0 bel lt0) (trodAll_cons_mk (Below.trod laidOut (by kernel_rfl) (of_decide_eq_true (by kernel_rfl)) k1 bel lt1) trodAll_mk0)), rfl, bel.frame _, fun h => by cases h⟩

theorem over : Rows.execStaysRow.holds Try.pinned (OpenSpec.ofChange Rows.execStaysSpec) :=
  OpenClaim.holds_of_wide 3 Try.f3 rfl rfl rfl rfl rfl rfl rfl ⟨rfl, rfl, rfl, rfl, rfl⟩ rfl rfl rfl rfl rfl (by kernel_rfl) Try.func3 (by kernel_rfl)
    (of_decide_eq_true (by kernel_rfl)) (by unfold Func.isWrapper; first | (rw [if_pos (by decide +kernel)]; kernel_rfl) | (rw [if_neg (by decide +kernel)]; exact ⟨rfl, rfl⟩))
    (fun os started H enc _ => lifted os started H enc)

/-- The statement. -/
theorem proved : Rows.ExecStaysSaid := over
#print axioms proved
end Go.Proofs.Ytpinpipjlongaaa.execStays
