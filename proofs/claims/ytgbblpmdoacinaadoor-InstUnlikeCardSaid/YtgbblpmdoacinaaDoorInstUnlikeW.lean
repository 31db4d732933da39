/- The walk of InstUnlike. -/
import Derived.Test.YtgbblpmdoacinaaDoorInstK
namespace Go.Proofs.YtgbblpmdoacinaaDoor.instUnlike
open Go.ChangeShapes Go.WideShapes Go.ChangeAt Go.RowKit
set_option linter.unusedVariables false

theorem beq_iff (a b : List UInt8) (i j : Ins) (h : a = b ↔ i = j) : ((a == b) == eqI i j) = true := by
  have e : (a == b) = eqI i j := by
    rw [Bool.eq_iff_iff, eqI_iff, ← h]
    simp
  rw [e]
  cases eqI i j <;> rfl

set_option maxHeartbeats 1000000 in
theorem walk (i j : Ins) (hi : i.Wf) (hj : j.Wf) (w : World) (L : Lb w) :
    Calls Tryd.prog 6 #[iv i, iv j] w fun e w' => e = .returned (.bool true) ∧ Below w.heap.size w w' := by
  have H1 := Lib.hid (fun W LW => cText i hi W LW)
  have H2 := Lib.hid (fun W LW => cText j hj W LW)
  have HA := Lib.hid (fun W LW => lAwake W LW)
  have E1 : textV i = if rightB i 1073741824 = true then .tuple #[bs (textL i), .int .i64 0] else .tuple #[bs [], .int .i64 1] := rfl
  have E2 : textV j = if rightB j 1073741824 = true then .tuple #[bs (textL j), .int .i64 0] else .tuple #[bs [], .int .i64 1] := rfl
  have EQ : rightB i 1073741824 = true → rightB j 1073741824 = true → ((textL i == textL j) == eqI i j) = true := fun h1 h2 =>
    beq_iff _ _ _ _ ⟨fun h => text_inj i j h1 h2 hi.k0 hi.k1 hj.k0 hj.k1 h, fun h => by rw [h]⟩
  have hq := run_eqI i j
  generalize eqI i j = B at *
  generalize textL i = t1 at *
  generalize textL j = t2 at *
  generalize textV i = v1 at *
  generalize textV j = v2 at *
  generalize hr1 : rightB i 1073741824 = r1 at *
  generalize hr2 : rightB j 1073741824 = r2 at *
  clear hr1 hr2 hi hj
  obtain ⟨op, d, s, t, u, a, k, pl⟩ := i
  obtain ⟨op2, d2, s2, t2', u2, a2, k2, pl2⟩ := j
  have HQ := Lib.hid EQ
  have HE1 := Lib.hid E1
  have HE2 := Lib.hid E2
  clear EQ E1 E2
  unfold iv at hq ⊢
  simp only at hq
  go_enter Tryd.func6, Tryd.ntmps6
  go_wp2_with fail
  have hb : Below w.heap.size w ((w.alloc (.cells #[.int .i64 op, .int .i64 d, .int .i64 s, .int .i64 t, .int .i64 u, .int .i64 a, .int .u32 k, .int .i64 pl] 24)).alloc (.cells #[.int .i64 op2, .int .i64 d2, .int .i64 s2, .int .i64 t2', .int .i64 u2, .int .i64 a2, .int .u32 k2, .int .i64 pl2] 24)) := ((Below.refl _ _).alloc (Nat.le_refl _) _).alloc (by simp) _
  have m1 : Ib ((w.alloc (.cells #[.int .i64 op, .int .i64 d, .int .i64 s, .int .i64 t, .int .i64 u, .int .i64 a, .int .u32 k, .int .i64 pl] 24)).alloc (.cells #[.int .i64 op2, .int .i64 d2, .int .i64 s2, .int .i64 t2', .int .i64 u2, .int .i64 a2, .int .u32 k2, .int .i64 pl2] 24)) w.heap.size ⟨op, d, s, t, u, a, k, pl⟩ := (Bk.made _ _ _).alloc _
  have m2 : Ib ((w.alloc (.cells #[.int .i64 op, .int .i64 d, .int .i64 s, .int .i64 t, .int .i64 u, .int .i64 a, .int .u32 k, .int .i64 pl] 24)).alloc (.cells #[.int .i64 op2, .int .i64 d2, .int .i64 s2, .int .i64 t2', .int .i64 u2, .int .i64 a2, .int .u32 k2, .int .i64 pl2] 24)) (w.heap.size + 1) ⟨op2, d2, s2, t2', u2, a2, k2, pl2⟩ := by
    have h := Ib.made (w.alloc (.cells #[.int .i64 op, .int .i64 d, .int .i64 s, .int .i64 t, .int .i64 u, .int .i64 a, .int .u32 k, .int .i64 pl] 24)) op2 d2 s2 t2' u2 a2 k2 pl2
    rw [show (w.alloc (.cells #[.int .i64 op, .int .i64 d, .int .i64 s, .int .i64 t, .int .i64 u, .int .i64 a, .int .u32 k, .int .i64 pl] 24)).heap.size = w.heap.size + 1 by simp] at h
    exact h
  generalize (w.alloc (.cells #[.int .i64 op, .int .i64 d, .int .i64 s, .int .i64 t, .int .i64 u, .int .i64 a, .int .u32 k, .int .i64 pl] 24)).alloc (.cells #[.int .i64 op2, .int .i64 d2, .int .i64 s2, .int .i64 t2', .int .i64 u2, .int .i64 a2, .int .u32 k2, .int .i64 pl2] 24) = x at *
  refine (H1.out x (L.below hb)).mono ?_
  rintro e y ⟨rfl, hy⟩
  replace m1 := m1.below hy
  replace m2 := m2.below hy
  replace hb := hb.trans (hy.mono hb.size)
  clear hy x
  obtain ⟨c0, c1, c2, c3, c4, c5, c6, c7⟩ := m2.cells
  simp only at c0 c1 c2 c3 c4 c5 c6 c7
  rw [HE1.out]
  cases r1
  all_goals
    first | rw [if_pos rfl] | rw [if_neg (by decide)]
    unfold bs
    go_wp2_with fail
    refine (H2.out y (L.below hb)).mono ?_
    rintro e z ⟨rfl, hz⟩
    have n1 := m1.below hz
    have n2 := m2.below hz
    have hb2 := hb.trans (hz.mono hb.size)
    clear hz c0 c1 c2 c3 c4 c5 c6 c7
    obtain ⟨c0, c1, c2, c3, c4, c5, c6, c7⟩ := n2.cells
    obtain ⟨g0, g1, g2, g3, g4, g5, g6, g7⟩ := n1.cells
    simp only at c0 c1 c2 c3 c4 c5 c6 c7 g0 g1 g2 g3 g4 g5 g6 g7
    rw [HE2.out]
    cases r2
    all_goals
      first | rw [if_pos rfl] | rw [if_neg (by decide)]
      unfold bs
      try have hqq : (t1 == t2) = B := eq_of_beq (HQ.out trivial rfl)
      go_wp2_with fail
      refine (HA.out z (L.below hb2)).mono ?_
      rintro e v ⟨rfl, hv⟩
      go_wp2
      go_ret
      exact ⟨rfl, hb2.trans (hv.mono hb2.size)⟩
end Go.Proofs.YtgbblpmdoacinaaDoor.instUnlike
