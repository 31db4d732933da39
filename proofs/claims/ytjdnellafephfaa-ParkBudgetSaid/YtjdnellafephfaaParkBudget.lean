/- For every uint16, uint16 and uint8: ParkBudget returns true, so just as many looks as the budget says, one behind the other, park a thread, with something else in between they begin anew, and every call comes back; no condition. -/
import Derived.Test.YtjdnellafephfaaParkS
import Derived.WalkKit
import Derived.ProofKit
import Derived.OpenShut
import Derived.ChangeOld
namespace Go.Proofs.Ytjdnellafephfaa.parkBudget
open Go.ChangeShapes Go.WideShapes Go.ChangeAt Go.RowKit
set_option linter.unusedVariables false

theorem own : ownKnob Try.prog.godebug = none := by kernel_rfl
theorem laidOut : laidOutB Try.prog = true := by kernel_rfl

/-- The thread 1 has had k looks in vain. -/
def st (N k : Nat) : List (Int × Int) := [((N : Int), 0), ((N : Int) - k, 0)]
/-- .. and is parked behind the last one. -/
def zst (N k : Nat) (c : Int) : List (Int × Int) := if k < N then st N k else [((N : Int), 0), (0, c)]
theorem lf_st (N k : Nat) : lf (st N k) 1 = (N : Int) - k := rfl
theorem look_on {N k : Nat} (h : k + 1 < N) (c : Int) : lookS (st N k) 1 c = st N (k + 1) := by
  unfold lookS
  rw [lf_st, if_neg (by omega)]
  simp only [st, ad, nthO, List.set_cons_succ, List.set_cons_zero, List.getD_cons_succ, List.getD_cons_zero]
  rw [show (N : Int) - k - 1 = (N : Int) - ((k + 1 : Nat) : Int) by omega]
theorem look_z {N k : Nat} (h : k < N) (c : Int) : lookS (zst N k c) 1 c = zst N (k + 1) c := by
  unfold zst
  rw [if_pos h]
  by_cases e : k + 1 < N
  · rw [if_pos e]; exact look_on e c
  · rw [if_neg e]
    unfold lookS
    rw [lf_st, if_pos (by omega)]
    rfl
theorem lf_z {N k : Nat} (h : k < N) (c : Int) : lf (zst N k c) 1 = (N : Int) - k := by unfold zst; rw [if_pos h]; rfl
theorem moved_st (N k : Nat) : (st N k).set 1 ((N : Int), 0) = st N 0 := by simp [st]
theorem rep_st (N : Nat) : List.replicate 2 ((N : Int), (0 : Int)) = st N 0 := by simp [st, List.replicate]

theorem hit0 {N : Nat} (h : 1 ≤ N) (c a b : Int) : hit [((N : Int), 0), (0, c)] (List.replicate 2 false) a b 0 = false := by
  have : decide (lf [((N : Int), (0 : Int)), (0, c)] 0 = 0) = false := decide_eq_false (by show ¬ (N : Int) = 0; omega)
  unfold hit; rw [this]; rfl
theorem hit1 {N : Nat} (c a b : Int) : hit [((N : Int), 0), (0, c)] (List.replicate 2 false) a b 1 = ((c == a) && ((1 : Int) != b)) := by
  unfold hit; simp [lf, ad, nthO]
theorem woke2 {N : Nat} (h : 1 ≤ N) (c a b : Int) : woke [((N : Int), 0), (0, c)] (List.replicate 2 false) a b 2 = if ((c == a) && ((1 : Int) != b)) then [1] else [] := by
  simp only [woke, hit0 h, hit1]; simp
theorem wokeB2 {N : Nat} (h : 1 ≤ N) (c a b : Int) : wokeB [((N : Int), 0), (0, c)] (List.replicate 2 false) a b 2 = if ((c == a) && ((1 : Int) != b)) then [false, true] else List.replicate 2 false := by
  simp only [wokeB, hit0 h, hit1]; rfl

set_option maxHeartbeats 1000000 in
set_option maxRecDepth 100000 in
theorem walk (x0 x1 x2 : Int) (w : World) (w0 : (Lit.int .u16 x0).wf = true) (w1 : (Lit.int .u16 x1).wf = true) (w2 : (Lit.int .u8 x2).wf = true) :
    Calls Try.prog 4 #[.int .u16 x0, .int .u16 x1, .int .u8 x2] w fun e w' => e = .returned (.bool true) ∧ Below w.heap.size w w' := by
  have b0 : 0 ≤ x0 ∧ x0 < 65536 := by simp [Lit.wf, IntKind.min, IntKind.max, IntKind.bits, IntKind.signed] at w0; omega
  have b1 : 0 ≤ x1 ∧ x1 < 65536 := by simp [Lit.wf, IntKind.min, IntKind.max, IntKind.bits, IntKind.signed] at w1; omega
  have b2 : 0 ≤ x2 ∧ x2 < 256 := by simp [Lit.wf, IntKind.min, IntKind.max, IntKind.bits, IntKind.signed] at w2; omega
  clear w0 w1 w2
  obtain ⟨s, rfl⟩ := Int.eq_ofNat_of_zero_le b0.1
  obtain ⟨m, rfl⟩ := Int.eq_ofNat_of_zero_le b1.1
  have hs : s < 65536 := by omega
  have hm : m < 65536 := by omega
  go_enter Try.func4, Try.ntmps4
  go_wp2_with fail
  have hN1 : 1 ≤ 1 + s % 1000 := by omega
  have hN2 : 1 + s % 1000 ≤ 1000 := by omega
  have eN : (1 + (s : Int) % 1000) = ((1 + s % 1000 : Nat) : Int) := by omega
  rw [eN]
  clear eN b0 b1
  generalize 1 + s % 1000 = N at hN1 hN2 ⊢
  refine (wNew 2 N (by omega) (by omega) (by omega) (by omega) w).mono ?_
  rintro e wa ⟨p, q, g, rfl, h1, hg, hgr⟩
  rw [rep_st] at h1
  have hN0 : ¬ (N : Int) = 0 := by omega
  have eM : (m : Int) % (N : Int) = ((m % N : Nat) : Int) := by omega
  have hr : m % N < N := Nat.mod_lt _ hN1
  go_wp2
  rw [eM]
  clear eM
  generalize m % N = r at hr ⊢
  go_loopw [32] (fun i wr => ∃ k : Nat, k ≤ r ∧ i = .int .i64 k ∧ Wt wr p q g 2 N (st N k) (List.replicate 2 false) ∧ w.grownBy wr none) (fun i _ => r - (intOf i).toNat)
  case atStart => exact ⟨0, Nat.zero_le _, rfl, h1, hgr⟩
  case round =>
    clear h1 hgr
    obtain ⟨k, hk, rfl, hw, hgr⟩ := hrel
    by_cases hlt : k < r
    · have hL := wLook hw 1 (by omega) (by rw [lf_st]; omega) x2
      rw [look_on (by omega), lf_st, decide_eq_false (by omega)] at hL
      go_wp2_with fail
      refine hL.mono ?_
      rintro e w1 ⟨rfl, h1, k1⟩
      have HR := Lib.hid (And.intro h1 (hw.more hg hgr k1))
      clear h1 k1 hw hgr hL
      go_wp2
      go_roundw
      case rel => exact ⟨k + 1, by omega, by go_num, HR.out⟩
      case measure => simp [intOf]; omega
    · obtain rfl : k = r := by omega
      have hM := wMoved hw 1 (by omega) (by rw [lf_st]; omega)
      rw [moved_st] at hM
      go_wp2_with fail
      refine hM.mono ?_
      rintro e w1 ⟨rfl, h1, k1⟩
      have hgr1 := hw.more hg hgr k1
      clear k1 hw hgr hM
      go_wp2
      go_loopw [42] (fun i wr => ∃ k : Nat, k ≤ N ∧ i = .int .i64 k ∧ Wt wr p q g 2 N (zst N k x2) (List.replicate 2 false) ∧ w.grownBy wr none) (fun i _ => N - (intOf i).toNat)
      case atStart => exact ⟨0, Nat.zero_le _, rfl, by rw [zst, if_pos (by omega)]; exact h1, hgr1⟩
      case round =>
        clear h1 hgr1
        obtain ⟨j, hj, rfl, hw, hgr⟩ := hrel
        by_cases hlt : j < N
        · have hL := wLook hw 1 (by omega) (by rw [lf_z hlt]; omega) x2
          rw [look_z hlt, lf_z hlt] at hL
          rw [show decide ((N : Int) - j = 1) = ((j : Int) == (N : Int) - 1) by rw [Bool.eq_iff_iff]; simp; omega] at hL
          go_wp2_with fail
          refine hL.mono ?_
          rintro e w1 ⟨rfl, h1, k1⟩
          have HR := Lib.hid (And.intro h1 (hw.more hg hgr k1))
          clear h1 k1 hw hgr hL
          go_wp2
          go_roundw
          case rel => exact ⟨j + 1, by omega, by go_num, HR.out⟩
          case measure => simp [intOf]; omega
        · obtain rfl : j = N := by omega
          rw [zst, if_neg (by omega)] at hw
          have n0 : ¬ (j : Int) = 0 := by omega
          have n1 : 0 < (j : Int) := by omega
          have hP := wParked hw 1 (by omega)
          have hR := wResume hw 1 (by omega)
          rw [show prkV [((j : Int), (0 : Int)), (0, x2)] (List.replicate 2 false) 1 = .tuple #[.int .i64 x2, .bool true] from rfl] at hP
          rw [show goV [((j : Int), (0 : Int)), (0, x2)] (List.replicate 2 false) 1 = false from rfl, show goS j [((j : Int), (0 : Int)), (0, x2)] (List.replicate 2 false) 1 = [((j : Int), (0 : Int)), (0, x2)] from rfl, show goB [((j : Int), (0 : Int)), (0, x2)] (List.replicate 2 false) 1 = (List.replicate 2 false) from rfl] at hR
          go_wp2_with fail
          refine hP.mono ?_
          clear hP
          rintro e w1 ⟨rfl, rfl⟩
          go_wp2_with fail
          refine hR.mono ?_
          clear hR
          rintro e w2 ⟨rfl, h2, k2⟩
          have g2 := hw.more hg hgr k2
          have hK := wLooks h2 1 (by omega)
          rw [show (if 0 < lf [((j : Int), (0 : Int)), (0, x2)] 1 then (j : Int) - lf [((j : Int), (0 : Int)), (0, x2)] 1 else 0) = 0 from rfl] at hK
          clear hw k2 hgr
          go_wp2_with fail
          refine hK.mono ?_
          clear hK
          rintro e w3 ⟨rfl, m3, rfl⟩
          have h3 := h2.drewN m3
          have g3 := grown_draws g2 m3
          generalize w2.drewN m3 = w3 at h3 g3 ⊢
          clear h2 g2
          have hW1 := wWrote h3 x2 1
          rw [woke2 hN1, wokeB2 hN1] at hW1
          simp only [BEq.rfl, bne_self_eq_false, Bool.and_false, Bool.false_eq_true, if_false] at hW1
          go_wp2_with fail
          refine hW1.mono ?_
          clear hW1
          rintro e w4 ⟨v4, rfl, hL4, h4, _, k4⟩
          have g4 := h3.more hg g3 k4
          obtain ⟨a4, cap4, rfl, _, _, _⟩ := hL4.is
          clear h3 g3 k4 hL4
          have hW2 := wWrote h4 (x2 + 1) 0
          rw [woke2 hN1, wokeB2 hN1] at hW2
          have hx : (x2 == x2 + 1) = false := by rw [beq_eq_false_iff_ne]; omega
          rw [hx] at hW2
          simp only [Bool.false_and, Bool.false_eq_true, if_false] at hW2
          go_wp2_with fail
          refine hW2.mono ?_
          clear hW2
          rintro e w5 ⟨v5, rfl, hL5, h5, _, k5⟩
          have g5 := h4.more hg g4 k5
          obtain ⟨a5, cap5, rfl, _, _, _⟩ := hL5.is
          clear h4 g4 k5 hL5
          have hW3 := wWrote h5 x2 0
          rw [woke2 hN1, wokeB2 hN1] at hW3
          simp only [BEq.rfl, Bool.true_and, show ((1 : Int) != 0) = true from rfl, if_true] at hW3
          go_wp2_with fail
          refine hW3.mono ?_
          clear hW3
          rintro e w6 ⟨v6, rfl, hL6, h6, _, k6⟩
          have g6 := h5.more hg g5 k6
          obtain ⟨a6, cap6, rfl, _, _, _⟩ := hL6.is
          clear h5 g5 k6 hL6
          have hR2 := wResume h6 1 (by omega)
          rw [show goV [((j : Int), (0 : Int)), (0, x2)] [false, true] 1 = true from rfl, show goS j [((j : Int), (0 : Int)), (0, x2)] [false, true] 1 = [((j : Int), (0 : Int)), (j, 0)] from rfl, show goB [((j : Int), (0 : Int)), (0, x2)] [false, true] 1 = [false, false] from rfl] at hR2
          go_wp2_with fail
          refine hR2.mono ?_
          clear hR2
          rintro e w7 ⟨rfl, h7, k7⟩
          have g7 := h6.more hg g6 k7
          clear h6 g6 k7
          have hK2 := wWake h7 1 (by omega)
          have hwv : wakeV [((j : Int), (0 : Int)), (j, 0)] [false, false] 1 = false := by
            unfold wakeV
            rw [decide_eq_false (show ¬ lf [((j : Int), (0 : Int)), (j, 0)] 1 = 0 from n0)]; rfl
          rw [hwv] at hK2
          go_wp2_with fail
          refine hK2.mono ?_
          clear hK2 hwv
          rintro e w8 ⟨rfl, h8, k8⟩
          have g8 := h7.more hg g7 k8
          clear h7 g7 k8 h8
          go_wp2_with fail
          refine (lAwake11 _).mono ?_
          rintro e w9 ⟨rfl, g9⟩
          go_wp2
          go_ret
          exact ⟨rfl, below_of_grown (grown_then g8 g9 (.inl rfl))⟩
set_option maxRecDepth 100000 in
theorem lifted (os : Os) (started : os.Started) (H : Type) (enc : TypeId × Value → H) :
    ReturnsInHanded {} Try.checked os 4 .any (Rows.parkBudgetSpec.pre6 enc Try.prog Try.f4 Rows.parkBudgetRow.domain false) (Rows.parkBudgetSpec.post enc Try.prog Try.f4 false true false false) := by
  refine returnsInHanded_of_change (C := Try.checked) own started (by kernel_rfl) Try.func4
    (ChangeSpec.witness6 (enc := enc) (C := Try.checked) false ⟨#[], #[.int .u16 0, .int .u16 0, .int .u8 0], []⟩ 8 (by kernel_rfl) (by kernel_rfl) (by kernel_rfl) (by kernel_rfl)) ?_
  intro W base args ds gs before hval0 hW hcnd _
  have hval : ∀ (j : Nat) t v, Try.f4.params[j]? = some t → args[j]? = some v → Value.okWide Try.prog W .any base t v := hval0
  have hW' := hW
  obtain ⟨p, q, hA0, hV, rfl, hfz, hnd⟩ := hW
  have hA : DataW.TrodAll enc Try.prog W 0 (fun _ => true) true Try.f4.params.toList args.toList ds p := hA0
  rw [Try.params4] at hA hval
  obtain ⟨v0, vs0, d0, ds0, p0, q0, hargs, rfl, rfl, h0, r0⟩ := trodAll_cons hA
  obtain ⟨v1, vs1, d1, ds1, p1, q1, rfl, rfl, rfl, h1, r1⟩ := trodAll_cons r0
  obtain ⟨v2, vs2, d2, ds2, p2, q2, rfl, rfl, rfl, h2, r2⟩ := trodAll_cons r1
  obtain ⟨rfl, rfl, rfl⟩ := trodAll_nil r2
  obtain rfl : args = #[v0, v1, v2] := by cases args; simp_all
  obtain ⟨rfl, rfl⟩ := trodVars_none hV
  obtain ⟨x0, rfl, rfl, rfl, w0⟩ := open_int Try.underlying45 (hval 0 45 v0 rfl rfl) h0
  obtain ⟨x1, rfl, rfl, rfl, w1⟩ := open_int Try.underlying45 (hval 1 45 v1 rfl rfl) h1
  obtain ⟨x2, rfl, rfl, rfl, w2⟩ := open_int Try.underlying5 (hval 2 5 v2 rfl rfl) h2
  clear hA0 hval0
  refine (walk x0 x1 x2 W w0 w1 w2).mono fun e W' ⟨he, bel⟩ => ?_
  subst he
  exact ⟨_, rfl, _, _, _, [], _, [], hW', trodAll_mk1 (shut_bool Try.underlying4 _), (trodAll_cons_mk (shut_int Try.underlying45 w0) (trodAll_cons_mk (shut_int Try.underlying45 w1) (trodAll_cons_mk (shut_int Try.underlying5 w2) trodAll_mk0))), rfl, bel.frame _, fun h => by cases h⟩

theorem over : Rows.parkBudgetRow.holds Try.pinned (OpenSpec.ofChange Rows.parkBudgetSpec) :=
  OpenClaim.holds_of_wide 4 Try.f4 rfl rfl rfl rfl rfl rfl rfl ⟨rfl, rfl, rfl, rfl, rfl⟩ rfl rfl rfl rfl rfl (by kernel_rfl) Try.func4 (by kernel_rfl)
    (of_decide_eq_true (by kernel_rfl)) (by unfold Func.isWrapper; first | (rw [if_pos (by decide +kernel)]; kernel_rfl) | (rw [if_neg (by decide +kernel)]; exact ⟨rfl, rfl⟩))
    (fun os started H enc _ => lifted os started H enc)

/-- The statement. -/
theorem proved : Rows.ParkBudgetSaid := over
#print axioms proved
end Go.Proofs.Ytjdnellafephfaa.parkBudget
