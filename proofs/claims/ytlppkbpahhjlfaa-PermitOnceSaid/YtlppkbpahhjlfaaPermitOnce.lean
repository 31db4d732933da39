/- For every three uint8: PermitOnce returns true, so however often a permit is given, it is taken once, and given anew only behind that; no condition. -/
import Derived.Test.YtlppkbpahhjlfaaPermitC
import Derived.WalkKit
import Derived.ProofKit
import Derived.OpenShut
import Derived.ChangeOld
namespace Go.Proofs.Ytlppkbpahhjlfaa.permitOnce
open Go.ChangeShapes Go.WideShapes Go.ChangeAt Go.RowKit
set_option linter.unusedVariables false

theorem own : ownKnob Try.prog.godebug = none := by kernel_rfl
theorem laidOut : laidOutB Try.prog = true := by kernel_rfl

theorem u8_bounds {n : Int} (h : (Lit.int .u8 n).wf = true) : 0 ≤ n ∧ n < 256 := by
  simp [Lit.wf, IntKind.min, IntKind.max, IntKind.bits, IntKind.signed] at h; omega

/-- Nobody has one, but for thread t where k of them were given. -/
def gave (N t k : Nat) : List Bool := if k = 0 then List.replicate N false else (List.replicate N false).set t true
theorem gave_0 (N t : Nat) : gave N t 0 = List.replicate N false := rfl
theorem gave_set (N t k : Nat) : (gave N t k).set t true = gave N t (k + 1) := by
  unfold gave
  rw [if_neg (Nat.succ_ne_zero k)]
  split
  · rfl
  · rw [List.set_set]
theorem gave_at0 (N t : Nat) : nthO false (gave N t 0) t = false := nthO_none N t
theorem gave_at (N t k : Nat) (ht : t < N) (hk : k ≠ 0) : nthO false (gave N t k) t = true := by
  unfold gave; rw [if_neg hk, nthO_set (by simpa using ht), if_pos rfl]
theorem gave_back (N t k : Nat) (ht : t < N) : (gave N t k).set t false = gave N t 0 := by
  unfold gave
  rw [if_pos rfl]
  split
  · exact set_same (nthO_none N t) (by simpa using ht)
  · rw [List.set_set]; exact set_same (nthO_none N t) (by simpa using ht)
theorem gave_cnt (N t k : Nat) (ht : t < N) (hk : k ≠ 0) : cnt (gave N t k) = 1 := by
  unfold gave
  rw [if_neg hk]
  have := cnt_set (List.replicate N false) (t := t) (by simpa using ht) true
  rw [nthO_none, cnt_none] at this
  simpa using this

/-- At each round's head: the permits, and nothing that was there has changed. -/
def Rel (w : World) (g N t k : Nat) (wr : World) : Prop := Pm wr g N (gave N t k) ∧ w.grownBy wr none
theorem more {w a b : World} {g N : Nat} (hg : w.heap.size ≤ g) (h : w.grownBy a none) (k : Within a b (InPm g N)) : w.grownBy b none :=
  ((Within.of_grown (S := fun _ => False) h (by simp)).then_ k (fun i hi => .inr (Nat.le_trans hg (Nat.le_of_lt hi.1)))).grown (by simp)

set_option maxHeartbeats 1000000 in
set_option maxRecDepth 100000 in
theorem walkN (x0 x1 x2 : Nat) (w : World) (w0 : x0 < 256) (w1 : x1 < 256) (w2 : x2 < 256) :
    Calls Try.prog 5 #[.int .u8 x0, .int .u8 x1, .int .u8 x2] w fun e w' => e = .returned (.bool true) ∧ Below w.heap.size w w' := by
  obtain ⟨N, hN, hN1, hN2⟩ : ∃ N : Nat, 1 + (x0 : Int) % 64 = N ∧ 1 ≤ N ∧ N ≤ 64 := ⟨1 + x0 % 64, by omega, by omega, by omega⟩
  obtain ⟨M, hM, hM1, hM2⟩ : ∃ M : Nat, 1 + (x2 : Int) % 60 = M ∧ 1 ≤ M ∧ M ≤ 60 := ⟨1 + x2 % 60, by omega, by omega, by omega⟩
  obtain ⟨t, ht, hlt⟩ : ∃ t : Nat, (x1 : Int) % N = t ∧ t < N := ⟨x1 % N, by simp, Nat.mod_lt _ (by omega)⟩
  have HN := Lib.hid hN
  have HM := Lib.hid hM
  have HT := Lib.hid ht
  clear hN hM ht
  go_enter Try.func5, Try.ntmps5
  go_wp2_with fail
  rw [HN.out]
  refine (pNew N hN1 hN2 w).mono ?_
  rintro e a1 ⟨g, rfl, h1, hg, hgr⟩
  go_wp2
  rw [HM.out, HT.out]
  go_loopw [43] (fun i wr => ∃ k : Nat, k ≤ M ∧ i = .int .i64 k ∧ Rel w g N t k wr) (fun i _ => M - (intOf i).toNat)
  case atStart => exact ⟨0, Nat.zero_le _, rfl, h1, hgr⟩
  case round =>
    obtain ⟨k, hk, rfl, hp, hw⟩ := hrel
    by_cases hkM : k < M
    · by_cases hk0 : k = 0
      · subst hk0
        go_wp2_with fail
        refine (pGive hp t hlt).mono ?_
        rintro e a2 ⟨rfl, h2, k2⟩
        rw [gave_at0, gave_set] at *
        go_wp2
        go_roundw
        case rel => exact ⟨1, by omega, by go_num, h2, more hg hw k2⟩
        case measure => simp [intOf]; omega
      · go_wp2_with fail
        refine (pGive hp t hlt).mono ?_
        rintro e a2 ⟨rfl, h2, k2⟩
        rw [gave_set] at h2
        rw [gave_at N t k hlt hk0]
        go_wp2
        go_roundw
        case rel => exact ⟨k + 1, by omega, by go_num, h2, more hg hw k2⟩
        case measure => simp [intOf]; omega
    · obtain rfl : k = M := by omega
      have hk0 : k ≠ 0 := by omega
      have HK := Lib.hid hk0
      clear hk0
      go_wp2_with fail
      refine (pTake hp t hlt).mono ?_
      rintro e a2 ⟨rfl, h2, k2⟩
      rw [gave_back N t k hlt] at h2
      rw [gave_at N t k hlt HK.out]
      have hw2 := more hg hw k2
      go_wp2_with fail
      refine (pTake h2 t hlt).mono ?_
      rintro e a3 ⟨rfl, h3, k3⟩
      rw [gave_back N t 0 hlt] at h3
      rw [gave_at0]
      have hw3 := more hg hw2 k3
      go_wp2_with fail
      refine (pGive h3 t hlt).mono ?_
      rintro e a4 ⟨rfl, h4, k4⟩
      rw [gave_set] at h4
      rw [gave_at0]
      have hw4 := more hg hw3 k4
      go_wp2_with fail
      refine (pLen h4).mono ?_
      rintro e a5 ⟨rfl, rfl⟩
      rw [gave_cnt N t (0 + 1) hlt (by omega)]
      go_wp2_with fail
      refine (lAwake _).mono ?_
      rintro e a6 ⟨rfl, hw6⟩
      go_wp2
      go_ret
      exact ⟨rfl, below_of_grown (grown_then hw4 hw6 (.inl rfl))⟩

theorem walk (x0 x1 x2 : Int) (w : World) (w0 : (Lit.int .u8 x0).wf = true) (w1 : (Lit.int .u8 x1).wf = true) (w2 : (Lit.int .u8 x2).wf = true) :
    Calls Try.prog 5 #[.int .u8 x0, .int .u8 x1, .int .u8 x2] w fun e w' => e = .returned (.bool true) ∧ Below w.heap.size w w' := by
  obtain ⟨a0, b0⟩ := u8_bounds w0
  obtain ⟨a1, b1⟩ := u8_bounds w1
  obtain ⟨a2, b2⟩ := u8_bounds w2
  obtain ⟨y0, rfl⟩ := Int.eq_ofNat_of_zero_le a0
  obtain ⟨y1, rfl⟩ := Int.eq_ofNat_of_zero_le a1
  obtain ⟨y2, rfl⟩ := Int.eq_ofNat_of_zero_le a2
  exact walkN y0 y1 y2 w (by omega) (by omega) (by omega)

set_option maxRecDepth 100000 in
theorem lifted (os : Os) (started : os.Started) (H : Type) (enc : TypeId × Value → H) :
    ReturnsInHanded {} Try.checked os 5 .any (Rows.permitOnceSpec.pre6 enc Try.prog Try.f5 Rows.permitOnceRow.domain false) (Rows.permitOnceSpec.post enc Try.prog Try.f5 false true false false) := by
  refine returnsInHanded_of_change (C := Try.checked) own started (by kernel_rfl) Try.func5
    (ChangeSpec.witness6 (enc := enc) (C := Try.checked) false ⟨#[], #[.int .u8 0, .int .u8 0, .int .u8 0], []⟩ 8 (by kernel_rfl) (by kernel_rfl) (by kernel_rfl) (by kernel_rfl)) ?_
  intro W base args ds gs before hval0 hW hcnd _
  have hval : ∀ (j : Nat) t v, Try.f5.params[j]? = some t → args[j]? = some v → Value.okWide Try.prog W .any base t v := hval0
  have hW' := hW
  obtain ⟨p, q, hA0, hV, rfl, hfz, hnd⟩ := hW
  have hA : DataW.TrodAll enc Try.prog W 0 (fun _ => true) true Try.f5.params.toList args.toList ds p := hA0
  rw [Try.params5] at hA hval
  obtain ⟨v0, vs0, d0, ds0, p0, q0, hargs, rfl, rfl, h0, r0⟩ := trodAll_cons hA
  obtain ⟨v1, vs1, d1, ds1, p1, q1, rfl, rfl, rfl, h1, r1⟩ := trodAll_cons r0
  obtain ⟨v2, vs2, d2, ds2, p2, q2, rfl, rfl, rfl, h2, r2⟩ := trodAll_cons r1
  obtain ⟨rfl, rfl, rfl⟩ := trodAll_nil r2
  obtain rfl : args = #[v0, v1, v2] := by cases args; simp_all
  obtain ⟨rfl, rfl⟩ := trodVars_none hV
  obtain ⟨x0, rfl, rfl, rfl, w0⟩ := open_int Try.underlying5 (hval 0 5 v0 rfl rfl) h0
  obtain ⟨x1, rfl, rfl, rfl, w1⟩ := open_int Try.underlying5 (hval 1 5 v1 rfl rfl) h1
  obtain ⟨x2, rfl, rfl, rfl, w2⟩ := open_int Try.underlying5 (hval 2 5 v2 rfl rfl) h2
  clear hA0 hval0
  refine (walk x0 x1 x2 W w0 w1 w2).mono fun e W' ⟨he, bel⟩ => ?_
  subst he
  exact ⟨_, rfl, _, _, _, [], _, [], hW', trodAll_mk1 (shut_bool Try.underlying4 _), (trodAll_cons_mk (shut_int Try.underlying5 w0) (trodAll_cons_mk (shut_int Try.underlying5 w1) (trodAll_cons_mk (shut_int Try.underlying5 w2) trodAll_mk0))), rfl, bel.frame _, fun h => by cases h⟩

theorem over : Rows.permitOnceRow.holds Try.pinned (OpenSpec.ofChange Rows.permitOnceSpec) :=
  OpenClaim.holds_of_wide 5 Try.f5 rfl rfl rfl rfl rfl rfl rfl ⟨rfl, rfl, rfl, rfl, rfl⟩ rfl rfl rfl rfl rfl (by kernel_rfl) Try.func5 (by kernel_rfl)
    (of_decide_eq_true (by kernel_rfl)) (by unfold Func.isWrapper; first | (rw [if_pos (by decide +kernel)]; kernel_rfl) | (rw [if_neg (by decide +kernel)]; exact ⟨rfl, rfl⟩))
    (fun os started H enc _ => lifted os started H enc)

/-- The statement. -/
theorem proved : Rows.PermitOnceSaid := over
#print axioms proved
end Go.Proofs.Ytlppkbpahhjlfaa.permitOnce
