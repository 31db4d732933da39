/- For every 32-bit word and every count: HandleNext returns true, so its next ones (up to 299 of them are looked at) keep its index, are handles, go up by one generation, and are not it again; no condition. -/
import Derived.Test.YtaibbefbdkifnaaHandle
import Derived.Lib.Hide
import Derived.WalkKit
import Derived.ProofKit
import Derived.OpenShut
namespace Go.Proofs.Ytaibbefbdkifnaa.handleNext
open Go.ChangeShapes Go.WideShapes Go.ChangeAt Go.RowKit
set_option linter.unusedVariables false

theorem own : ownKnob Try.prog.godebug = none := by kernel_rfl

/- The walk: the law's text returns true, and lays at most new blocks. -/
/-- The x of a round: the k-th next one of h. -/
def nth (h : Int) : Nat → Int
  | 0 => h
  | k + 1 => (nth h k / 4096 + 1) % 262144 * 4096 + nth h k % 4096

theorem nth_bounds (h : Int) (h0 : 0 ≤ h) (h1 : h < 4294967296) (k : Nat) : 0 ≤ nth h k ∧ nth h k < 4294967296 ∧ nth h k % 4096 = h % 4096 ∧ nth h k / 4096 % 262144 = (h / 4096 + k) % 262144 ∧ (0 < k → nth h k < 1073741824) := by
  induction k with
  | zero => exact ⟨h0, h1, rfl, by simp [nth], fun h => absurd h (by omega)⟩
  | succ k ih => obtain ⟨a, b, c, d, _⟩ := ih; simp only [nth]; refine ⟨by omega, by omega, by omega, by omega, fun _ => by omega⟩

theorem walk (a0 : Int) (a1 : Int) (w0 : (Lit.int .u32 a0).wf = true) (w1 : (Lit.int .u16 a1).wf = true) (w : World) :
    Calls Try.prog 5 #[.int .u32 a0, .int .u16 a1] w fun e w' => e = .returned (.bool true) ∧ Grown w w' := by
  obtain ⟨h0, h1⟩ : 0 ≤ a0 ∧ a0 < 4294967296 := u32_bounds w0
  obtain ⟨n0, n1⟩ : 0 ≤ a1 ∧ a1 < 65536 := u16_bounds w1
  have m0 : 0 ≤ a1 % 300 := by omega
  have m1 : a1 % 300 < 300 := by omega
  go_enter Try.func5, Try.ntmps5
  go_wp2
  go_loop [5, 11] (fun x i => ∃ k : Nat, (k : Int) ≤ a1 % 300 ∧ i = .int .i64 k ∧ x = .int .u32 (nth a0 k)) (fun _ i => 300 - (intOf i).toNat)
  case atStart => exact ⟨0, by omega, rfl, rfl⟩
  case round =>
    obtain ⟨k, hk, rfl, rfl⟩ := hrel
    obtain ⟨b0, b1, b2, b3, -⟩ := nth_bounds a0 h0 h1 k
    obtain ⟨c0, c1, c2, c3, c4⟩ := nth_bounds a0 h0 h1 (k + 1)
    have c4 := c4 (by omega)
    by_cases hlt : (k : Int) < a1 % 300
    · have hn : (nth a0 k / 4096 + 1) % 262144 * 4096 + nth a0 k % 4096 = nth a0 (k + 1) := rfl
      have hne : (nth a0 (k + 1) == a0) = false := by simp; omega
      have hg : nth a0 (k + 1) / 4096 % 262144 = (nth a0 k / 4096 % 262144 + 1) % 262144 := by omega
      have B2 := Lib.hid b2
      have B3 := Lib.hid b3
      have C2 := Lib.hid c2
      have C3 := Lib.hid c3
      have HN := Lib.hid hn
      have HG := Lib.hid hg
      clear b2 b3 c2 c3 hn hg
      have hg0 : 0 ≤ nth a0 k / 4096 % 262144 := by omega
      have hg1 : nth a0 k / 4096 % 262144 < 262144 := by omega
      go_wp2_with fail
      refine (hNext _ b0 b1 _).mono ?_
      rintro e w' ⟨rfl, rfl⟩
      rw [HN.out]
      go_wp2_with fail
      refine (hIndex _ c0 c1 _).mono ?_
      rintro e w' ⟨rfl, rfl⟩
      rw [C2.out]
      go_wp2_with fail
      refine (hIndex _ h0 h1 _).mono ?_
      rintro e w' ⟨rfl, rfl⟩
      go_wp2_with fail
      refine (hRight _ c0 c1 _).mono ?_
      rintro e w' ⟨rfl, rfl⟩
      go_wp2_with fail
      refine (hGen _ c0 c1 _).mono ?_
      rintro e w' ⟨rfl, rfl⟩
      rw [HG.out]
      go_wp2_with fail
      refine (hGen _ b0 b1 _).mono ?_
      rintro e w' ⟨rfl, rfl⟩
      go_wp2
      go_round
      case rel => exact ⟨k + 1, by omega, by go_num, rfl⟩
      case measure => simp [intOf]; omega
    · go_wp2_with fail
      refine (awake _).mono ?_
      rintro e w' ⟨rfl, rfl⟩
      go_wp2
      go_ret
      exact ⟨rfl, Grown.refl _⟩

/- From the walk to the row. -/
set_option maxRecDepth 100000 in
theorem lifted (os : Os) (started : os.Started) (H : Type) (enc : TypeId × Value → H) :
    ReturnsInHanded {} Try.checked os 5 .any (Rows.handleNextSpec.pre6 enc Try.prog Try.f5 Rows.handleNextRow.domain false) (Rows.handleNextSpec.post enc Try.prog Try.f5 false true false false) := by
  refine returnsInHanded_of_change (C := Try.checked) own started (by kernel_rfl) Try.func5
    (ChangeSpec.witness6 (enc := enc) (C := Try.checked) false ⟨#[], #[.int .u32 0, .int .u16 0], []⟩ 8 (by kernel_rfl) (by kernel_rfl) (by kernel_rfl) (by kernel_rfl)) ?_
  intro W base args ds gs before hval0 hW hcnd _
  have hval : ∀ (j : Nat) t v, Try.f5.params[j]? = some t → args[j]? = some v → Value.okWide Try.prog W .any base t v := hval0
  have hW' := hW
  obtain ⟨p, q, hA0, hV, rfl, hfz, hnd⟩ := hW
  have hA : DataW.TrodAll enc Try.prog W 0 (fun _ => true) true Try.f5.params.toList args.toList ds p := hA0
  rw [Try.params5] at hA hval
  obtain ⟨v0, vs0, d0, ds0, p0, q0, hargs, rfl, rfl, h0, r0⟩ := trodAll_cons hA
  obtain ⟨v1, vs1, d1, ds1, p1, q1, rfl, rfl, rfl, h1, r1⟩ := trodAll_cons r0
  obtain ⟨rfl, rfl, rfl⟩ := trodAll_nil r1
  obtain rfl : args = #[v0, v1] := by cases args; simp_all
  obtain ⟨rfl, rfl⟩ := trodVars_none hV
  obtain ⟨a0, rfl, rfl, rfl, w0⟩ := open_int Try.underlying22 (hval 0 22 v0 rfl rfl) h0
  obtain ⟨a1, rfl, rfl, rfl, w1⟩ := open_int Try.underlying33 (hval 1 33 v1 rfl rfl) h1
  clear hA0 hval0
  simp only [List.append_nil] at hW'
  refine (walk a0 a1 w0 w1 W).mono fun e W' ⟨he, hg⟩ => ?_
  subst he
  exact ⟨_, rfl, post_of_same (pa := []) (pv := []) hW' (fun _ _ _ => (trodAll_cons_mk (shut_bool Try.underlying4 _) trodAll_mk0)) (fun sp _ => (trodAll_cons_mk (shut_int Try.underlying22 w0) (trodAll_cons_mk (shut_int Try.underlying33 w1) trodAll_mk0))) (fun _ _ => rfl) rfl
    (hg.frame _) hg.2.1 (ok_one (by kernel_rfl) rfl (okWide_bool_mk Try.underlying4 _))⟩

theorem over : Rows.handleNextRow.holds Try.pinned (OpenSpec.ofChange Rows.handleNextSpec) :=
  OpenClaim.holds_of_wide 5 Try.f5 rfl rfl rfl rfl rfl rfl rfl ⟨rfl, rfl, rfl, rfl, rfl⟩ rfl rfl rfl rfl rfl (by kernel_rfl) Try.func5 (by kernel_rfl)
    (of_decide_eq_true (by kernel_rfl)) (by unfold Func.isWrapper; first | (rw [if_pos (by decide +kernel)]; kernel_rfl) | (rw [if_neg (by decide +kernel)]; exact ⟨rfl, rfl⟩))
    (fun os started H enc _ => lifted os started H enc)

/-- The statement. -/
theorem proved : Rows.HandleNextSaid :=
  over
#print axioms proved
end Go.Proofs.Ytaibbefbdkifnaa.handleNext
