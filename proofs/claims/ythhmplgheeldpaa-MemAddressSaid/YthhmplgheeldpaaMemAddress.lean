/- For every list of ints, every area, word and address: MemAddress returns true, so the address of any word in any area, and where any address lies, is what the document says; no condition. -/
import Derived.Test.YthhmplgheeldpaaArW
import Derived.WalkKit
import Derived.ProofKit
import Derived.OpenShut
import Derived.ChangeOld
import Derived.Deep.QuietTactic
import Derived.BigQuiet
import Derived.Deep.DeepCutAuto
import Derived.Deep.CutBlock
namespace Go.Proofs.Ythhmplgheeldpaa.memAddress
open Go.ChangeShapes Go.WideShapes Go.ChangeAt Go.RowKit
set_option linter.unusedVariables false

theorem own : ownKnob Try.prog.godebug = none := by kernel_rfl
theorem laidOut : laidOutB Try.prog = true := by kernel_rfl

set_option maxHeartbeats 2000000 in
set_option maxRecDepth 100000 in
theorem walk (a0 : Option Addr) (cap0 : Nat) (zs : List Int) (area v A : Int) (w : World) (g0 : Given .i64 w a0 zs) (hm : zs.length ≤ maxLen) (b0 : -9223372036854775808 ≤ area ∧ area ≤ 9223372036854775807) (b1 : 0 ≤ v ∧ v < 4294967296) (b2 : -9223372036854775808 ≤ A ∧ A ≤ 9223372036854775807) :
    Calls Try.prog 4 #[.agg #[.slice a0 zs.length cap0, .int .i64 area, .int .u32 v, .int .i64 A]] w fun e w' => e = .returned (.bool true) ∧ Below w.heap.size w w' := by
  have HM := Lib.hid hm
  unfold maxLen at hm
  have hG : ∀ n, w.grownBy ((w.alloc (.cells #[.slice a0 zs.length cap0, .int .i64 area, .int .u32 v, .int .i64 A] 40)).drewN n) none := fun n => grown_draws (grown_made w _ none) n
  by_cases h20 : 20 < zs.length
  · go_enter Try.func4, Try.ntmps4
    go_wp2
    go_quiet (fail)
    go_wp2_with fail
    refine (lAwake9 _).mono ?_
    rintro e w2 ⟨rfl, hw2⟩
    go_wp2
    go_ret
    exact ⟨rfl, below_of_grown (grown_then (hG _) hw2 (.inl rfl))⟩
  go_enter Try.func4, Try.ntmps4
  go_wp2
  go_quiet (fail)
  go_wp2_with fail
  refine (lMade (g0.grown (hG _)) HM.out cap0 0 (by omega) (by omega)).mono ?_
  rintro e w1 ⟨hg1, ⟨hF, p, q, g, s, va, rfl, hM, hcs, _⟩ | ⟨hF, va, rfl⟩⟩
  · have hg2 := grown_then (hG _) hg1 (.inl rfl)
    clear hg1 hG
    have hcs2 := hcs
    obtain ⟨a1, vc, rfl, _, _, hat⟩ := hcs2.is
    have hcl := cels_len zs
    rw [hcl] at hcs hat ⊢
    have HAT := Lib.hid hat
    clear hat hcs2 hcl
    have ht := hF.2
    by_cases h300 : 300 < tot zs
    · go_wp2_with fail
      refine (lAwake9 _).mono ?_
      rintro e w2 ⟨rfl, hw2⟩
      go_wp2
      go_ret
      exact ⟨rfl, below_of_grown (grown_then hg2 hw2 (.inl rfl))⟩
    have hz := hF.1
    by_cases hT : 0 ≤ area ∧ area < zs.length ∧ v % 4096 < sz zs area.toNat
    case' pos =>
      obtain ⟨Ar, rfl⟩ := Int.eq_ofNat_of_zero_le hT.1
      obtain ⟨P, hP⟩ : ∃ P : Nat, v % 4096 = P := ⟨(v % 4096).toNat, by omega⟩
      have hT2 := hT.2
      rw [Int.toNat_natCast, hP] at hT2
      have hAd := cAddress hM Ar (by omega) v b1.1 b1.2 (by rw [hP]; exact hT2.2)
      rw [hP, Int.toNat_natCast] at hAd
      have hFi := rFind hcs hz Ar P v b1.1 b1.2 (by omega) (by omega) hP
      have hKl := pre_lt (zs := zs) (a := Ar) (p := P) (by omega) (by omega)
      generalize pre zs Ar + P = K at *
      have HAd := Lib.hid hAd
      have HFi := Lib.hid hFi
      clear hAd hFi hT hT2 hP
      go_wp2_with fail
      refine HAd.out.mono ?_
      rintro e w2 ⟨rfl, rfl⟩
      go_wp2_with fail
      refine HFi.out.mono ?_
      rintro e w2 ⟨rfl, hg3⟩
      go_upto_region 13 with fail
    case' neg =>
      have HAd := Lib.hid (cAddressNo hM area v b1.1 b1.2 (by omega))
      have HFi := Lib.hid (rFindNo hcs hz area v b1.1 b1.2 (by omega))
      clear hT
      go_wp2_with fail
      refine HAd.out.mono ?_
      rintro e w2 ⟨rfl, rfl⟩
      go_wp2_with fail
      refine HFi.out.mono ?_
      rintro e w2 ⟨rfl, hg3⟩
      go_upto_region 13 with fail
    all_goals (
      clear HAd HFi hcs
      have hM2 := hM.grown hg3
      have hg4 := grown_then hg2 hg3 (.inl rfl)
      by_cases hA : A < 0 ∨ (tot zs : Int) ≤ A
      · have HAr := Lib.hid (cAreaNo hM2 A hA b2.2)
        go_wp2_with fail
        refine HAr.out.mono ?_
        rintro e w3 ⟨rfl, rfl⟩
        rcases (show A < 0 ∨ (0 ≤ A ∧ (tot zs : Int) ≤ A) by omega) with hA2 | hA2
        all_goals (
          go_wp2_with fail
          refine (lAwake9 _).mono ?_
          rintro e w4 ⟨rfl, hw4⟩
          go_wp2
          go_ret
          exact ⟨rfl, below_of_grown (grown_then hg4 hw4 (.inl rfl))⟩)
      · obtain ⟨n, rfl⟩ : ∃ n : Nat, A = n := ⟨A.toNat, by omega⟩
        have hnt : n < tot zs := by omega
        obtain ⟨ca, cp, q1, q2, q3⟩ := tot_split hnt
        obtain ⟨gc, rfl, _, _, hgl, _, hcl⟩ := HAT.out (by omega)
        obtain ⟨c1, c2⟩ := hcl n (ca, cp) (by rw [q3]; exact cels_at q1 q2)
        have d1 := ((below_of_grown hg3).cell (p := ⟨gc, n * 2, none⟩) hgl).trans c1
        have d2 := ((below_of_grown hg3).cell (p := ⟨gc, n * 2 + 1, none⟩) hgl).trans c2
        simp only at d1 d2
        have hAr := cArea hM2 ca cp q1 q2
        rw [← q3] at hAr
        have HAr := Lib.hid hAr
        clear hAr q3 q1 q2 hcl c1 c2 hA HAT
        go_wp2_with fail
        refine HAr.out.mono ?_
        rintro e w3 ⟨rfl, rfl⟩
        go_wp2_with fail
        refine (lAwake9 _).mono ?_
        rintro e w4 ⟨rfl, hw4⟩
        go_wp2
        go_ret
        exact ⟨rfl, below_of_grown (grown_then hg4 hw4 (.inl rfl))⟩)
  · have hg2 := grown_then (hG _) hg1 (.inl rfl)
    go_wp2_with fail
    refine (lAwake9 _).mono ?_
    rintro e w2 ⟨rfl, hw2⟩
    go_wp2
    go_ret
    exact ⟨rfl, below_of_grown (grown_then hg2 hw2 (.inl rfl))⟩
set_option maxRecDepth 100000 in
theorem lifted (os : Os) (started : os.Started) (H : Type) (enc : TypeId × Value → H) :
    ReturnsInHanded {} Try.checked os 4 .any (Rows.memAddressSpec.pre6 enc Try.prog Try.f4 Rows.memAddressRow.domain false) (Rows.memAddressSpec.post enc Try.prog Try.f4 false true false false) := by
  refine returnsInHanded_of_change (C := Try.checked) own started (by kernel_rfl) Try.func4
    (ChangeSpec.witness6 (enc := enc) (C := Try.checked) false ⟨#[], #[.agg #[.slice none 0 0, .int .i64 0, .int .u32 0, .int .i64 0]], []⟩ 8 (by kernel_rfl) (by kernel_rfl) (by kernel_rfl) (by kernel_rfl)) ?_
  intro W base args ds gs before hval0 hW hcnd _
  have hval : ∀ (j : Nat) t v, Try.f4.params[j]? = some t → args[j]? = some v → Value.okWide Try.prog W .any base t v := hval0
  have hW' := hW
  obtain ⟨p, q, hA0, hV, rfl, hfz, hnd⟩ := hW
  have hA : DataW.TrodAll enc Try.prog W 0 (fun _ => true) true Try.f4.params.toList args.toList ds p := hA0
  rw [Try.params4] at hA hval
  obtain ⟨v0, vs0, d0, ds0, p0, q0, hargs, rfl, rfl, h0, r0⟩ := trodAll_cons hA
  obtain ⟨rfl, rfl, rfl⟩ := trodAll_nil r0
  obtain rfl : args = #[v0] := by cases args; simp_all
  obtain ⟨rfl, rfl⟩ := trodVars_none hV
  have k0 := h0
  have lt0 : ∀ x ∈ p0, x.block < W.heap.size := by obtain ⟨m, hm⟩ := k0; exact DataW.trod_lt m _ _ _ hm
  obtain ⟨a0, cap0, z0, x0, y0, t0, rfl, g0, hb0, b01, b02, b03⟩ := open_ask (hval 0 40 v0 rfl rfl) h0
  clear hA0 hval0
  refine (walk a0 cap0 z0 x0 y0 t0 W g0 hb0 b01 b02 b03).mono fun e W' ⟨he, bel⟩ => ?_
  subst he
  exact ⟨_, rfl, _, _, _, [], _, [], hW', trodAll_mk1 (shut_bool Try.underlying4 _), (trodAll_cons_mk (Below.trod laidOut (by kernel_rfl) (of_decide_eq_true (by kernel_rfl)) k0 bel lt0) trodAll_mk0), rfl, bel.frame _, fun h => by cases h⟩

theorem over : Rows.memAddressRow.holds Try.pinned (OpenSpec.ofChange Rows.memAddressSpec) :=
  OpenClaim.holds_of_wide 4 Try.f4 rfl rfl rfl rfl rfl rfl rfl ⟨rfl, rfl, rfl, rfl, rfl⟩ rfl rfl rfl rfl rfl (by kernel_rfl) Try.func4 (by kernel_rfl)
    (of_decide_eq_true (by kernel_rfl)) (by unfold Func.isWrapper; first | (rw [if_pos (by decide +kernel)]; kernel_rfl) | (rw [if_neg (by decide +kernel)]; exact ⟨rfl, rfl⟩))
    (fun os started H enc _ => lifted os started H enc)

/-- The statement. -/
theorem proved : Rows.MemAddressSaid := over
#print axioms proved
end Go.Proofs.Ythhmplgheeldpaa.memAddress
