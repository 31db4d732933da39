/- For every list of ints, every word of 32 bits and every uint8: MemMakes returns true, so there are memories of just the sizes that may be, and all cells are what they were made, in order; no condition. -/
import Derived.Test.YthhmplgheeldpaaArL
import Derived.WalkKit
import Derived.ProofKit
import Derived.OpenShut
import Derived.ChangeOld
namespace Go.Proofs.Ythhmplgheeldpaa.memMakes
open Go.ChangeShapes Go.WideShapes Go.ChangeAt Go.RowKit
set_option linter.unusedVariables false

theorem own : ownKnob Try.prog.godebug = none := by kernel_rfl
theorem laidOut : laidOutB Try.prog = true := by kernel_rfl

set_option maxHeartbeats 2000000 in
set_option maxRecDepth 100000 in
theorem walk (a0 : Option Addr) (cap0 : Nat) (zs : List Int) (x y : Int) (w : World) (g0 : Given .i64 w a0 zs) (u0 : ∀ n ∈ zs, (Lit.int .i64 n).wf = true) (hm : zs.length ≤ maxLen) (w1 : (Lit.int .u32 x).wf = true) (w2 : 0 ≤ y ∧ y < 256) :
    Calls Try.prog 3 #[.slice a0 zs.length cap0, .int .u32 x, .int .u8 y] w fun e w' => e = .returned (.bool true) ∧ Below w.heap.size w w' := by
  have hx := u32_bounds w1
  have HM := Lib.hid hm
  unfold maxLen at hm
  clear u0 w1
  by_cases h20 : 20 < zs.length
  · go_enter Try.func3, Try.ntmps3
    go_wp2_with fail
    refine (lAwake9 _).mono ?_
    rintro e w2 ⟨rfl, hw2⟩
    go_wp2
    go_ret
    exact ⟨rfl, below_of_grown hw2⟩
  have hC := Lib.hid (lMade g0 HM.out cap0 x hx.1 hx.2)
  go_enter Try.func3, Try.ntmps3
  go_wp2_with fail
  refine hC.out.mono ?_
  clear hC
  rintro e w1 ⟨hg1, ⟨hF, p, q, g, s, v, rfl, hM, hcs, _⟩ | ⟨hF, v, rfl⟩⟩
  · obtain ⟨va, vc, rfl, _⟩ := hcs.is
    have hcl := cels_len zs
    rw [hcl]
    have ht := hF.2
    have c0 := hM.c0
    have hA := Lib.hid (cAreas hM)
    have hL := cLen hM.cel
    rw [fromL_len] at hL
    have HL := Lib.hid hL
    have hW := cWords hM.cel
    have HW := Lib.hid hW
    have HF := Lib.hid hF
    clear hL hW hcs hF hcl
    go_wp2_with fail
    refine hA.out.mono ?_
    rintro e w2 ⟨rfl, rfl⟩
    go_wp2_with fail
    refine HL.out.mono ?_
    rintro e w2 ⟨rfl, rfl⟩
    go_wp2_with fail
    refine HW.out.mono ?_
    rintro e w2 ⟨qw, rfl, hB, hcel, _, hg2⟩
    rw [fromL_len]
    have hg3 := grown_then hg1 hg2 (.inl rfl)
    clear HW hA HL c0 hg1 hg2 hcel hM
    go_wp2
    go_loopw [76] (fun t wr => ∃ k : Nat, k ≤ tot zs ∧ t = .int .i64 k ∧ w2 = wr) (fun t _ => tot zs - (intOf t).toNat)
    case atStart => exact ⟨0, Nat.zero_le _, rfl, by trivial⟩
    case round =>
      obtain ⟨k, hk, rfl, rfl⟩ := hrel
      by_cases hlt : k < tot zs
      · have c1 := hB.cell k
        rw [words_at _ k (by rw [fromL_len]; exact hlt), fromL_at x hlt] at c1
        have hkw : (k : Int) % 4294967296 = k := by omega
        have h32 : (x + (k : Int)) % 4294967296 = two32 (x + (k : Int)) := rfl
        go_wp2
        go_roundw
        case rel => exact ⟨k + 1, by omega, by go_num, by trivial⟩
        case measure => simp [intOf]; omega
      · obtain rfl : k = tot zs := by omega
        clear hB
        go_upto_region 16 with fail
        have hkb : -2 ≤ (tot zs : Int) + y % 5 - 2 ∧ (tot zs : Int) + y % 5 - 2 ≤ 9000 := by omega
        generalize (tot zs : Int) + y % 5 - 2 = kk at *
        rcases (show kk < 0 ∨ 0 ≤ kk by omega) with hneg | hpos
        · have hmk : (Instr.makeSlice 34 (.int .i64 0) (.int .i64 0)).run Try.prog w2 = .ok (.slice (some ⟨w2.heap.size, 0, none⟩) 0 0) (w2.alloc (.cells (madeCells #[.int .u32 0] 0) 23)) := makeU32 0 (by omega) w2
          have hN := Lib.hid (new_zeros (g0.grown hg3) HM.out HF.out.1 0 (by omega) cap0)
          go_wp2_with fail
          refine hN.out.mono ?_
          clear hN hmk
          rintro e w3 ⟨hg4, ⟨ht4, h84, p4, q4, n4, s4, rfl, _⟩ | ⟨hne, rfl⟩⟩
          · have hg5 := grown_then hg3 hg4 (.inl rfl)
            have t1 : ((0 : Int) == (tot zs : Int)) = true := by simp; omega
            go_wp2_with fail
            refine (lAwake9 _).mono ?_
            rintro e w6 ⟨rfl, hw6⟩
            go_wp2
            go_ret
            exact ⟨rfl, below_of_grown (grown_then hg5 hw6 (.inl rfl))⟩
          · have hg5 := grown_then hg3 hg4 (.inl rfl)
            have t1 : ((0 : Int) == (tot zs : Int)) = false := by simp; omega
            go_wp2_with fail
            refine (lAwake9 _).mono ?_
            rintro e w6 ⟨rfl, hw6⟩
            go_wp2
            go_ret
            exact ⟨rfl, below_of_grown (grown_then hg5 hw6 (.inl rfl))⟩
        · obtain ⟨K, rfl⟩ := Int.eq_ofNat_of_zero_le hpos
          have hmk := makeU32 K (by omega) w2
          have hN := Lib.hid (new_zeros (g0.grown hg3) HM.out HF.out.1 K (by omega) cap0)
          go_wp2_with fail
          refine hN.out.mono ?_
          clear hN hmk
          rintro e w3 ⟨hg4, ⟨ht4, h84, p4, q4, n4, s4, rfl, _⟩ | ⟨hne, rfl⟩⟩
          · have hg5 := grown_then hg3 hg4 (.inl rfl)
            have t1 : ((K : Int) == (tot zs : Int)) = true := by simp; omega
            go_wp2_with fail
            refine (lAwake9 _).mono ?_
            rintro e w6 ⟨rfl, hw6⟩
            go_wp2
            go_ret
            exact ⟨rfl, below_of_grown (grown_then hg5 hw6 (.inl rfl))⟩
          · have hg5 := grown_then hg3 hg4 (.inl rfl)
            have t1 : ((K : Int) == (tot zs : Int)) = false := by simp; omega
            go_wp2_with fail
            refine (lAwake9 _).mono ?_
            rintro e w6 ⟨rfl, hw6⟩
            go_wp2
            go_ret
            exact ⟨rfl, below_of_grown (grown_then hg5 hw6 (.inl rfl))⟩
  · go_wp2_with fail
    refine (lAwake9 _).mono ?_
    rintro e w2 ⟨rfl, hw2⟩
    go_wp2
    go_ret
    exact ⟨rfl, below_of_grown (grown_then hg1 hw2 (.inl rfl))⟩
set_option maxRecDepth 100000 in
theorem lifted (os : Os) (started : os.Started) (H : Type) (enc : TypeId × Value → H) :
    ReturnsInHanded {} Try.checked os 3 .any (Rows.memMakesSpec.pre6 enc Try.prog Try.f3 Rows.memMakesRow.domain false) (Rows.memMakesSpec.post enc Try.prog Try.f3 false true false false) := by
  refine returnsInHanded_of_change (C := Try.checked) own started (by kernel_rfl) Try.func3
    (ChangeSpec.witness6 (enc := enc) (C := Try.checked) false ⟨#[], #[.slice none 0 0, .int .u32 0, .int .u8 0], []⟩ 8 (by kernel_rfl) (by kernel_rfl) (by kernel_rfl) (by kernel_rfl)) ?_
  intro W base args ds gs before hval0 hW hcnd _
  have hval : ∀ (j : Nat) t v, Try.f3.params[j]? = some t → args[j]? = some v → Value.okWide Try.prog W .any base t v := hval0
  have hW' := hW
  obtain ⟨p, q, hA0, hV, rfl, hfz, hnd⟩ := hW
  have hA : DataW.TrodAll enc Try.prog W 0 (fun _ => true) true Try.f3.params.toList args.toList ds p := hA0
  rw [Try.params3] at hA hval
  obtain ⟨v0, vs0, d0, ds0, p0, q0, hargs, rfl, rfl, h0, r0⟩ := trodAll_cons hA
  obtain ⟨v1, vs1, d1, ds1, p1, q1, rfl, rfl, rfl, h1, r1⟩ := trodAll_cons r0
  obtain ⟨v2, vs2, d2, ds2, p2, q2, rfl, rfl, rfl, h2, r2⟩ := trodAll_cons r1
  obtain ⟨rfl, rfl, rfl⟩ := trodAll_nil r2
  obtain rfl : args = #[v0, v1, v2] := by cases args; simp_all
  obtain ⟨rfl, rfl⟩ := trodVars_none hV
  obtain ⟨a0, len0, cap0, rfl⟩ := okWide_slice Try.underlying22 (hval 0 22 v0 rfl rfl)
  have k0 := h0
  have lt0 : ∀ x ∈ p0, x.block < W.heap.size := by obtain ⟨m, hm⟩ := k0; exact DataW.trod_lt m _ _ _ hm
  obtain ⟨z0, g0, l0, u0, hb0⟩ : ∃ zs, Given .i64 W a0 zs ∧ len0 = zs.length ∧ (∀ n ∈ zs, (Lit.int .i64 n).wf = true) ∧ zs.length ≤ maxLen := by
    obtain ⟨fuel, hf⟩ := h0
    rcases open_ints Try.underlying22 Try.underlying3 (by kernel_rfl) hf with ⟨hcs, _⟩ | ⟨x, l, c, zs, hcs, _, hl, hm, hz, _, hcell, hwz⟩
    · simp [Value.cells] at hcs
      obtain ⟨rfl, rfl, rfl⟩ := hcs
      exact ⟨[], given_nil _ _ _, rfl, by simp, by simp⟩
    · simp [Value.cells] at hcs
      obtain ⟨rfl, rfl, rfl⟩ := hcs
      have hz' : zs.length = cap0 := by simpa using hz
      exact ⟨zs.take len0, given_of (by omega) hcell, by simp; omega, fun n hn => hwz n (List.mem_of_mem_take hn), by simp; omega⟩
  subst l0
  obtain ⟨x1, rfl, rfl, rfl, w1⟩ := open_int Try.underlying23 (hval 1 23 v1 rfl rfl) h1
  obtain ⟨x2, rfl, rfl, rfl, w2⟩ := open_int Try.underlying5 (hval 2 5 v2 rfl rfl) h2
  clear hA0 hval0
  refine (walk a0 cap0 z0 x1 x2 W g0 u0 hb0 w1 (u8_bounds w2)).mono fun e W' ⟨he, bel⟩ => ?_
  subst he
  exact ⟨_, rfl, _, _, _, [], _, [], hW', trodAll_mk1 (shut_bool Try.underlying4 _), (trodAll_cons_mk (Below.trod laidOut (by kernel_rfl) (of_decide_eq_true (by kernel_rfl)) k0 bel lt0) (trodAll_cons_mk (shut_int Try.underlying23 w1) (trodAll_cons_mk (shut_int Try.underlying5 w2) trodAll_mk0))), rfl, bel.frame _, fun h => by cases h⟩

theorem over : Rows.memMakesRow.holds Try.pinned (OpenSpec.ofChange Rows.memMakesSpec) :=
  OpenClaim.holds_of_wide 3 Try.f3 rfl rfl rfl rfl rfl rfl rfl ⟨rfl, rfl, rfl, rfl, rfl⟩ rfl rfl rfl rfl rfl (by kernel_rfl) Try.func3 (by kernel_rfl)
    (of_decide_eq_true (by kernel_rfl)) (by unfold Func.isWrapper; first | (rw [if_pos (by decide +kernel)]; kernel_rfl) | (rw [if_neg (by decide +kernel)]; exact ⟨rfl, rfl⟩))
    (fun os started H enc _ => lifted os started H enc)

/-- The statement. -/
theorem proved : Rows.MemMakesSaid := over
#print axioms proved
end Go.Proofs.Ythhmplgheeldpaa.memMakes
