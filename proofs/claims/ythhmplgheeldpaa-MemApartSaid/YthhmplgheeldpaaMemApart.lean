/- For every list of ints, every area and every two words of 32 bits: MemApart returns true, so what is stored at the cell of one area changes no other cell; no condition. -/
import Derived.Test.YthhmplgheeldpaaArW
import Derived.WalkKit
import Derived.ProofKit
import Derived.OpenShut
import Derived.ChangeOld
import Derived.Deep.QuietTactic
import Derived.BigQuiet
import Derived.Deep.DeepCutAuto
import Derived.Deep.CutBlock
namespace Go.Proofs.Ythhmplgheeldpaa.memApart
open Go.ChangeShapes Go.WideShapes Go.ChangeAt Go.RowKit
set_option linter.unusedVariables false

theorem own : ownKnob Try.prog.godebug = none := by kernel_rfl
theorem laidOut : laidOutB Try.prog = true := by kernel_rfl

theorem nth_zeros (n i : Nat) : nth (List.replicate n 0) i = 0 := by
  unfold nth
  simp only [List.getD_eq_getElem?_getD, List.getElem?_replicate]
  split <;> rfl

set_option maxHeartbeats 2000000 in
set_option maxRecDepth 100000 in
theorem walk (a0 : Option Addr) (cap0 : Nat) (zs : List Int) (area v tv : Int) (w : World) (g0 : Given .i64 w a0 zs) (hm : zs.length ≤ maxLen) (b0 : -9223372036854775808 ≤ area ∧ area ≤ 9223372036854775807) (b1 : 0 ≤ v ∧ v < 4294967296) (b2 : 0 ≤ tv ∧ tv < 4294967296) :
    Calls Try.prog 6 #[.agg #[.slice a0 zs.length cap0, .int .i64 area, .int .u32 v, .int .u32 tv]] w fun e w' => e = .returned (.bool true) ∧ Below w.heap.size w w' := by
  have HM := Lib.hid hm
  unfold maxLen at hm
  have hG : ∀ n, w.grownBy ((w.alloc (.cells #[.slice a0 zs.length cap0, .int .i64 area, .int .u32 v, .int .u32 tv] 54)).drewN n) none := fun n => grown_draws (grown_made w _ none) n
  go_enter Try.func6, Try.ntmps6
  go_wp2
  go_quiet (fail)
  go_wp2_with fail
  refine (rCells (g0.grown (hG _)) HM.out cap0).mono ?_
  rintro e w1 hP
  obtain ⟨hg1, va, n, vc, fl, rfl, hn, hcs⟩ := cells_cases hP
  have hg2 := grown_then (hG _) hg1 (.inl rfl)
  clear hP hg1 hG
  by_cases h8 : 8 < zs.length
  · clear hcs
    go_wp2_with fail
    refine (lAwake9 _).mono ?_
    rintro e w2 ⟨rfl, hw2⟩
    go_wp2
    go_ret
    exact ⟨rfl, below_of_grown (grown_then hg2 hw2 (.inl rfl))⟩
  rcases hcs with ⟨hz, rfl, rfl, hcs⟩ | ⟨hz, rfl, rfl⟩
  · clear hcs
    by_cases hB : tot zs ≤ 8192
    · have e1 : decide ((tot zs : Int) ≤ 8192) = true := by simp; omega
      rw [e1]
      clear e1
      by_cases h300 : 300 < tot zs
      · go_wp2_with fail
        refine (lAwake9 _).mono ?_
        rintro e w2 ⟨rfl, hw2⟩
        go_wp2
        go_ret
        exact ⟨rfl, below_of_grown (grown_then hg2 hw2 (.inl rfl))⟩
      have hmk := makeU32 (tot zs) (by omega) w1
      have hN := Lib.hid (new_zeros (g0.grown hg2) HM.out hz (tot zs) (by omega) cap0)
      go_wp2_with fail
      refine hN.out.mono ?_
      clear hN hmk
      rintro e w3 ⟨hg3, ⟨_, _, p, q, g, s, rfl, hM, ⟨n1, n2, n3, n4⟩, _⟩ | ⟨hne, rfl⟩⟩
      case inr => exact absurd hne (by omega)
      have hg4 := grown_then hg2 hg3 (.inl rfl)
      have hsz := hg2.size
      have c0 := hM.c0
      clear hg2 hg3
      by_cases hT : 0 ≤ area ∧ area < zs.length ∧ v % 4096 < sz zs area.toNat
      · obtain ⟨Ar, rfl⟩ := Int.eq_ofNat_of_zero_le hT.1
        obtain ⟨P, hP⟩ : ∃ P : Nat, v % 4096 = P := ⟨(v % 4096).toNat, by omega⟩
        have hT2 := hT.2
        rw [Int.toNat_natCast, hP] at hT2
        have hAd := cAddress hM Ar (by omega) v b1.1 b1.2 (by rw [hP]; exact hT2.2)
        rw [hP, Int.toNat_natCast] at hAd
        have hKl := pre_lt (zs := zs) (a := Ar) (p := P) (by omega) (by omega)
        have hAr := fun (W : World) (Y : List Int) (h : Mm W p q g s zs Y) => cArea h Ar P (by omega) (by omega)
        generalize pre zs Ar + P = K at *
        have HAr := Lib.hid hAr
        have HAd := Lib.hid hAd
        have HPv := Lib.hid hP
        have HSt := Lib.hid (cStore hM.cel K (by simpa using hKl) tv b2)
        clear hAr hAd hT hT2 hP
        go_wp2_with fail
        refine HAd.out.mono ?_
        rintro e w2 ⟨rfl, rfl⟩
        go_wp2_with fail
        refine HSt.out.mono ?_
        rintro e w4 ⟨rfl, hc4, ho4⟩
        have hM4 := hM.only hc4 ho4 (by simp)
        have hg5 : w.grownBy w4 none := grown_then hg4 ho4 (.inr fun x e => by injection e with e; omega)
        have c4 := hM4.c0
        have hX : ∀ i, nth ((List.replicate (tot zs) 0).set K tv) i = if K = i then tv else 0 := fun i => by
          rw [nth_set (by simpa using hKl), nth_zeros]
        have hXl : ((List.replicate (tot zs) 0).set K tv).length = tot zs := by simp
        clear hc4 ho4 HSt HAd c0 hM hg4
        generalize (List.replicate (tot zs) 0).set K tv = X at *
        have hW := Lib.hid (cWords hM4.cel)
        have HX := Lib.hid hX
        clear hX
        go_wp2_with fail
        refine hW.out.mono ?_
        rintro e w5 ⟨q5, rfl, hB5, hcel, _, hg6⟩
        have hM5 := hM4.grown hg6
        have hg7 := grown_then hg5 hg6 (.inl rfl)
        rw [hXl]
        have HXL := Lib.hid hXl
        clear hW hcel hg6 hg5 hM4 c4 hXl
        go_wp2
        go_loopw [88] (fun t wr => ∃ k : Nat, k ≤ tot zs ∧ t = .int .i64 k ∧ w5 = wr) (fun t _ => tot zs - (intOf t).toNat)
        case atStart => exact ⟨0, Nat.zero_le _, rfl, by trivial⟩
        case round =>
          obtain ⟨k, hk, rfl, rfl⟩ := hrel
          by_cases hlt : k < tot zs
          · have c1 := hB5.cell k
            rw [words_at _ k (by rw [HXL.out]; exact hlt), HX.out k] at c1
            by_cases hkK : k = K
            · subst hkK
              rw [if_pos rfl] at c1
              go_wp2
              go_roundw
              case rel => exact ⟨k + 1, by omega, by go_num, by trivial⟩
              case measure => simp [intOf]; omega
            · rw [if_neg (fun e => hkK e.symm)] at c1
              have t1 : ((k : Int) == (K : Int)) = false := by simp; omega
              have t2 : ((k : Int) != (K : Int)) = true := by simp; omega
              go_wp2
              go_roundw
              case rel => exact ⟨k + 1, by omega, by go_num, by trivial⟩
              case measure => simp [intOf]; omega
          · obtain rfl : k = tot zs := by omega
            have HA5 := Lib.hid (HAr.out w5 X hM5)
            have t1 : ((P : Int) == v % 4096) = true := by have := HPv.out; simp; omega
            clear hB5 hM5 HAr
            go_wp2_with fail
            refine HA5.out.mono ?_
            rintro e w6 ⟨rfl, rfl⟩
            go_wp2_with fail
            refine (lAwake9 _).mono ?_
            rintro e w7 ⟨rfl, hw7⟩
            go_wp2
            go_ret
            exact ⟨rfl, below_of_grown (grown_then hg7 hw7 (.inl rfl))⟩
      · have HAd := Lib.hid (cAddressNo hM area v b1.1 b1.2 (by omega))
        clear hT
        go_wp2_with fail
        refine HAd.out.mono ?_
        rintro e w2 ⟨rfl, rfl⟩
        go_wp2_with fail
        refine (lAwake9 _).mono ?_
        rintro e w4 ⟨rfl, hw4⟩
        go_wp2
        go_ret
        exact ⟨rfl, below_of_grown (grown_then hg4 hw4 (.inl rfl))⟩
    · have e1 : decide ((tot zs : Int) ≤ 8192) = false := by simp; omega
      rw [e1]
      go_wp2_with fail
      refine (lAwake9 _).mono ?_
      rintro e w2 ⟨rfl, hw2⟩
      go_wp2
      go_ret
      exact ⟨rfl, below_of_grown (grown_then hg2 hw2 (.inl rfl))⟩
  · go_wp2_with fail
    refine (lAwake9 _).mono ?_
    rintro e w2 ⟨rfl, hw2⟩
    go_wp2
    go_ret
    exact ⟨rfl, below_of_grown (grown_then hg2 hw2 (.inl rfl))⟩
set_option maxRecDepth 100000 in
theorem lifted (os : Os) (started : os.Started) (H : Type) (enc : TypeId × Value → H) :
    ReturnsInHanded {} Try.checked os 6 .any (Rows.memApartSpec.pre6 enc Try.prog Try.f6 Rows.memApartRow.domain false) (Rows.memApartSpec.post enc Try.prog Try.f6 false true false false) := by
  refine returnsInHanded_of_change (C := Try.checked) own started (by kernel_rfl) Try.func6
    (ChangeSpec.witness6 (enc := enc) (C := Try.checked) false ⟨#[], #[.agg #[.slice none 0 0, .int .i64 0, .int .u32 0, .int .u32 0]], []⟩ 8 (by kernel_rfl) (by kernel_rfl) (by kernel_rfl) (by kernel_rfl)) ?_
  intro W base args ds gs before hval0 hW hcnd _
  have hval : ∀ (j : Nat) t v, Try.f6.params[j]? = some t → args[j]? = some v → Value.okWide Try.prog W .any base t v := hval0
  have hW' := hW
  obtain ⟨p, q, hA0, hV, rfl, hfz, hnd⟩ := hW
  have hA : DataW.TrodAll enc Try.prog W 0 (fun _ => true) true Try.f6.params.toList args.toList ds p := hA0
  rw [Try.params6] at hA hval
  obtain ⟨v0, vs0, d0, ds0, p0, q0, hargs, rfl, rfl, h0, r0⟩ := trodAll_cons hA
  obtain ⟨rfl, rfl, rfl⟩ := trodAll_nil r0
  obtain rfl : args = #[v0] := by cases args; simp_all
  obtain ⟨rfl, rfl⟩ := trodVars_none hV
  have k0 := h0
  have lt0 : ∀ x ∈ p0, x.block < W.heap.size := by obtain ⟨m, hm⟩ := k0; exact DataW.trod_lt m _ _ _ hm
  obtain ⟨a0, cap0, z0, x0, y0, t0, rfl, g0, hb0, b01, b02, b03⟩ := open_put (hval 0 54 v0 rfl rfl) h0
  clear hA0 hval0
  refine (walk a0 cap0 z0 x0 y0 t0 W g0 hb0 b01 b02 b03).mono fun e W' ⟨he, bel⟩ => ?_
  subst he
  exact ⟨_, rfl, _, _, _, [], _, [], hW', trodAll_mk1 (shut_bool Try.underlying4 _), (trodAll_cons_mk (Below.trod laidOut (by kernel_rfl) (of_decide_eq_true (by kernel_rfl)) k0 bel lt0) trodAll_mk0), rfl, bel.frame _, fun h => by cases h⟩

theorem over : Rows.memApartRow.holds Try.pinned (OpenSpec.ofChange Rows.memApartSpec) :=
  OpenClaim.holds_of_wide 6 Try.f6 rfl rfl rfl rfl rfl rfl rfl ⟨rfl, rfl, rfl, rfl, rfl⟩ rfl rfl rfl rfl rfl (by kernel_rfl) Try.func6 (by kernel_rfl)
    (of_decide_eq_true (by kernel_rfl)) (by unfold Func.isWrapper; first | (rw [if_pos (by decide +kernel)]; kernel_rfl) | (rw [if_neg (by decide +kernel)]; exact ⟨rfl, rfl⟩))
    (fun os started H enc _ => lifted os started H enc)

/-- The statement. -/
theorem proved : Rows.MemApartSaid := over
#print axioms proved
end Go.Proofs.Ythhmplgheeldpaa.memApart
