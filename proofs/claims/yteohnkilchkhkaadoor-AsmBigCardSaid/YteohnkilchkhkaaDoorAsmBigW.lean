/- The walk of AsmBig. -/
import Derived.Test.YteohnkilchkhkaaDoorAsmG
namespace Go.Proofs.YteohnkilchkhkaaDoor.asmBig
open Go.ChangeShapes Go.WideShapes Go.ChangeAt Go.RowKit
set_option linter.unusedVariables false

/-- lock, unlock, and k times done 1. -/
def bigS (k : Nat) : List UInt8 := (bigL k).flatMap fun s => s ++ [10]
theorem bigS_0 : bigS 0 = [108, 111, 99, 107, 58, 10, 117, 110, 108, 111, 99, 107, 58, 10] := by decide
theorem bigS_succ (k : Nat) : bigS (k + 1) = bigS k ++ [100, 111, 110, 101, 32, 49, 10] := by
  unfold bigS bigL
  rw [List.replicate_succ']
  simp [doneW]
theorem bigS_len : ∀ k, (bigS k).length = 14 + 7 * k
  | 0 => by rw [bigS_0]; rfl
  | k + 1 => by rw [bigS_succ, List.length_append, bigS_len k]; simp; omega

set_option maxHeartbeats 1000000 in
theorem walk (n : Int) (h0 : 0 ≤ n) (h1 : n < 256) (w : World) (L : Lb w) :
    Calls Tryd.prog 4 #[.int .u8 n] w fun e w' => e = .returned (.bool true) ∧ Below w.heap.size w w' := by
  obtain ⟨k, hk, k0, k1⟩ : ∃ k : Nat, 62 + n % 5 = (k : Int) ∧ 62 ≤ k ∧ k ≤ 66 := ⟨(62 + n % 5).toNat, by omega, by omega, by omega⟩
  have HA := Lib.hid (fun W LW => cAssemble (bigS k) (by rw [bigS_len]; omega) W LW)
  have HW := Lib.hid (fun W LW => lAwake W LW)
  unfold bs at HA
  go_enter Tryd.func4, Tryd.ntmps4
  go_wp2
  generalize n % 5 = n5 at *
  go_loopw [4, 13] (fun t i wr => ∃ j : Nat, j ≤ k ∧ i = .int .i64 j ∧ t = .string ⟨(bigS j).toArray⟩ ∧ w = wr) (fun _ i _ => k - (intOf i).toNat)
  case atStart => exact ⟨0, Nat.zero_le _, rfl, by rw [bigS_0], rfl⟩
  case round =>
    obtain ⟨j, hj, rfl, rfl, rfl⟩ := hrel
    by_cases hlt : j < k
    · have hc := cat_bs (bigS j) [100, 111, 110, 101, 32, 49, 10]
      rw [← bigS_succ] at hc
      have hl := bigS_len j
      have hl2 : ¬ 9223372036854775807 < (bigS j).length + 7 := by omega
      have hji : (j : Int) < k := by omega
      have HS := Lib.hid (bigS_succ j)
      generalize bigS (j + 1) = s2 at *
      generalize hb : bigS j = s1 at *
      go_wp2
      go_roundw
      case rel => exact ⟨j + 1, by omega, by go_num, by rw [bigS_succ, hb, HS.out], by trivial⟩
      case measure =>
        show k - ((j : Int) + 1).toNat < k - (j : Int).toNat
        omega
    · obtain rfl : j = k := by omega
      have hji : ¬ (j : Int) < j := by omega
      by_cases h64 : 64 < j
      · have hi64 : (64 : Int) < j := by omega
        have hr : asmL (bigS j) = (Prg.zero, 67, 9) := big_not j h64
        unfold Asmd at HA
        rw [hr] at HA
        go_wp2_with fail
        refine (HA.out _ L).mono ?_
        rintro e x ⟨v, rfl, ⟨sl, rfl, hO⟩, hx⟩
        obtain ⟨a, cap, rfl, hc, hm, hg⟩ := own_is hO
        rw [show Prg.zero.l.length = 0 from rfl, show Prg.zero.lo = 0 from rfl, show Prg.zero.un = 0 from rfl]
        have hb : Below w.heap.size w (x.alloc (.cells #[.slice a 0 cap, .int .i64 0, .int .i64 0] 24)) := hx.alloc hx.size _
        have hK := Bk.made x 24 #[.slice a 0 cap, .int .i64 0, .int .i64 0]
        clear hg hO HA hm hc
        go_upto_region 8 with fail
        generalize x.heap.size = q at *
        generalize x.alloc (.cells #[.slice a 0 cap, .int .i64 0, .int .i64 0] 24) = y at *
        have y0 : y.cell? ⟨q, 0, none⟩ = some (.slice a 0 cap) := hK.cell 0
        go_wp2_with fail
        refine (HW.out _ (L.below hb)).mono ?_
        rintro e z ⟨rfl, hz⟩
        go_wp2
        go_ret
        exact ⟨rfl, hb.trans (hz.mono hb.size)⟩
      · have hi64 : ¬ (64 : Int) < j := by omega
        have hr : asmL (bigS j) = (⟨List.replicate j done1, 0, 0⟩, 0, 0) := big_fits j (by omega) (by omega)
        unfold Asmd at HA
        rw [hr] at HA
        go_wp2_with fail
        refine (HA.out _ L).mono ?_
        rintro e x ⟨v, rfl, ⟨sl, rfl, hO⟩, hx⟩
        simp only [List.length_replicate] at hO ⊢
        obtain ⟨a, cap, rfl, hc, hm, hg⟩ := own_is hO
        have hb : Below w.heap.size w (x.alloc (.cells #[.slice a j cap, .int .i64 0, .int .i64 0] 24)) := hx.alloc hx.size _
        have hK := Bk.made x 24 #[.slice a j cap, .int .i64 0, .int .i64 0]
        clear hg hO HA hm hc
        go_upto_region 8 with fail
        generalize x.heap.size = q at *
        generalize x.alloc (.cells #[.slice a j cap, .int .i64 0, .int .i64 0] 24) = y at *
        have y0 : y.cell? ⟨q, 0, none⟩ = some (.slice a j cap) := hK.cell 0
        go_wp2_with fail
        refine (HW.out _ (L.below hb)).mono ?_
        rintro e z ⟨rfl, hz⟩
        go_wp2
        go_ret
        exact ⟨rfl, hb.trans (hz.mono hb.size)⟩
end Go.Proofs.YteohnkilchkhkaaDoor.asmBig
