/- The document's Register, Number. -/
import Derived.Test.YteohnkilchkhkaaGreatDoorInstB
namespace Go.Proofs.YteohnkilchkhkaaGreatDoor
open Go.ChangeShapes Go.WideShapes Go.ChangeAt Go.RowKit
set_option linter.unusedVariables false

/-- The register that a word is; -1: none. -/
def regL (s : List UInt8) : Int :=
  if s.length = 2 ∧ (s.getD 0 0).toNat = 114 ∧ 48 ≤ (s.getD 1 0).toNat ∧ (s.getD 1 0).toNat ≤ 55 then ((s.getD 1 0).toNat : Int) - 48 else -1

theorem rRegister (s : List UInt8) (hl : s.length < 100000) (w : World) :
    Calls Tryz.prog 62 #[bs s] w fun e w' => e = .returned (.int .i64 (regL s)) ∧ w = w' := by
  have E : regL s = if s.length = 2 ∧ (s.getD 0 0).toNat = 114 ∧ 48 ≤ (s.getD 1 0).toNat ∧ (s.getD 1 0).toNat ≤ 55 then ((s.getD 1 0).toNat : Int) - 48 else -1 := rfl
  generalize regL s = r at *
  unfold bs
  by_cases h2 : s.length = 2
  · have i0 : ∀ w, (Instr.index 9 (.string ⟨s.toArray⟩) (.int .i64 0)).run Tryz.prog w = .ok (.int .u8 ((s.getD 0 0).toNat : Int)) w := run_ltr s 0 (by omega)
    have i1 : ∀ w, (Instr.index 9 (.string ⟨s.toArray⟩) (.int .i64 1)).run Tryz.prog w = .ok (.int .u8 ((s.getD 1 0).toNat : Int)) w := run_ltr s 1 (by omega)
    generalize (s.getD 0 0).toNat = x at *
    generalize (s.getD 1 0).toNat = y at *
    have dl : ((s.length : Int) != 2) = false := by simp; omega
    by_cases h1 : x = 114
    · subst h1
      by_cases h3 : y < 48
      · have HE := Lib.hid (E.trans (if_neg (by omega)))
        clear E h2
        have d : (y : Int) < 48 := by omega
        have d0 : ((114 : Nat) : Int) = 114 := rfl
        rw [d0] at i0
        clear d0
        go_enter Tryz.func62, Tryz.ntmps62
        go_wp2
        go_ret
        exact ⟨ret_int HE.out.symm, rfl⟩
      have d0 : ((114 : Nat) : Int) = 114 := rfl
      rw [d0] at i0
      clear d0
      by_cases h4 : 55 < y
      · have HE := Lib.hid (E.trans (if_neg (by omega)))
        clear E h2
        have d : decide ((y : Int) < 48) = false := by simp; omega
        have d2 : (y : Int) > 55 := by omega
        go_enter Tryz.func62, Tryz.ntmps62
        go_wp2
        go_ret
        exact ⟨ret_int HE.out.symm, rfl⟩
      · have HE := Lib.hid (E.trans (if_pos (by omega)))
        clear E h2
        have d : decide ((y : Int) < 48) = false := by simp; omega
        have d2 : decide ((y : Int) > 55) = false := by simp; omega
        have d3 : 48 ≤ (y : Int) := by omega
        have d4 : (y : Int) ≤ 55 := by omega
        go_enter Tryz.func62, Tryz.ntmps62
        go_wp2
        go_ret
        exact ⟨ret_int HE.out.symm, rfl⟩
    · have HE := Lib.hid (E.trans (if_neg (by omega)))
      clear E h2
      have d : ((x : Int) != 114) = true := by simp; omega
      go_enter Tryz.func62, Tryz.ntmps62
      go_wp2
      go_ret
      exact ⟨ret_int HE.out.symm, rfl⟩
  · have HE := Lib.hid (E.trans (if_neg (by omega)))
    have d : ((s.length : Int) != 2) = true := by simp; omega
    clear E
    go_enter Tryz.func62, Tryz.ntmps62
    go_wp2
    go_ret
    exact ⟨ret_int HE.out.symm, rfl⟩

/-- The number that digits spell, behind acc; none: one is none. -/
def numFrom (acc : Int) : List UInt8 → Option Int
  | [] => some acc
  | c :: r => if 48 ≤ c.toNat ∧ c.toNat ≤ 57 then numFrom (acc * 10 + ((c.toNat : Int) - 48)) r else none
def numEnd : Option Int → Int
  | none => -1
  | some n => if 4294967295 < n then -1 else n
/-- The number that a word is; -1: none. -/
def numL (s : List UInt8) : Int :=
  if s = [] ∨ 10 < s.length ∨ (1 < s.length ∧ (s.getD 0 0).toNat = 48) then -1 else numEnd (numFrom 0 s)

theorem numFrom_step (acc : Int) (s : List UInt8) (k : Nat) (h : k < s.length) :
    numFrom acc (s.drop k) = if 48 ≤ (s.getD k 0).toNat ∧ (s.getD k 0).toNat ≤ 57 then numFrom (acc * 10 + (((s.getD k 0).toNat : Int) - 48)) (s.drop (k + 1)) else none := by
  rw [List.drop_eq_getElem_cons h]
  simp [numFrom, h]

/-- So much can digits spell. -/
def roof : Nat → Int
  | 0 => 1
  | n + 1 => roof n * 10
theorem roof_le : ∀ k, k ≤ 10 → 1 ≤ roof k ∧ roof k ≤ 10000000000 := by
  intro k hk
  have : k = 0 ∨ k = 1 ∨ k = 2 ∨ k = 3 ∨ k = 4 ∨ k = 5 ∨ k = 6 ∨ k = 7 ∨ k = 8 ∨ k = 9 ∨ k = 10 := by omega
  rcases this with rfl | rfl | rfl | rfl | rfl | rfl | rfl | rfl | rfl | rfl | rfl <;> decide

set_option maxHeartbeats 1000000 in
theorem rNumber (s : List UInt8) (hl : s.length < 100000) (w : World) :
    Calls Tryz.prog 63 #[bs s] w fun e w' => e = .returned (.int .i64 (numL s)) ∧ w = w' := by
  have E : numL s = if s = [] ∨ 10 < s.length ∨ (1 < s.length ∧ (s.getD 0 0).toNat = 48) then -1 else numEnd (numFrom 0 s) := rfl
  generalize numL s = r at *
  by_cases h0 : s = []
  · subst h0
    have HE := Lib.hid (E.trans (if_pos (.inl rfl)))
    clear E
    unfold bs
    go_enter Tryz.func63, Tryz.ntmps63
    go_wp2
    go_ret
    exact ⟨ret_int HE.out.symm, rfl⟩
  have he : s.isEmpty = false := by simpa using h0
  have hpos : 0 < s.length := List.length_pos_iff.2 h0
  by_cases h10 : 10 < s.length
  · have HE := Lib.hid (E.trans (if_pos (.inr (.inl h10))))
    have d : (s.length : Int) > 10 := by omega
    clear E h0
    unfold bs
    go_enter Tryz.func63, Tryz.ntmps63
    go_wp2
    go_ret
    exact ⟨ret_int HE.out.symm, rfl⟩
  have d10 : decide ((s.length : Int) > 10) = false := by simp; omega
  have i0 : ∀ w, (Instr.index 9 (.string ⟨s.toArray⟩) (.int .i64 0)).run Tryz.prog w = .ok (.int .u8 ((s.getD 0 0).toNat : Int)) w := run_ltr s 0 hpos
  by_cases h1 : 1 < s.length ∧ (s.getD 0 0).toNat = 48
  · have HE := Lib.hid (E.trans (if_pos (.inr (.inr h1))))
    obtain ⟨h1, h48⟩ := h1
    rw [h48] at i0
    have d0 : ((48 : Nat) : Int) = 48 := rfl
    rw [d0] at i0
    clear d0
    have d : (s.length : Int) > 1 := by omega
    clear E h0 h48
    unfold bs
    go_enter Tryz.func63, Tryz.ntmps63
    go_wp2
    go_ret
    exact ⟨ret_int HE.out.symm, rfl⟩
  have E2 : r = numEnd (numFrom 0 s) := E.trans (if_neg (by
    rintro (h | h | h)
    · exact h0 h
    · exact h10 h
    · exact h1 h))
  have HE := Lib.hid E2
  clear E E2
  have HK := Lib.hid (roof_le)
  generalize (s.getD 0 0).toNat = c0 at *
  unfold bs
  have hgo : ∀ (K : Prop), ((decide ((s.length : Int) > 1) = false → K) ∧ (decide ((s.length : Int) > 1) = true → ((c0 : Int) == 48) = false → K)) → K := by
    intro K hK
    by_cases h : s.length = 1
    · exact hK.1 (by simp; omega)
    · have : c0 ≠ 48 := fun e => h1 ⟨by omega, e⟩
      exact hK.2 (by simp; omega) (by simp; omega)
  refine hgo _ ⟨fun hd1 => ?_, fun hd1 hd2 => ?_⟩
  all_goals
    clear hgo h0 h1
    go_enter Tryz.func63, Tryz.ntmps63
    go_wp2
    go_loop [3, 4] (fun n i => ∃ (k : Nat) (v : Int), k ≤ s.length ∧ i = .int .i64 k ∧ n = .int .i64 v ∧ 0 ≤ v ∧ v < roof k ∧ r = numEnd (numFrom v (s.drop k))) (fun _ i => s.length - (intOf i).toNat)
    case atStart => exact ⟨0, 0, Nat.zero_le _, rfl, rfl, by omega, by decide, HE.out⟩
    case round =>
      obtain ⟨k, v, hk, rfl, rfl, v0, v1, hr⟩ := hrel
      obtain ⟨q0, q1⟩ := HK.out k (by omega)
      by_cases hlt : k < s.length
      · have ix := run_ltr s k hlt
        rw [numFrom_step v s k hlt] at hr
        have hrf : roof (k + 1) = roof k * 10 := rfl
        have hu := (s.getD k 0).toNat_lt
        generalize (s.getD k 0).toNat = c at *
        have HR := Lib.hid hr
        have HF := Lib.hid hrf
        clear hr hrf
        by_cases c1 : c < 48
        · rw [if_neg (by omega)] at HR
          have d1 : (c : Int) < 48 := by omega
          go_wp2
          go_ret
          exact ⟨ret_int HR.out.symm, rfl⟩
        by_cases c2 : 57 < c
        · rw [if_neg (by omega)] at HR
          have d1 : decide ((c : Int) < 48) = false := by simp; omega
          have d2 : (c : Int) > 57 := by omega
          go_wp2
          go_ret
          exact ⟨ret_int HR.out.symm, rfl⟩
        · rw [if_pos (by omega)] at HR
          have d1 : decide ((c : Int) < 48) = false := by simp; omega
          have d2 : decide ((c : Int) > 57) = false := by simp; omega
          have d3 : 48 ≤ (c : Int) := by omega
          have d4 : (c : Int) ≤ 57 := by omega
          have hv9 : v < 10000000000 := by omega
          have hk10 : (k : Int) ≤ 10 := by omega
          go_wp2
          go_round
          case rel => exact ⟨k + 1, v * 10 + ((c : Int) - 48), by omega, by go_num, rfl, by omega, by rw [HF.out]; omega, HR.out⟩
          case measure => simp [intOf]; omega
      · obtain rfl : k = s.length := by omega
        rw [List.drop_length] at hr
        have HR := Lib.hid (show r = if 4294967295 < v then -1 else v from hr)
        clear hr
        by_cases hv : 4294967295 < v
        · rw [if_pos hv] at HR
          go_wp2
          go_ret
          exact ⟨ret_int HR.out.symm, rfl⟩
        · rw [if_neg hv] at HR
          go_wp2
          go_ret
          exact ⟨ret_int HR.out.symm, rfl⟩
end Go.Proofs.YteohnkilchkhkaaGreatDoor
