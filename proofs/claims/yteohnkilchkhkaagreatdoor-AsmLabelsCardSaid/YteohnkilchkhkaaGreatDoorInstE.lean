/- inst.opNamed, inst.valueAt. -/
import Derived.Test.YteohnkilchkhkaaGreatDoorInstD
namespace Go.Proofs.YteohnkilchkhkaaGreatDoor
open Go.ChangeShapes Go.WideShapes Go.ChangeAt Go.RowKit
set_option linter.unusedVariables false

theorem opFrom_succ (w : List UInt8) (n : Nat) (k : Int) : opFrom w (n + 1) k = if (hsL k).isEmpty = false ∧ nmL k = w then k else opFrom w n (k + 1) := rfl

theorem cOpNamed (s : List UInt8) (w : World) :
    Calls Tryz.prog 82 #[bs s] w fun e w' => e = .returned (.int .i64 (opN s)) ∧ w = w' := by
  have HE := Lib.hid (show opN s = opFrom s 23 1 from rfl)
  generalize opN s = r at *
  unfold bs
  go_enter Tryz.func82, Tryz.ntmps82
  go_wp2
  go_loop [3] (fun v => ∃ k : Nat, 1 ≤ k ∧ k ≤ 24 ∧ v = .int .i64 k ∧ r = opFrom s (24 - k) k) (fun v => 24 - (intOf v).toNat)
  case atStart => exact ⟨1, by omega, by omega, rfl, HE.out⟩
  case round =>
    obtain ⟨k, h1, h24, rfl, hr⟩ := hrel
    by_cases hk : k ≤ 23
    · have e1 : 24 - k = (24 - (k + 1)) + 1 := by omega
      rw [e1, opFrom_succ] at hr
      have HF := Lib.hid (cForm k w)
      have hk2 : (k : Int) ≤ 23 := by omega
      have HR := Lib.hid hr
      clear hr e1
      generalize hsL k = hs at *
      generalize nmL k = nm at *
      go_wp2_with fail
      refine HF.out.mono ?_
      rintro e w' ⟨rfl, rfl⟩
      unfold bs
      by_cases he : hs = []
      · subst he
        rw [if_neg (by simp)] at HR
        go_wp2
        go_round
        case rel => exact ⟨k + 1, by omega, by omega, by go_num, by rw [HR.out]; rfl⟩
        case measure => simp [intOf]; omega
      have he1 : hs.isEmpty = false := by simpa using he
      by_cases hq : nm = s
      · subst hq
        rw [if_pos ⟨he1, rfl⟩] at HR
        have hq1 : (nm == nm) = true := by simp
        go_wp2
        go_ret
        exact ⟨ret_int HR.out.symm, rfl⟩
      · have hq1 : (nm == s) = false := by simpa using hq
        rw [if_neg (fun h => hq h.2)] at HR
        go_wp2
        go_round
        case rel => exact ⟨k + 1, by omega, by omega, by go_num, by rw [HR.out]; rfl⟩
        case measure => simp [intOf]; omega
    · obtain rfl : k = 24 := by omega
      go_wp2
      go_ret
      exact ⟨ret_int rfl, rfl⟩

theorem cValueAt (v : Value) (ws : List (List UInt8)) (n : Nat) (hn : n < 100) (hw : ∀ l ∈ ws, l.length < 4294967281) (w : World) (hs : Strs w v ws) (L : Lb w) :
    Calls Tryz.prog 83 #[v, .int .i64 n] w fun e w' => e = .returned (.int .i64 (valAt ws n)) ∧ Below w.heap.size w w' := by
  obtain ⟨g, cap, rfl, hc1, hc2, hg, hcell⟩ := hs
  by_cases hlt : n < ws.length
  · have hx := hcell n hlt
    have hmem : ws.getD n [] ∈ ws := by simp [hlt]
    have E : valAt ws n = valL (ws.getD n []) := by unfold valAt; rw [if_pos hlt]
    have hl := hw _ hmem
    generalize ws.getD n [] = l at *
    clear hmem hcell
    generalize valAt ws n = r at *
    have HT := Lib.hid (fun W => lTrim l [114] W)
    have htl : (Lib.trimPrefix l [114]).length ≤ 4294967281 := by
      unfold Lib.trimPrefix
      split
      · simp; omega
      · omega
    unfold bs at hx
    by_cases h1 : l = [101, 113]
    · subst h1
      have HE := Lib.hid (E.trans (show valL [101, 113] = 0 from rfl))
      clear E
      go_enter Tryz.func83, Tryz.ntmps83
      go_wp2
      go_ret
      exact ⟨ret_int HE.out.symm, Below.refl _ _⟩
    by_cases h2 : l = [110, 101]
    · subst h2
      have HE := Lib.hid (E.trans (show valL [110, 101] = 1 from rfl))
      clear E
      go_enter Tryz.func83, Tryz.ntmps83
      go_wp2
      go_ret
      exact ⟨ret_int HE.out.symm, Below.refl _ _⟩
    have b1 : (l == [101, 113]) = false := by simpa using h1
    have b2 : (l == [110, 101]) = false := by simpa using h2
    unfold valL at E
    rw [if_neg h1, if_neg h2] at E
    clear h1 h2
    generalize Lib.trimPrefix l [114] = tl at *
    cases ha : Lib.atoiAll tl with
    | ok x =>
      rw [ha] at E
      have HE := Lib.hid E
      have HA := Lib.hid (fun W => lAtoiOk tl (by omega) x ha W)
      clear E ha
      go_enter Tryz.func83, Tryz.ntmps83
      go_wp2_with fail
      refine (HT.out _).mono ?_
      rintro e w' ⟨rfl, rfl⟩
      go_wp2_with fail
      refine (HA.out _).mono ?_
      rintro e y ⟨rfl, hy⟩
      go_wp2
      go_ret
      exact ⟨ret_int HE.out.symm, hy⟩
    | _ =>
      rw [ha] at E
      have HE := Lib.hid E
      have HA := Lib.hid (fun W LW => lAtoiNo tl (by omega) (by rw [ha]; intro v h; cases h) W LW)
      clear E ha
      go_enter Tryz.func83, Tryz.ntmps83
      go_wp2_with fail
      refine (HT.out _).mono ?_
      rintro e w' ⟨rfl, rfl⟩
      go_wp2_with fail
      refine (HA.out _ L).mono ?_
      rintro e y ⟨x, b, rfl, hy⟩
      go_wp2
      go_ret
      exact ⟨ret_int HE.out.symm, hy⟩
  · have E : valAt ws n = -1 := by unfold valAt; rw [if_neg hlt]
    have HE := Lib.hid E
    clear E hcell
    generalize valAt ws n = r at *
    generalize ws.length = m at *
    go_enter Tryz.func83, Tryz.ntmps83
    go_wp2
    go_ret
    exact ⟨ret_int HE.out.symm, Below.refl _ _⟩
end Go.Proofs.YteohnkilchkhkaaGreatDoor
