/- The document's Name, Goes, find. -/
import Derived.Test.YteohnkilchkhkaaGreatDoorAsmM
import Derived.Test.YteohnkilchkhkaaGreatDoorAsmA
import Derived.Test.YteohnkilchkhkaaGreatDoorInstY
import Derived.Test.YteohnkilchkhkaaGreatDoorInstR
namespace Go.Proofs.YteohnkilchkhkaaGreatDoor
open Go.ChangeShapes Go.WideShapes Go.ChangeAt Go.RowKit
set_option linter.unusedVariables false

set_option maxHeartbeats 1000000 in
theorem rGoes (i : Ins) (w : World) :
    Calls Tryz.prog 30 #[iv i] w fun e w' => e = .returned (.bool (goesB i)) ∧ Below w.heap.size w w' := by
  have HX : Hid (goesB i = ((decide (8 ≤ i.op) && decide (i.op ≤ 10)) || (decide (i.op = 21) && decide (0 ≤ i.pl)))) := Lib.hid rfl
  generalize goesB i = r at *
  obtain ⟨op, d, s, t, u, a, k, pl⟩ := i
  unfold iv
  simp only at HX ⊢
  have k1 := Bk.made w 62 #[.int .i64 op, .int .i64 d, .int .i64 s, .int .i64 t, .int .i64 u, .int .i64 a, .int .u32 k, .int .i64 pl]
  have b0 : Below w.heap.size w (w.alloc (.cells #[.int .i64 op, .int .i64 d, .int .i64 s, .int .i64 t, .int .i64 u, .int .i64 a, .int .u32 k, .int .i64 pl] 62)) := (Below.refl _ _).alloc (Nat.le_refl _) _
  go_enter Tryz.func30, Tryz.ntmps30
  go_upto_region 1 with fail
  generalize w.alloc (.cells #[.int .i64 op, .int .i64 d, .int .i64 s, .int .i64 t, .int .i64 u, .int .i64 a, .int .u32 k, .int .i64 pl] 62) = x at *
  obtain ⟨c0, c7⟩ : x.cell? ⟨w.heap.size, 0, none⟩ = some (.int .i64 op) ∧ x.cell? ⟨w.heap.size, 7, none⟩ = some (.int .i64 pl) := ⟨k1.cell 0, k1.cell 7⟩
  by_cases h1 : 8 ≤ op
  · by_cases h2 : op ≤ 10
    · have HQ : Hid (r = true) := Lib.hid (by rw [HX.out]; simp [h1, h2])
      clear HX
      go_wp2
      go_ret
      exact ⟨by rw [HQ.out]; rfl, b0⟩
    · by_cases h3 : op = 21
      · have e3 : (op == 21) = true := by simpa using h3
        by_cases h4 : 0 ≤ pl
        · have HQ : Hid (r = true) := Lib.hid (by rw [HX.out]; simp [h3, h4])
          subst h3
          clear HX
          go_wp2
          go_ret
          exact ⟨by rw [HQ.out]; rfl, b0⟩
        · have HQ : Hid (r = false) := Lib.hid (by rw [HX.out]; simp [h2, h4])
          subst h3
          clear HX
          go_wp2
          go_ret
          exact ⟨by rw [HQ.out]; rfl, b0⟩
      · have e3 : (op == 21) = false := by simpa using h3
        have HQ : Hid (r = false) := Lib.hid (by rw [HX.out]; simp [h2, h3])
        clear HX h3
        go_wp2
        go_ret
        exact ⟨by rw [HQ.out]; rfl, b0⟩
  · have h3 : ¬ op = 21 := by omega
    have e3 : (op == 21) = false := by simpa using h3
    have HQ : Hid (r = false) := Lib.hid (by rw [HX.out]; simp [h1, h3])
    clear HX h3
    go_wp2
    go_ret
    exact ⟨by rw [HQ.out]; rfl, b0⟩

theorem all_drop (s : List UInt8) (f : UInt8 → Bool) (n : Nat) (h : n < s.length) : (s.drop n).all f = (f (s.getD n 0) && (s.drop (n + 1)).all f) := by
  rw [List.drop_eq_getElem_cons h, List.all_cons]
  simp [List.getD_eq_getElem?_getD, h]

set_option maxHeartbeats 1000000 in
theorem rName07 (s : List UInt8) (w : World) :
    Calls Tryz.prog 19 #[bs s] w fun e w' => e = .returned (.bool (nameB s)) ∧ w' = w := by
  have HX : Hid (nameB s = (decide (1 ≤ s.length) && (decide (s.length ≤ 16) && (lowB (s.getD 0 0) && s.all fun c => lowB c || digB c)))) := Lib.hid rfl
  generalize nameB s = r at *
  unfold bs
  by_cases h1 : 1 ≤ s.length
  · have i1 : ¬ (s.length : Int) < 1 := by omega
    by_cases h2 : s.length ≤ 16
    · have i2 : ¬ (16 : Int) < s.length := by omega
      have hix := fun W => run_ltr s 0 (by omega) W
      simp only [Int.natCast_zero] at hix
      have HL : Hid (lowB (s.getD 0 0) = (decide (97 ≤ (s.getD 0 0).toNat) && decide ((s.getD 0 0).toNat ≤ 122))) := Lib.hid rfl
      generalize (s.getD 0 0) = c0 at *
      by_cases h3 : 97 ≤ c0.toNat
      · by_cases h4 : c0.toNat ≤ 122
        · have HR : Hid (r = (s.drop 0).all fun c => lowB c || digB c) := Lib.hid (by rw [HX.out, HL.out]; simp [h1, h2, h3, h4])
          clear HX HL
          generalize c0.toNat = q0 at *
          have z1 : ¬ (q0 : Int) < 97 := by omega
          have z2 : ¬ (122 : Int) < q0 := by omega
          go_enter Tryz.func19, Tryz.ntmps19
          go_wp2
          clear hix z1 z2
          go_loopw [2, 3] (fun v i wr => ∃ n : Nat, v = .bool false ∧ i = .int .i64 n ∧ n ≤ s.length ∧ wr = w ∧ Hid (r = (s.drop n).all fun c => lowB c || digB c)) (fun _ i _ => s.length - (intOf i).toNat)
          case atStart => exact ⟨0, rfl, rfl, by omega, rfl, HR⟩
          case round =>
            obtain ⟨n, rfl, rfl, hn, rfl, HA⟩ := hrel
            by_cases hlt : n < s.length
            · have hii : (n : Int) < s.length := by omega
              have hix := fun W => run_ltr s n hlt W
              have HD := Lib.hid (all_drop s (fun c => lowB c || digB c) n hlt)
              have HL : Hid ((lowB (s.getD n 0) || digB (s.getD n 0)) = ((decide (97 ≤ (s.getD n 0).toNat) && decide ((s.getD n 0).toNat ≤ 122)) || (decide (48 ≤ (s.getD n 0).toNat) && decide ((s.getD n 0).toNat ≤ 57)))) := Lib.hid rfl
              generalize s.getD n 0 = ch at *
              simp only [HL.out] at HD
              clear HL
              generalize ch.toNat = c at *
              by_cases y1 : (97 ≤ c ∧ c ≤ 122) ∨ (48 ≤ c ∧ c ≤ 57)
              · have HB : Hid (r = (s.drop (n + 1)).all fun c => lowB c || digB c) := Lib.hid (by
                  rw [HA.out, HD.out]
                  rcases y1 with ⟨a, b⟩ | ⟨a, b⟩ <;> simp [a, b])
                clear HA HD
                rcases y1 with ⟨a, b⟩ | ⟨a, b⟩
                · have z1 : (97 : Int) ≤ c := by omega
                  have z2 : (c : Int) ≤ 122 := by omega
                  go_wp2
                  all_goals (
                    go_roundw
                    case rel => exact ⟨n + 1, rfl, by go_num, by omega, by trivial, HB⟩
                    case measure =>
                      show s.length - ((n : Int) + 1).toNat < s.length - (n : Int).toNat
                      omega)
                · have z1 : ¬ (97 : Int) ≤ c := by omega
                  have z2 : (48 : Int) ≤ c := by omega
                  have z3 : (c : Int) ≤ 57 := by omega
                  go_wp2
                  all_goals (
                    go_roundw
                    case rel => exact ⟨n + 1, rfl, by go_num, by omega, by trivial, HB⟩
                    case measure =>
                      show s.length - ((n : Int) + 1).toNat < s.length - (n : Int).toNat
                      omega)
              · have HB : Hid (r = false) := Lib.hid (by
                  rw [HA.out, HD.out]
                  have : ((decide (97 ≤ c) && decide (c ≤ 122)) || (decide (48 ≤ c) && decide (c ≤ 57))) = false := by
                    simp only [Bool.or_eq_false_iff, Bool.and_eq_false_iff, decide_eq_false_iff_not]
                    omega
                  rw [this]; rfl)
                clear HA HD
                by_cases z1 : (97 : Int) ≤ c
                · have z2 : ¬ (c : Int) ≤ 122 := by omega
                  have z3 : (48 : Int) ≤ c := by omega
                  have z4 : ¬ (c : Int) ≤ 57 := by omega
                  clear y1
                  go_wp2
                  go_ret
                  exact ⟨by rw [HB.out]; rfl, rfl⟩
                · by_cases z3 : (48 : Int) ≤ c
                  · have z4 : ¬ (c : Int) ≤ 57 := by omega
                    clear y1
                    go_wp2
                    go_ret
                    exact ⟨by rw [HB.out]; rfl, rfl⟩
                  · clear y1
                    go_wp2
                    go_ret
                    exact ⟨by rw [HB.out]; rfl, rfl⟩
            · have hii : ¬ (n : Int) < s.length := by omega
              have HB : Hid (r = true) := Lib.hid (by rw [HA.out, List.drop_eq_nil_of_le (by omega)]; rfl)
              clear HA
              go_wp2
              go_ret
              exact ⟨by rw [HB.out]; rfl, rfl⟩
        · have HR : Hid (r = false) := Lib.hid (by rw [HX.out, HL.out]; simp [h4])
          clear HX HL
          generalize c0.toNat = q0 at *
          have z1 : ¬ (q0 : Int) < 97 := by omega
          have z2 : (122 : Int) < q0 := by omega
          go_enter Tryz.func19, Tryz.ntmps19
          go_wp2
          go_ret
          exact ⟨by rw [HR.out]; rfl, rfl⟩
      · have HR : Hid (r = false) := Lib.hid (by rw [HX.out, HL.out]; simp [h3])
        clear HX HL
        generalize c0.toNat = q0 at *
        have z1 : (q0 : Int) < 97 := by omega
        go_enter Tryz.func19, Tryz.ntmps19
        go_wp2
        go_ret
        exact ⟨by rw [HR.out]; rfl, rfl⟩
    · have i2 : (16 : Int) < s.length := by omega
      have HR : Hid (r = false) := Lib.hid (by rw [HX.out]; simp [h2])
      clear HX
      go_enter Tryz.func19, Tryz.ntmps19
      go_wp2
      go_ret
      exact ⟨by rw [HR.out]; rfl, rfl⟩
  · have i1 : (s.length : Int) < 1 := by omega
    have HR : Hid (r = false) := Lib.hid (by rw [HX.out]; simp [h1])
    clear HX
    go_enter Tryz.func19, Tryz.ntmps19
    go_wp2
    go_ret
    exact ⟨by rw [HR.out]; rfl, rfl⟩
end Go.Proofs.YteohnkilchkhkaaGreatDoor
