/- The document's Right of a program. -/
import Derived.Test.YtpinpipjlongaaaPrg
import Derived.Test.YtpinpipjlongaaaInstW
namespace Go.Proofs.Ytpinpipjlongaaa
open Go.ChangeShapes Go.WideShapes Go.ChangeAt Go.RowKit
set_option linter.unusedVariables false

set_option maxHeartbeats 2000000 in
theorem rRightP (c : Prg) (v : Value) (w : World) (hv : Pv w v c) (hw : ∀ i ∈ c.l, i.Wf) :
    Calls Try.prog 14 #[v] w fun e w' => e = .returned (.bool (prgB c)) ∧ Below w.heap.size w w' := by
  obtain ⟨a, ca, rfl, hc1, hc2, _, ha⟩ := hv
  have k1 := Bk.made w 34 #[.slice a c.l.length ca, .int .i64 c.lo, .int .i64 c.un]
  have b0 : Below w.heap.size w (w.alloc (.cells #[.slice a c.l.length ca, .int .i64 c.lo, .int .i64 c.un] 34)) := (Below.refl _ _).alloc (Nat.le_refl _) _
  replace ha := ha.below b0
  go_enter Try.func14, Try.ntmps14
  go_upto_region 1 with fail
  generalize w.alloc (.cells #[.slice a c.l.length ca, .int .i64 c.lo, .int .i64 c.un] 34) = x at *
  obtain ⟨x0, x1, x2⟩ : x.cell? ⟨w.heap.size, 0, none⟩ = some (.slice a c.l.length ca) ∧ x.cell? ⟨w.heap.size, 1, none⟩ = some (.int .i64 c.lo) ∧ x.cell? ⟨w.heap.size, 2, none⟩ = some (.int .i64 c.un) := ⟨k1.cell 0, k1.cell 1, k1.cell 2⟩
  by_cases h1 : 1 ≤ c.l.length
  case neg =>
    have HF := Lib.hid (prgB_few (c := c) (by omega))
    have i1 : (c.l.length : Int) < 1 := by omega
    go_wp2
    go_ret
    exact ⟨by rw [HF.out]; rfl, b0⟩
  case pos =>
    have i1 : ¬ (c.l.length : Int) < 1 := by omega
    by_cases h2 : c.l.length ≤ 64
    case neg =>
      have HF := Lib.hid (prgB_few (c := c) (by omega))
      have i2 : (64 : Int) < c.l.length := by omega
      go_wp2
      go_ret
      exact ⟨by rw [HF.out]; rfl, b0⟩
    case pos =>
      have i2 : ¬ (64 : Int) < c.l.length := by omega
      have HP := Lib.hid (prgB_is c h1 h2)
      by_cases hb1 : c.lo < 0 ∨ c.un < 0 ∨ (c.l.length : Int) ≤ c.lo ∨ (c.l.length : Int) ≤ c.un
      case pos =>
        have HF : Hid (prgB c = false) := Lib.hid (by
          rw [HP.out]
          have : ((decide (0 ≤ c.lo) && decide (c.lo < c.l.length)) && (decide (0 ≤ c.un) && decide (c.un < c.l.length))) = false := by
            simp only [Bool.and_eq_false_iff, decide_eq_false_iff_not]
            omega
          rw [this]; simp)
        generalize c.lo = lo at *
        generalize c.un = un at *
        clear HP
        by_cases z1 : lo < 0
        · clear hb1; go_wp2; go_ret; exact ⟨by rw [HF.out]; rfl, b0⟩
        by_cases z2 : un < 0
        · clear hb1; go_wp2; go_ret; exact ⟨by rw [HF.out]; rfl, b0⟩
        by_cases z3 : (c.l.length : Int) ≤ lo
        · clear hb1; go_wp2; go_ret; exact ⟨by rw [HF.out]; rfl, b0⟩
        have z4 : (c.l.length : Int) ≤ un := by omega
        clear hb1; go_wp2; go_ret; exact ⟨by rw [HF.out]; rfl, b0⟩
      have z1 : ¬ c.lo < 0 := by omega
      have z2 : ¬ c.un < 0 := by omega
      have z3 : ¬ (c.l.length : Int) ≤ c.lo := by omega
      have z4 : ¬ (c.l.length : Int) ≤ c.un := by omega
      have HP2 : Hid (prgB c = (c.l.all fun i => rightB i c.l.length)) := Lib.hid (by
        rw [HP.out]
        have : ((decide (0 ≤ c.lo) && decide (c.lo < c.l.length)) && (decide (0 ≤ c.un) && decide (c.un < c.l.length))) = true := by
          simp only [Bool.and_eq_true, decide_eq_true_eq]
          omega
        rw [this]; simp)
      clear HP hb1
      go_wp2
      go_loopw [2, 40] (fun q i wr => ∃ k : Nat, q = .bool false ∧ i = .int .i64 k ∧ k ≤ c.l.length ∧ Below x.heap.size x wr ∧ Hid (∀ j i, c.l[j]? = some i → j < k → rightB i c.l.length = true)) (fun _ i _ => c.l.length - (intOf i).toNat)
      case atStart => exact ⟨0, rfl, rfl, Nat.zero_le _, Below.refl _ _, Lib.hid (fun _ _ _ h => by omega)⟩
      case round =>
        obtain ⟨k, rfl, rfl, hk, hb, HA⟩ := hrel
        have hbw := b0.trans (hb.mono b0.size)
        by_cases hlt : k < c.l.length
        · have hki : (k : Int) < c.l.length := by omega
          have hge := List.getElem?_eq_getElem hlt
          obtain ⟨g, off, rfl, hgl, e0, e1, e2, e3, e4, e5, e6, e7⟩ := (ha.below hb).at_ hge
          have hWf := hw _ (List.getElem_mem hlt)
          have HG := Lib.hid hge
          clear hge
          generalize c.l[k] = i at *
          have HR := Lib.hid (fun W => rRight i (c.l.length : Int) hWf.k0 hWf.k1 W)
          obtain ⟨op, d, s, t, u, a', k', pl⟩ := i
          simp only at e0 e1 e2 e3 e4 e5 e6 e7
          go_upto_region 7 with fail
          have m2 := Jb.made wr op d s t u a' k' pl
          replace hb := hb.alloc (o := .cells #[.int .i64 op, .int .i64 d, .int .i64 s, .int .i64 t, .int .i64 u, .int .i64 a', .int .u32 k', .int .i64 pl] 87) hb.size
          clear e0 e1 e2 e3 e4 e5 e6 e7 hbw
          generalize wr.heap.size = q at *
          generalize wr.alloc (.cells #[.int .i64 op, .int .i64 d, .int .i64 s, .int .i64 t, .int .i64 u, .int .i64 a', .int .u32 k', .int .i64 pl] 87) = y at *
          have hbw := b0.trans (hb.mono b0.size)
          obtain ⟨e0, e1, e2, e3, e4, e5, e6, e7⟩ := m2.cells
          simp only at e0 e1 e2 e3 e4 e5 e6 e7
          go_wp2_with fail
          refine (HR.out y).mono ?_
          rintro e z ⟨rfl, hz⟩
          replace hb := hb.trans (hz.mono hb.size)
          replace hbw := hbw.trans (hz.mono hbw.size)
          cases hq : rightB ⟨op, d, s, t, u, a', k', pl⟩ c.l.length with
          | true =>
            have HA2 : Hid (∀ j i, c.l[j]? = some i → j < k + 1 → rightB i c.l.length = true) := Lib.hid fun j i hj hjk => by
              by_cases e : j = k
              · subst e
                rw [HG.out] at hj
                injection hj with hj
                subst hj
                exact hq
              · exact HA.out j i hj (by omega)
            clear hq HA HR HG
            go_wp2
            go_roundw
            case rel => exact ⟨k + 1, rfl, by go_num, by omega, hb, HA2⟩
            case measure =>
              show c.l.length - ((k : Int) + 1).toNat < c.l.length - (k : Int).toNat
              omega
          | false =>
            have HQ : Hid (prgB c = false) := Lib.hid (by
              rw [HP2.out]
              have : (c.l.all fun i => rightB i c.l.length) = false := by
                rw [List.all_eq_false]
                exact ⟨_, List.mem_of_getElem? HG.out, by rw [hq]; simp⟩
              rw [this])
            clear hq HA HR HG
            go_wp2
            go_ret
            exact ⟨by rw [HQ.out]; rfl, hbw⟩
        · have hki : ¬ (k : Int) < c.l.length := by omega
          have hall : (c.l.all fun i => rightB i c.l.length) = true := by
            rw [List.all_eq_true]
            intro i hi
            obtain ⟨j, hj, rfl⟩ := List.getElem_of_mem hi
            exact HA.out j _ (List.getElem?_eq_getElem hj) (by omega)
          have HQ : Hid (prgB c = true) := Lib.hid (by rw [HP2.out, hall])
          clear HA hall
          go_wp2
          go_ret
          exact ⟨by rw [HQ.out]; rfl, hbw⟩
end Go.Proofs.Ytpinpipjlongaaa
