/- asm.isPlace, asm.Right. -/
import Derived.Test.YtpinpipjlongaaaPrg
import Derived.Test.YtpinpipjlongaaaInstB
import Derived.Deep.CutBlock
namespace Go.Proofs.Ytpinpipjlongaaa
open Go.ChangeShapes Go.WideShapes Go.ChangeAt Go.RowKit
set_option linter.unusedVariables false

theorem cIsPlace (p n : Int) (w : World) : Calls Try.prog 30 #[.int .i64 p, .int .i64 n] w fun e w' => e = .returned (.bool (decide (0 ≤ p) && decide (p < n))) ∧ w = w' := by
  by_cases h1 : 0 ≤ p
  · by_cases h2 : p < n
    · go_enter Try.func30, Try.ntmps30
      go_wp2
      go_ret
      exact ⟨by simp [h1, h2], rfl⟩
    · go_enter Try.func30, Try.ntmps30
      go_wp2
      go_ret
      exact ⟨by simp; omega, rfl⟩
  · go_enter Try.func30, Try.ntmps30
    go_wp2
    go_ret
    exact ⟨by simp; omega, rfl⟩

set_option maxHeartbeats 1000000 in
theorem cAsmRightK (c : Prg) (v : Value) (w : World) (hv : Pv w v c) (hw : ∀ i ∈ c.l, 0 ≤ i.k ∧ i.k < 4294967296) :
    Calls Try.prog 16 #[v] w fun e w' => e = .returned (.bool (prgB c)) ∧ Below w.heap.size w w' := by
  obtain ⟨a, ca, rfl, hc1, hc2, _, ha⟩ := hv
  have k1 := Bk.made w 24 #[.slice a c.l.length ca, .int .i64 c.lo, .int .i64 c.un]
  have b0 : Below w.heap.size w (w.alloc (.cells #[.slice a c.l.length ca, .int .i64 c.lo, .int .i64 c.un] 24)) := (Below.refl _ _).alloc (Nat.le_refl _) _
  replace ha := ha.below b0
  go_enter Try.func16, Try.ntmps16
  go_upto_region 1 with fail
  generalize w.alloc (.cells #[.slice a c.l.length ca, .int .i64 c.lo, .int .i64 c.un] 24) = x at *
  obtain ⟨x0, x1, x2⟩ : x.cell? ⟨w.heap.size, 0, none⟩ = some (.slice a c.l.length ca) ∧ x.cell? ⟨w.heap.size, 1, none⟩ = some (.int .i64 c.lo) ∧ x.cell? ⟨w.heap.size, 2, none⟩ = some (.int .i64 c.un) := ⟨k1.cell 0, k1.cell 1, k1.cell 2⟩
  by_cases h1 : 1 ≤ c.l.length
  case neg =>
    have HF := Lib.hid (prgB_few (c := c) (by omega))
    have i1 : (c.l.length : Int) < 1 := by omega
    go_wp2
    go_ret
    exact ⟨by rw [HF.out]; rfl, b0⟩
  case pos =>
    have i1 : ¬ (c.l.length : Int) < 1 := by omega
    by_cases h2 : c.l.length ≤ 64
    case neg =>
      have HF := Lib.hid (prgB_few (c := c) (by omega))
      have i2 : (64 : Int) < c.l.length := by omega
      go_wp2
      go_ret
      exact ⟨by rw [HF.out]; rfl, b0⟩
    case pos =>
      have i2 : ¬ (64 : Int) < c.l.length := by omega
      have HP := Lib.hid (prgB_is c h1 h2)
      go_wp2
      go_loopw [2, 18] (fun q i wr => ∃ k : Nat, q = .bool false ∧ i = .int .i64 k ∧ k ≤ c.l.length ∧ Below x.heap.size x wr ∧ Hid (∀ j i, c.l[j]? = some i → j < k → rightB i c.l.length = true)) (fun _ i _ => c.l.length - (intOf i).toNat)
      case atStart => exact ⟨0, rfl, rfl, Nat.zero_le _, Below.refl _ _, Lib.hid (fun _ _ _ h => by omega)⟩
      case round =>
        obtain ⟨k, rfl, rfl, hk, hb, HA⟩ := hrel
        have hbw := b0.trans (hb.mono b0.size)
        by_cases hlt : k < c.l.length
        · have hki : (k : Int) < c.l.length := by omega
          have hge := List.getElem?_eq_getElem hlt
          obtain ⟨g, off, rfl, hgl, e0, e1, e2, e3, e4, e5, e6, e7⟩ := (ha.below hb).at_ hge
          have hWf := hw _ (List.getElem_mem hlt)
          have HG := Lib.hid hge
          clear hge
          generalize c.l[k] = i at *
          have HR := Lib.hid (fun W => cRight i (c.l.length : Int) hWf.1 hWf.2 W)
          obtain ⟨op, d, s, t, u, a', k', pl⟩ := i
          simp only at e0 e1 e2 e3 e4 e5 e6 e7
          go_upto_region 7 with fail
          have m2 := Ib.made wr op d s t u a' k' pl
          replace hb := hb.alloc (o := .cells #[.int .i64 op, .int .i64 d, .int .i64 s, .int .i64 t, .int .i64 u, .int .i64 a', .int .u32 k', .int .i64 pl] 55) hb.size
          clear e0 e1 e2 e3 e4 e5 e6 e7 hbw
          generalize wr.heap.size = q at *
          generalize wr.alloc (.cells #[.int .i64 op, .int .i64 d, .int .i64 s, .int .i64 t, .int .i64 u, .int .i64 a', .int .u32 k', .int .i64 pl] 55) = y at *
          have hbw := b0.trans (hb.mono b0.size)
          obtain ⟨e0, e1, e2, e3, e4, e5, e6, e7⟩ := m2.cells
          simp only at e0 e1 e2 e3 e4 e5 e6 e7
          go_wp2_with fail
          refine (HR.out y).mono ?_
          rintro e z ⟨rfl, hz⟩
          replace hb := hb.trans (hz.mono hb.size)
          replace hbw := hbw.trans (hz.mono hbw.size)
          cases hq : rightB ⟨op, d, s, t, u, a', k', pl⟩ c.l.length with
          | true =>
            have HA2 : Hid (∀ j i, c.l[j]? = some i → j < k + 1 → rightB i c.l.length = true) := Lib.hid fun j i hj hjk => by
              by_cases e : j = k
              · subst e
                rw [HG.out] at hj
                injection hj with hj
                subst hj
                exact hq
              · exact HA.out j i hj (by omega)
            clear hq HA HR HG
            go_wp2
            go_roundw
            case rel => exact ⟨k + 1, rfl, by go_num, by omega, hb, HA2⟩
            case measure =>
              show c.l.length - ((k : Int) + 1).toNat < c.l.length - (k : Int).toNat
              omega
          | false =>
            have HQ : Hid (prgB c = false) := Lib.hid (by
              rw [HP.out]
              have : (c.l.all fun i => rightB i c.l.length) = false := by
                rw [List.all_eq_false]
                exact ⟨_, List.mem_of_getElem? HG.out, by rw [hq]; simp⟩
              rw [this]; rfl)
            clear hq HA HR HG
            go_wp2
            go_ret
            exact ⟨by rw [HQ.out]; rfl, hbw⟩
        · have hki : ¬ (k : Int) < c.l.length := by omega
          have hall : (c.l.all fun i => rightB i c.l.length) = true := by
            rw [List.all_eq_true]
            intro i hi
            obtain ⟨j, hj, rfl⟩ := List.getElem_of_mem hi
            exact HA.out j _ (List.getElem?_eq_getElem hj) (by omega)
          rw [hall, Bool.true_and] at HP
          have HI1 := Lib.hid (fun W => cIsPlace c.lo (c.l.length : Int) W)
          have HI2 := Lib.hid (fun W => cIsPlace c.un (c.l.length : Int) W)
          replace x1 : wr.cell? ⟨w.heap.size, 1, none⟩ = some (.int .i64 c.lo) := (hb.cell (p := ⟨w.heap.size, 1, none⟩) k1.lt).trans x1
          replace x2 : wr.cell? ⟨w.heap.size, 2, none⟩ = some (.int .i64 c.un) := (hb.cell (p := ⟨w.heap.size, 2, none⟩) k1.lt).trans x2
          clear HA hall x0
          generalize (decide (0 ≤ c.lo) && decide (c.lo < c.l.length)) = q1 at *
          generalize (decide (0 ≤ c.un) && decide (c.un < c.l.length)) = q2 at *
          go_wp2_with fail
          refine (HI1.out wr).mono ?_
          rintro e z ⟨rfl, rfl⟩
          cases q1 with
          | false =>
            go_wp2
            go_ret
            exact ⟨by rw [HP.out]; rfl, hbw⟩
          | true =>
            go_wp2_with fail
            refine (HI2.out wr).mono ?_
            rintro e z ⟨rfl, rfl⟩
            go_wp2
            go_ret
            exact ⟨by rw [HP.out]; simp, hbw⟩
theorem cAsmRight (c : Prg) (v : Value) (w : World) (hv : Pv w v c) (hw : ∀ i ∈ c.l, i.Wf) :
    Calls Try.prog 16 #[v] w fun e w' => e = .returned (.bool (prgB c)) ∧ Below w.heap.size w w' := cAsmRightK c v w hv fun i hi => ⟨(hw i hi).k0, (hw i hi).k1⟩
end Go.Proofs.Ytpinpipjlongaaa
